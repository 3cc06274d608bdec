import PyProof.Rows.All
import Wide.All
import OpenK.AllK
import Wide.FinOn
import KE.KStateDown
import HandS.Base
import HandS.Call
import HandS.Ends
import HandS.List
import HandS.Comp
import HandS.Iter
import HandS.More
import HandS.Words
import HandS.WordsList
import HandS.WordsExc
import HandS.Defaults
import HandS.Wide
import HandS.IsInst
import HandS.Walk
import HandS.Star
import HandS.Conv
import HandS.Zip
import HandS.TupAny
import KE.KEqSeq
import KE.KEqDeep
import KE.KRevSl
import HandS.Head0
import HandS.Head1
import HandS.Head2
import HandS.HeadEnd
import HandS.HeadHook1
import HandS.HeadHook2
import HandS.Sort
import HandS.Dict
import HandS.WordsDict
import HandS.Style
import HandS.Finally
import HandS.DictComp
import HandS.Exc
import HandS.ExcInit
import HandS.ExcIs
import HandS.ExcField
import KE.KExcIs
import HandS.ExcOwn
import HandS.CallSlots
import HandS.Text
import HandS.Deep
import HandS.Flow
import HandS.TryMany
import HandS.SortInts
import HandS.DictEq
import HandS.Strs
import HandS.HeadHook3
import HandS.Replace
import HandS.StrMore
import PySem.Challenge.RW_sherdhall_k65_scores_of_houses
set_option Elab.async false
set_option linter.all false
set_option maxRecDepth 100000
set_option maxHeartbeats 4000000
namespace Cm
open PySem PySem.Spec PyProof.Rows L2
/-! ### a def, known by its name -/
def Dn (P : Program) (w : World) (K : PySem.W.Frag) (mg : Str → Option Value) (base : Heap) (CX : CXT) (k : Nat) (x : Str) (ps : List Str) (sp : Sp) : Prop :=
  ∃ (f : Addr) (fd : FuncData), FnOk P w K mg base CX k f fd ps sp ∧ mg x = some (.ref f) ∧ PySem.W.keepIn K (.ref f) = true ∧ Binds K fd ps [] ∧ ∃ oc od osl, K.lookup f = some ⟨oc, od, .func fd, osl⟩
/-- where a def without defaults stands -/
def At (K : PySem.W.Frag) (mg : Str → Option Value) (x : Str) (st : Stmt) (ps : List Str) : Prop :=
  ∃ (f : Addr) (fd : FuncData), FunD K x x (defArgs st) (defBody st) (defScope st) [] [] f fd ∧ mg x = some (.ref f) ∧ Binds K fd ps []
theorem _root_.L2.FunD.look {K : PySem.W.Frag} {x qual : Str} {params : Arguments} {body : List Stmt} {scope : Scope} {dvs : List V} {kws : List (Str × V)} {f : Addr} {fd : FuncData} (F : FunD K x qual params body scope dvs kws f fd) : ∃ oc od osl, K.lookup f = some ⟨oc, od, .func fd, osl⟩ := by
  obtain ⟨oc, od, dV, kV, doc, pm, an, cdv, ct, osl, rfl, lk, _⟩ := F.ex
  exact ⟨_, _, _, lk⟩
section
variable {P : Program} {w : World} {K : PySem.W.Frag} {mg : Str → Option Value} {base : Heap}
theorem ok0 {x : Str} {st : Stmt} {N ps : List Str} {k : Nat} {sp : Sp} {f : Addr} {fd : FuncData} (F : FunD K x x (defArgs st) (defBody st) (defScope st) [] [] f fd) (S : FnScope N ps (defScope st)) (len : ∀ vs H Q E, sp vs H Q E → vs.length = ps.length)
    (hbody : ∀ (f : Addr) (cdv : Value) (A : Around) (outer : List Env) (s : Shared) (H : Hp) (vs : List V) (Q : VK) (E : XK), Room k (A.deeper (envOfC x (defScope st) s.heap.objs.size f cdv)) → sp vs H Q E →
      ∃ t, PSs (cxOf CX0 P w K mg base N x (defScope st) f cdv A outer s H E).nox (defBody st) t ∧ t { nx := fun _ H' => Q .non H', rt := Q } (start N vs) H) : FnOk P w K mg base CX0 (k + 1) f fd ps sp := by
  refine F.ok S len fun cdv A outer s H vs Q E hr h => ?_
  obtain ⟨t, h1, h2⟩ := hbody f cdv A outer s H vs Q E hr h
  exact ⟨t, h1.nox, h2⟩
theorem At.ok {x : Str} {st : Stmt} {N ps : List Str} {k : Nat} {sp : Sp} (F : At K mg x st ps) (S : FnScope N ps (defScope st)) (len : ∀ vs H Q E, sp vs H Q E → vs.length = ps.length)
    (hbody : ∀ (f : Addr) (cdv : Value) (A : Around) (outer : List Env) (s : Shared) (H : Hp) (vs : List V) (Q : VK) (E : XK), Room k (A.deeper (envOfC x (defScope st) s.heap.objs.size f cdv)) → sp vs H Q E →
      ∃ t, PSs (cxOf CX0 P w K mg base N x (defScope st) f cdv A outer s H E).nox (defBody st) t ∧ t { nx := fun _ H' => Q .non H', rt := Q } (start N vs) H) : Dn P w K mg base CX0 (k + 1) x ps sp := by
  obtain ⟨f, fd, F, hm, hb⟩ := F
  refine ⟨f, fd, F.ok S len fun cdv A outer s H vs Q E hr h => ?_, hm, F.kp, hb, F.look⟩
  obtain ⟨t, h1, h2⟩ := hbody f cdv A outer s H vs Q E hr h
  exact ⟨t, h1.nox, h2⟩
end
section
variable {X : Cx} {k : Nat} {x : Str} {ps : List Str} {sp : Sp} {p pos : Pos} {e : Expr} {es : List Expr} {t : TA}
theorem pe_callD (D : Dn X.prog X.w X.K X.mg X.base CX0 k x ps sp) (hr : Room k X.A) (ha : PA X (e :: es) t) (hg : Gl X x := by rfl) (hdb : (x == ("__debug__" : Str)) = false := by decide)
    (he : starEach (e :: es) X.env = (false, eval e X.env) :: starEach es X.env := by rfl) (hpl : (backTo pos (starEach es X.env)).any (·.1) = false := by rfl) :
    PE X (.Call (.Name x p) (e :: es) [] pos) (tCall sp [] E0 t) := by
  obtain ⟨f, fd, F, hm, hk, hb, _⟩ := D
  exact pe_call F hr hg hm hk hb .nil pass0 ha hdb he hpl
end
/-! ### powers of ints of any size -/
def CPowW (i j : Int) : Prop := 0 ≤ j ∧ (Builtin.Int.intBits i : Int) * j ≤ 2 ^ 27
theorem CPowW.mk {i : Int} {n a : Nat} (ha : i.natAbs < 2 ^ a) (h0 : 0 < a) (h : a * n ≤ 100000000) : CPowW i n := by
  refine ⟨Int.natCast_nonneg _, ?_⟩
  have b : Builtin.Int.intBits i ≤ i.natAbs.log2 + 1 := by
    unfold Builtin.Int.intBits
    split <;> omega
  have x := PySem.Flt.log2_lt_of h0 ha
  have c : Builtin.Int.intBits i ≤ a := by omega
  have d : Builtin.Int.intBits i * n ≤ a * n := Nat.mul_le_mul_right _ c
  have e : ((Builtin.Int.intBits i * n : Nat) : Int) ≤ ((100000000 : Nat) : Int) := Int.ofNat_le.mpr (Nat.le_trans d h)
  rw [Int.natCast_mul] at e
  have e2 : ((100000000 : Nat) : Int) ≤ 2 ^ 27 := by decide
  exact Int.le_trans e e2
theorem op_powW {X : Cx} : OpR X (binaryOp .Pow) (rI CPowW fun i j => .int (i ^ j.toNat)) := opI fun _ _ _ _ _ _ _ hc q => pow_int hc.1 hc.2 q
/-! ### tests -/
theorem iteD {c A B : Prop} [Decidable c] (h1 : c → A) (h2 : ¬ c → B) : if decide c = true then A else B := by
  by_cases h : c
  · rw [decide_eq_true h]; exact iteT (h1 h)
  · rw [decide_eq_false h]; exact iteF (h2 h)
theorem iteDn {c A B : Prop} [Decidable c] (h1 : ¬ c → A) (h2 : c → B) : if (!decide c) = true then A else B := by
  by_cases h : c
  · rw [decide_eq_true h]; exact iteF (h2 h)
  · rw [decide_eq_false h]; exact iteT (h1 h)
theorem iteI {x y : Int} {A B : Prop} (h1 : x = y → A) (h2 : ¬ x = y → B) : if decide (V.int x = V.int y) = true then A else B :=
  iteD (fun h => h1 (V.int.inj h)) (fun h => h2 fun e => h (congrArg V.int e))
theorem iteIn {x y : Int} {A B : Prop} (h1 : ¬ x = y → A) (h2 : x = y → B) : if (!decide (V.int x = V.int y)) = true then A else B :=
  iteDn (fun h => h1 fun e => h (congrArg V.int e)) (fun h => h2 (V.int.inj h))
theorem iteB {b : Bool} {A B : Prop} (h1 : b = true → A) (h2 : b = false → B) : if b = true then A else B := by
  cases b with
  | true => exact iteT (h1 rfl)
  | false => exact iteF (h2 rfl)
theorem iteBn {b : Bool} {A B : Prop} (h1 : b = false → A) (h2 : b = true → B) : if (!b) = true then A else B := by
  cases b with
  | true => exact iteF (h2 rfl)
  | false => exact iteT (h1 rfl)
/-! ### heaps -/
/-- all that was tracked, but p, is as it was -/
def Kp (p : Addr) (H H' : Hp) : Prop := ∀ b o, H b = some o → b ≠ p → H' b = some o
theorem Kp.refl (p : Addr) (H : Hp) : Kp p H H := fun _ _ h _ => h
theorem Kp.trans {p : Addr} {H H1 H2 : Hp} (a : Kp p H H1) (b : Kp p H1 H2) : Kp p H H2 := fun c o h n => b c o (a c o h n) n
theorem Kp.of {p : Addr} {H H1 : Hp} (a : Same H H1) : Kp p H H1 := fun c o h _ => a c o h
theorem Kp.new {p a : Addr} {H : Hp} {o : HO} (n : H a = none) : Kp p H (upd H a o) := fun c u h _ => by rw [upd_ne (ne_of_none h n)]; exact h
theorem Kp.put {p : Addr} {H : Hp} {o : HO} : Kp p H (upd H p o) := fun c u h n => by rw [upd_ne n]; exact h
theorem Same.new {a : Addr} {H : Hp} {o : HO} (n : H a = none) : Same H (upd H a o) := fun c u h => by rw [upd_ne (ne_of_none h n)]; exact h
theorem old {H : Hp} {a p : Addr} {o u : HO} (h : H a = some u) (n : H p = none) : upd H p o a = some u := by rw [upd_ne (ne_of_none h n)]; exact h
/-- p was free ahead: what is kept but p is kept -/
theorem Kp.same {p : Addr} {H0 H H' : Hp} (s : Same H0 H) (n : H0 p = none) (k : Kp p H H') : Same H0 H' := fun b o h => k b o (s b o h) (ne_of_none h n)
end Cm
namespace Cm
open PySem PySem.Spec PyProof.Rows L2
theorem at_ints {ns : List Int} {k : Int} (h0 : 0 ≤ k) (h : k < ns.length) : ∃ z, z ∈ ns ∧ ns[k.toNat]? = some z ∧ atI (ns.map V.int) k = some (.int z) := by
  have hk : k.toNat < ns.length := by omega
  refine ⟨ns[k.toNat], List.getElem_mem _, List.getElem?_eq_getElem hk, ?_⟩
  obtain ⟨j, rfl⟩ : ∃ j : Nat, k = (j : Int) := ⟨k.toNat, by omega⟩
  refine atI_nat ?_
  rw [List.getElem?_map, List.getElem?_eq_getElem (by omega)]
  rfl
theorem p10_18 : (10 : Int) ^ (18 : Int).toNat = 1000000000000000000 := by decide
end Cm
namespace Cm
open PySem PySem.Spec PyProof.Rows L2
/-! ### comprehensions that leave what stood -/
section
variable {J : It} {n : Nat} {G : Hp → Prop} {Y : Nat → Hp → V → Hp → Prop}
theorem lc_map (w : Walk J n G Y) {g : TG} {tt : TT} {te : TE} {vs : List Nat} {σ : L2.St} {H1 : Hp} {D : Addr} {Qd : Hp → Prop} (f : Nat → V) (hD : H1 D = none) (hn : n ≤ sizeLine) (hG : ∀ H, Same H1 H → G H)
    (hs : ∀ i x H H' (R : V → Hp → Prop) (R' : Hp → Prop), i < n → Same H1 H → Y i H x H' → (∀ H4, Same H H4 → R (f i) H4) → g x (wipe σ vs) H' fun σ2 H2 => wipe σ2 vs = wipe σ vs ∧ tt σ2 H2 fun b H3 => if b = true then te σ2 H3 R else R' H3)
    (hd : ∀ H, Same H1 H → H D = some (.lst ((List.range n).map f)) → Qd H) :
    ∃ W : Nat → Nat → Hp → Prop, (∃ m, W 0 m (upd H1 D (.lst []))) ∧ ∀ i m H, W i m H →
      (J.stop i H ∧ Qd H) ∨ (J.go i H ∧ ∃ Nx : Hp → Prop, (∀ H', Nx H' → ∃ m', m' < m ∧ W (i + 1) m' H') ∧ ∀ x H', J.yld i H x H' → g x (wipe σ vs) H' fun σ2 H2 => wipe σ2 vs = wipe σ vs ∧ tt σ2 H2 fun b H3 =>
        if b = true then te σ2 H3 fun y H4 => ∃ acc, H4 D = some (.lst acc) ∧ acc.length < sizeLine ∧ Nx (upd H4 D (.lst (acc ++ [y]))) else Nx H3) := by
  refine lc_it w (fun i H => Same H1 H ∧ H D = some (.lst ((List.range i).map f))) ⟨Same.new hD, upd_same⟩ (fun i H _ p => hG H p.1) ?_ (fun H p => hd H p.1 p.2)
  intro i x H H' hi p y
  refine hs i x H H' _ _ hi p.1 y fun H4 s4 => ?_
  refine ⟨_, s4 _ _ p.2, by rw [List.length_map, List.length_range]; omega, fun b o e => ?_, ?_⟩
  · rw [upd_ne (ne_of_none e hD)]
    exact s4 _ _ (p.1 _ _ e)
  · rw [upd_same, List.range_succ, List.map_append]
    rfl
theorem lc_ints (w : Walk J n G Y) {g : TG} {tt : TT} {te : TE} {vs : List Nat} {σ : L2.St} {H1 : Hp} {D : Addr} {Qd : Hp → Prop} (f : Nat → Int) (hD : H1 D = none) (hn : n ≤ sizeLine) (hG : ∀ H, Same H1 H → G H)
    (hs : ∀ i x H H' (R : V → Hp → Prop) (R' : Hp → Prop), i < n → Same H1 H → Y i H x H' → (∀ H4, Same H H4 → R (.int (f i)) H4) → g x (wipe σ vs) H' fun σ2 H2 => wipe σ2 vs = wipe σ vs ∧ tt σ2 H2 fun b H3 => if b = true then te σ2 H3 R else R' H3)
    (hd : ∀ H, Same H1 H → H D = some (.lst (((List.range n).map f).map V.int)) → Qd H) :
    ∃ W : Nat → Nat → Hp → Prop, (∃ m, W 0 m (upd H1 D (.lst []))) ∧ ∀ i m H, W i m H →
      (J.stop i H ∧ Qd H) ∨ (J.go i H ∧ ∃ Nx : Hp → Prop, (∀ H', Nx H' → ∃ m', m' < m ∧ W (i + 1) m' H') ∧ ∀ x H', J.yld i H x H' → g x (wipe σ vs) H' fun σ2 H2 => wipe σ2 vs = wipe σ vs ∧ tt σ2 H2 fun b H3 =>
        if b = true then te σ2 H3 fun y H4 => ∃ acc, H4 D = some (.lst acc) ∧ acc.length < sizeLine ∧ Nx (upd H4 D (.lst (acc ++ [y]))) else Nx H3) :=
  lc_map w (fun i => .int (f i)) hD hn hG hs fun H s e => hd H s (by rw [e, List.map_map]; rfl)
theorem lc_bools (w : Walk J n G Y) {g : TG} {tt : TT} {te : TE} {vs : List Nat} {σ : L2.St} {H1 : Hp} {D : Addr} {Qd : Hp → Prop} (f : Nat → Bool) (hD : H1 D = none) (hn : n ≤ sizeLine) (hG : ∀ H, Same H1 H → G H)
    (hs : ∀ i x H H' (R : V → Hp → Prop) (R' : Hp → Prop), i < n → Same H1 H → Y i H x H' → (∀ H4, Same H H4 → R (.bl (f i)) H4) → g x (wipe σ vs) H' fun σ2 H2 => wipe σ2 vs = wipe σ vs ∧ tt σ2 H2 fun b H3 => if b = true then te σ2 H3 R else R' H3)
    (hd : ∀ H, Same H1 H → H D = some (.lst (((List.range n).map f).map V.bl)) → Qd H) :
    ∃ W : Nat → Nat → Hp → Prop, (∃ m, W 0 m (upd H1 D (.lst []))) ∧ ∀ i m H, W i m H →
      (J.stop i H ∧ Qd H) ∨ (J.go i H ∧ ∃ Nx : Hp → Prop, (∀ H', Nx H' → ∃ m', m' < m ∧ W (i + 1) m' H') ∧ ∀ x H', J.yld i H x H' → g x (wipe σ vs) H' fun σ2 H2 => wipe σ2 vs = wipe σ vs ∧ tt σ2 H2 fun b H3 =>
        if b = true then te σ2 H3 fun y H4 => ∃ acc, H4 D = some (.lst acc) ∧ acc.length < sizeLine ∧ Nx (upd H4 D (.lst (acc ++ [y]))) else Nx H3) :=
  lc_map w (fun i => .bl (f i)) hD hn hG hs fun H s e => hd H s (by rw [e, List.map_map]; rfl)
end
/-! ### plain values and their built-in types -/
inductive Ty (K : PySem.W.Frag) (H : Hp) : V → String → Prop where
  | non : Ty K H .non "NoneType"
  | bl (x : Bool) : Ty K H (.bl x) "bool"
  | int (i : Int) : Ty K H (.int i) "int"
  | str (x : Str) : Ty K H (.str x) "str"
  | lst {a : Addr} {xs : List V} (e : SqL K H a xs) : Ty K H (.ref a) "list"
  | tup {a : Addr} {xs : List V} (e : SqT K H a xs) : Ty K H (.ref a) "tuple"
  | dK {a : Addr} {kvs : List (Key × V)} (e : H a = some (.dK kvs)) : Ty K H (.ref a) "dict"
theorem Ty.x {K : PySem.W.Frag} {H : Hp} {v : V} {n : String} (h : Ty K H v n) : TyX K H v (.type n) := by
  cases h with
  | non => exact .base .non
  | bl x => exact .base (.bl x)
  | int i => exact .base (.int i)
  | str x => exact .base (.str x)
  | lst e =>
    rcases e with (e | ⟨o, e⟩) | ⟨o, its, n, hk, hc, _⟩
    · exact .base (.lst e)
    · exact .base (.frz e)
    · exact .kList hk hc
  | tup e =>
    rcases e with (e | ⟨o, e⟩) | ⟨o, its, n, hk, hc, _⟩
    · exact .base (.tup e)
    · exact .fTuple e
    · exact .kTuple hk hc
  | dK e => exact .base (.dK e)
theorem Same.sqt {K : PySem.W.Frag} {H H' : Hp} {a : Addr} {xs : List V} (e : Same H H') (h : SqT K H a xs) : SqT K H' a xs := by
  rcases h with (h | ⟨o, h⟩) | h
  · exact .inl (.inl (e _ _ h))
  · exact .inl (.inr ⟨o, e _ _ h⟩)
  · exact .inr h
theorem Ty.same {K : PySem.W.Frag} {H H' : Hp} {v : V} {n : String} (s : Same H H') (h : Ty K H v n) : Ty K H' v n := by
  cases h with
  | non => exact .non
  | bl x => exact .bl x
  | int i => exact .int i
  | str x => exact .str x
  | lst e => exact .lst (s.seq e)
  | tup e => exact .tup (Same.sqt s e)
  | dK e => exact .dK (s _ _ e)
theorem Ty.names {K : PySem.W.Frag} {H : Hp} {v : V} {n : String} (h : Ty K H v n) : n ∈ ["NoneType", "bool", "int", "str", "list", "tuple", "dict"] := by
  cases h <;> decide
theorem kit_names {c : String} (hc : c ∈ ["bool", "int", "str", "list", "tuple", "dict"]) {n : String} (h : n ∈ ["NoneType", "bool", "int", "str", "list", "tuple", "dict"]) : kitB n c = some (n == c || (n == "bool" && c == "int")) := by
  have key : ∀ c ∈ ["bool", "int", "str", "list", "tuple", "dict"], ∀ n ∈ ["NoneType", "bool", "int", "str", "list", "tuple", "dict"], kitB n c = some (n == c || (n == "bool" && c == "int")) := by decide +kernel
  exact key c hc n h
theorem Ty.kit {K : PySem.W.Frag} {H : Hp} {v : V} {n : String} (h : Ty K H v n) (c : String) (hc : c ∈ ["bool", "int", "str", "list", "tuple", "dict"] := by decide) : PySem.W.kitOne K (.type n) (.type c) = some (n == c || (n == "bool" && c == "int")) := kit_ty (kit_names hc h.names)
end Cm
namespace Cm
open L2
theorem small1000' {n : Nat} (h : n ≤ 1000000) : n ≤ PySem.sizeLine := Nat.le_trans h (by decide)
end Cm
namespace Cm
open L2
theorem map_get {α : Type} [Inhabited α] {c : α → V} {xs : List α} {i : Nat} {x : V} (h : i < xs.length) (e : (xs.map c)[i]? = some x) : x = c (xs.getD i default) := by
  rw [List.getElem?_map, List.getElem?_eq_getElem h] at e
  simp [List.getD, h]
  exact (Option.some.inj e).symm
theorem getD_in {α : Type} [Inhabited α] {xs : List α} {i : Nat} (h : i < xs.length) : xs.getD i default ∈ xs := by
  simp [List.getD, h]
end Cm
namespace Cm
open PySem PySem.Spec PyProof.Rows L2
/-! ### == of lists and tuples of ints -/
theorem dp_ints {K : PySem.W.Frag} {H : Hp} : ∀ xs : List Int, DpAll K H (xs.map V.int) (xs.map PyData.int)
  | [] => .nil
  | x :: xs => .cons (.int x) (dp_ints xs)
theorem dpL {K : PySem.W.Frag} {H : Hp} {a : Addr} {xs : List Int} (h : SqL K H a (xs.map V.int)) : Dp K H (.ref a) (.list (xs.map PyData.int)) := .lst h (dp_ints xs)
theorem dpT {K : PySem.W.Frag} {H : Hp} {a : Addr} {xs : List Int} (h : SqT K H a (xs.map V.int)) : Dp K H (.ref a) (.tuple (xs.map PyData.int)) := .tup h (dp_ints xs)
theorem shL (ns : List Int) : SeqAt.shaped (.list (ns.map PyData.int)) = true := PySem.W.ke_shaped_ints ns
theorem shT (ns : List Int) : SeqAt.shaped (.tuple (ns.map PyData.int)) = true := by
  have h := shL ns
  unfold SeqAt.shaped at h ⊢
  simp only [PyData.canLay0, PyData.depth] at h ⊢
  exact h
theorem eqvL (xs ys : List Int) : PyData.eqv (.list (xs.map PyData.int)) (.list (ys.map PyData.int)) = decide (xs = ys) := by rw [PyData.eqv, PySem.W.ked_eqvAll]
theorem eqvT (xs ys : List Int) : PyData.eqv (.tuple (xs.map PyData.int)) (.tuple (ys.map PyData.int)) = decide (xs = ys) := by rw [PyData.eqv, PySem.W.ked_eqvAll]
end Cm
namespace Cm
theorem range_map {α β : Type} [Inhabited α] (g : α → β) (xs : List α) : (List.range xs.length).map (fun i => g (xs.getD i default)) = xs.map g := by
  apply List.ext_getElem?
  intro i
  by_cases h : i < xs.length
  · simp [List.getD, h]
  · have h2 : xs.length ≤ i := by omega
    rw [List.getElem?_eq_none (by simpa using h2), List.getElem?_eq_none (by simpa using h2)]
end Cm
namespace Cm
open PySem PySem.Spec PyProof.Rows L2
/-- zip of two tuples, as a walk -/
theorem walk_zipT {K : PySem.W.Frag} {a b : Addr} {xs ys : List V} {n : Nat} (hn : n = min xs.length ys.length) : Walk (RZ.ItzT K a b) n (fun H => SqT K H a xs ∧ SqT K H b ys) (YPair (fun i => xs[i]?) (fun i => ys[i]?)) := by
  subst hn
  refine ⟨fun i _ hi q => ?_, fun _ q => ⟨xs, ys, q.1, q.2, by omega⟩, fun i H v H' _ q y => ?_⟩
  · have h1 : i < xs.length := by omega
    have h2 : i < ys.length := by omega
    exact ⟨xs, ys, xs[i], ys[i], q.1, q.2, by simp [h1], by simp [h2]⟩
  · obtain ⟨T, x, z, h1, h2, h3, h4, h5⟩ := y
    exact ⟨T, x, z, h1, h2, h3, h4 xs q.1, h5 ys q.2⟩
/-- a def that is never called so -/
theorem At.none {P : Program} {w : World} {K : PySem.W.Frag} {mg : Str → Option Value} {base : Heap} {x : Str} {st : Stmt} {ps : List Str} (F : At K mg x st ps) (k : Nat) : Dn P w K mg base CX0 k x ps (fun _ _ _ _ => False) := by
  obtain ⟨f, fd, F, hm, hb⟩ := F
  exact ⟨f, fd, ⟨fun _ _ _ _ h => h.elim, fun _ _ _ _ _ _ _ _ _ _ _ _ _ h => h.elim⟩, hm, F.kp, hb, F.look⟩
end Cm
namespace Cm
open PySem PySem.Spec PyProof.Rows L2
theorem Dn.mono {P : Program} {w : World} {K : PySem.W.Frag} {mg : Str → Option Value} {base : Heap} {j k : Nat} {x : Str} {ps : List Str} {sp : Sp} (D : Dn P w K mg base CX0 j x ps sp) (h : j ≤ k) : Dn P w K mg base CX0 k x ps sp := by
  obtain ⟨f, fd, F, r⟩ := D
  exact ⟨f, fd, F.mono h, r⟩
theorem Dn.imp {P : Program} {w : World} {K : PySem.W.Frag} {mg : Str → Option Value} {base : Heap} {k : Nat} {x : Str} {ps : List Str} {sp sp' : Sp} (D : Dn P w K mg base CX0 k x ps sp) (h : ∀ vs H Q E, sp' vs H Q E → sp vs H Q E) : Dn P w K mg base CX0 k x ps sp' := by
  obtain ⟨f, fd, F, r⟩ := D
  exact ⟨f, fd, F.imp h, r⟩
/-- two promises of one def -/
theorem Dn.or {P : Program} {w : World} {K : PySem.W.Frag} {mg : Str → Option Value} {base : Heap} {k : Nat} {x : Str} {ps : List Str} {sp1 sp2 : Sp} (D : Dn P w K mg base CX0 k x ps sp1) (D' : Dn P w K mg base CX0 k x ps sp2) :
    Dn P w K mg base CX0 k x ps (fun vs H Q E => sp1 vs H Q E ∨ sp2 vs H Q E) := by
  obtain ⟨f, fd, F, hm, hk, hb, oc, od, osl, lk⟩ := D
  obtain ⟨f', fd', F', hm', _, _, oc', od', osl', lk'⟩ := D'
  rw [hm] at hm'
  cases hm'
  rw [lk] at lk'
  cases lk'
  refine ⟨f, fd, ⟨fun vs H Q E h => ?_, fun A outer s H args us vs Q E hr e b v h => ?_⟩, hm, hk, hb, oc, od, osl, lk⟩
  · rcases h with h | h
    · exact F.len _ _ _ _ h
    · exact F'.len _ _ _ _ h
  · rcases h with h | h
    · exact F.run A outer s H args us vs Q E hr e b v h
    · exact F'.run A outer s H args us vs Q E hr e b v h
end Cm
namespace Cm
open PySem PySem.Spec PyProof.Rows L2
section
variable {J : It} {n : Nat} {G : Hp → Prop} {Y : Nat → Hp → V → Hp → Prop}
/-- .. with a test: the values f i for which p holds -/
theorem lc_filt {α : Type} (c : α → V) (w : Walk J n G Y) {g : TG} {tt : TT} {te : TE} {vs : List Nat} {σ : L2.St} {H1 : Hp} {D : Addr} {Qd : Hp → Prop} (f : Nat → α) (p : α → Bool) (hD : H1 D = none) (hn : n ≤ sizeLine) (hG : ∀ H, Same H1 H → G H)
    (hs : ∀ i x H H' (R : V → Hp → Prop) (R' : Hp → Prop), i < n → Same H1 H → Y i H x H' → (∀ H4, Same H H4 → p (f i) = true → R (c (f i)) H4) → (∀ H4, Same H H4 → p (f i) = false → R' H4) → g x (wipe σ vs) H' fun σ2 H2 => wipe σ2 vs = wipe σ vs ∧ tt σ2 H2 fun b H3 => if b = true then te σ2 H3 R else R' H3)
    (hd : ∀ H, Same H1 H → H D = some (.lst ((((List.range n).map f).filter p).map c)) → Qd H) :
    ∃ W : Nat → Nat → Hp → Prop, (∃ m, W 0 m (upd H1 D (.lst []))) ∧ ∀ i m H, W i m H →
      (J.stop i H ∧ Qd H) ∨ (J.go i H ∧ ∃ Nx : Hp → Prop, (∀ H', Nx H' → ∃ m', m' < m ∧ W (i + 1) m' H') ∧ ∀ x H', J.yld i H x H' → g x (wipe σ vs) H' fun σ2 H2 => wipe σ2 vs = wipe σ vs ∧ tt σ2 H2 fun b H3 =>
        if b = true then te σ2 H3 fun y H4 => ∃ acc, H4 D = some (.lst acc) ∧ acc.length < sizeLine ∧ Nx (upd H4 D (.lst (acc ++ [y]))) else Nx H3) := by
  refine lc_it w (fun i H => Same H1 H ∧ H D = some (.lst ((((List.range i).map f).filter p).map c))) ⟨Same.new hD, upd_same⟩ (fun i H _ p => hG H p.1) ?_ (fun H p => hd H p.1 p.2)
  intro i x H H' hi ps y
  have e : ((((List.range (i + 1)).map f).filter p).map c) = ((((List.range i).map f).filter p).map c) ++ (if p (f i) = true then [c (f i)] else []) := by
    rw [List.range_succ, List.map_append, List.filter_append, List.map_append]
    congr 1
    by_cases h : p (f i) = true
    · simp [h]
    · simp [h]
  refine hs i x H H' _ _ hi ps.1 y (fun H4 s4 pt => ?_) fun H4 s4 pf => ?_
  · refine ⟨_, s4 _ _ ps.2, ?_, fun b o e => ?_, ?_⟩
    · have := List.length_filter_le p ((List.range i).map f)
      rw [List.length_map] at this ⊢
      rw [List.length_range] at this
      omega
    · rw [upd_ne (ne_of_none e hD)]
      exact s4 _ _ (ps.1 _ _ e)
    · rw [upd_same, e, if_pos pt]
  · refine ⟨fun b o e => s4 _ _ (ps.1 _ _ e), ?_⟩
    rw [e, if_neg (by rw [pf]; decide), List.append_nil]
    exact s4 _ _ ps.2
end
end Cm
namespace Cm
open PySem PySem.Spec PyProof.Rows L2
/-! ### sum of a tuple of ints -/
section
variable {prog : Program} {w : World} {A : Around} {E : Value → Shared → Prop} {s : Shared} {l : Addr} {xs : Array (Int × Tok)}
theorem sum_tupG {Q : Value → Shared → Prop} (hh : A.handled = none) (hl : s.heap.IsTuple l (intItems xs))
    (h : ∀ h' tk t', (∀ b o, s.heap.get? b = some o → h'.get? b = some o) → Q (.int (preSum (numAt xs) xs.size) t') { s with heap := h', toks := tk }) :
    wpAny (model prog w) A (call (.builtin "sum") [.ref l]) Q E s := by
  have hlt : l < s.heap.objs.size := by obtain ⟨_, e, _⟩ := hl; exact Heap.lt_size e
  refine call_sum_walkG (wpAny_pyIter_tuple hl ?_)
  refine ⟨_, _, _, _, _, _, numAt xs, rfl, Walks.tuple (A := A.in1) hh _ l (Nat.ne_of_lt hlt) (intItems xs), ⟨⟨_, Heap.get?_push_size _ rfl, rfl, rfl⟩, hl.push _⟩, (fun b hb => ?_), (fun _ _ => intItems_at), fun h' tk t' hk => ?_⟩
  · show b < (s.heap.push _).objs.size
    rw [Heap.size_push]
    rcases List.mem_cons.mp hb with rfl | hb
    · exact Nat.lt_succ_self _
    · rcases List.mem_cons.mp hb with rfl | hb
      · exact Nat.lt_succ_of_lt hlt
      · cases hb
  · have := h h' tk t' fun b o e => by
      refine hk b o (fun hm => ?_) (Heap.get?_push_of_some _ e)
      rcases List.mem_cons.mp hm with e1 | hm
      · exact absurd (e1 ▸ Heap.lt_size e) (Nat.lt_irrefl _)
      · cases hm
    simpa [intItems] using this
end
def rSumT (K : PySem.W.Frag) : List V → Hp → VK → Prop := fun vs H Q => ∃ (a : Addr) (ns : List Int), vs = [V.ref a] ∧ SqT K H a (ns.map V.int) ∧ Q (.int ns.sum) H
theorem cr_sumT {X : Cx} (hc : X.calm = true) : CallR X (.builtin "sum") (rSumT X.K) := by
  intro pins s σ H vs us Q I r h
  obtain ⟨a, ns, rfl, hs, q⟩ := h
  obtain ⟨its, rv, hl, _⟩ := I.tuple hs
  rw [Vals.ref1 r]
  have hi := rv.ints
  obtain ⟨xs, e⟩ := hi.allInts.items
  have hn : numsOf (intItems xs).toList = ns := by rw [← e]; exact hi.numsOf
  rw [nums_intItems] at hn
  rw [e] at hl
  refine sum_tupG (I.ok.hd hc) hl fun h' tk t' hk => ?_
  rw [preSum_eq, List.take_of_length_le (by simp), hn]
  exact ⟨.int _, H, I.kept hk, ⟨_, rfl⟩, q⟩
end Cm
namespace Cm
open PySem PySem.Spec PyProof.Rows L2
section
variable {X : Cx} {o e : Expr} {es : List Expr} {to : TE} {t : TA} {name : Str} {apos cpos : Pos} {T id : String} {r : V → List V → Hp → VK → Prop}
theorem pe_bmK (K : PySem.W.Frag) (pa : PlainAttrs T) (slot : Slot T name id) (hty : typeOf (.builtin id) = pure (.type "method_descriptor")) (hm : MtR X id r) (ho : PE X o to) (ha : PA X (e :: es) t)
    (hK : X.K = K := by rfl) (hbase : attributeBase o name X.env (eval o X.env) = eval o X.env := by rfl)
    (hfew : ((backTo cpos (starEach (e :: es) X.env)).all (fun x => !x.1) && (backToKw cpos (keywordEach [] X.env)).all (fun x => x.1.isSome)
      && decide ((e :: es).length + ([] : List Keyword).length + (if ([] : List Keyword).isEmpty then 0 else 1) < 30)) = true := by rfl)
    (hline : (apos.endLine == cpos.line) = true := by rfl) (hs : starEach (e :: es) X.env = (false, eval e X.env) :: starEach es X.env := by rfl) (hplain : (backTo cpos (starEach es X.env)).any (·.1) = false := by rfl) :
    PE X (.Call (.Attribute o name apos) (e :: es) [] cpos) (tBM K T r to t) := by
  subst hK
  exact pe_bm pa slot hty hm ho ha hbase hfew hline hs hplain
end
end Cm
namespace Cm
open PySem PySem.Spec PyProof.Rows L2 HT
/-! ### t[::-1] of a tuple -/
section
variable {prog : Program} {w : World} {A : Around} {E : Value → Shared → Prop} {s : Shared}
theorem rev_adjust (n : Nat) : Builtin.Slice.sliceAdjust none none (-1) (n : Int) = ((n : Int) - 1, -1) := by
  unfold Builtin.Slice.sliceAdjust
  simp
theorem rev_places (n : Nat) : Builtin.Slice.slicePlaces ((n : Int) - 1) (-1) (-1) = n := by
  unfold Builtin.Slice.slicePlaces
  simp
  omega
theorem fm_congr {α β : Type} {f g : α → Option β} : ∀ {l : List α}, (∀ x ∈ l, f x = g x) → l.filterMap f = l.filterMap g
  | [], _ => rfl
  | x :: l, h => by
    rw [List.filterMap_cons, List.filterMap_cons, h x (List.mem_cons_self ..), fm_congr (l := l) fun y hy => h y (List.mem_cons_of_mem _ hy)]
theorem rev_pick (xs : Array Value) : ((List.range xs.size).filterMap fun (m : Nat) => xs[(((xs.size : Nat) : Int) - 1 + (m : Int) * (-1)).toNat]?).toArray = xs.toList.reverse.toArray := by
  have e : (List.range xs.size).filterMap (fun (m : Nat) => xs[(((xs.size : Nat) : Int) - 1 + (m : Int) * (-1)).toNat]?) = ((List.range xs.size).map fun k => xs.size - 1 - k).filterMap (xs[·]?) := by
    rw [List.filterMap_map]
    apply fm_congr
    intro m hm
    have := List.mem_range.mp hm
    show xs[_]? = xs[xs.size - 1 - m]?
    congr 1
    omega
  rw [e, PySem.W.krv_range, List.filterMap_reverse, PySem.W.krv_all]
theorem sliceApplied_rev {sl : Addr} {t : Tok} {n : Nat} {Q : Int × Int × Nat → Shared → Prop} (hs : s.heap.IsSliceOf sl .none .none (.int (-1) t))
    (h : Q ((n : Int) - 1, -1, n) s) : wpAny (model prog w) A (Builtin.Slice.sliceApplied (.ref sl) (pure (n : Int))) Q E s := by
  obtain ⟨os, hos, hcs, hds⟩ := id hs
  unfold Builtin.Slice.sliceApplied Builtin.Slice.sliceFields
  refine wpAny_bind (wpAny_bind (wpAny_field hos hds (x := .none) rfl (wpAny_bind (wpAny_field hos hds (x := .none) rfl (wpAny_bind (wpAny_field hos hds (x := .int (-1) t) rfl (wpAny_pure ?_)))))))
  refine wpAny_bind (slicePart_int ?_)
  show wpAny _ _ (if ((-1 : Int) == 0) = true then _ else _) _ _ s
  rw [if_neg (by decide)]
  refine wpAny_bind (slicePart_none (wpAny_bind (slicePart_none (wpAny_bind (wpAny_pure ?_)))))
  show wpAny _ _ (match Builtin.Slice.sliceAdjust none none (-1) (n : Int) with | (lo, hi) => pure (lo, (-1 : Int), Builtin.Slice.slicePlaces lo hi (-1))) _ _ s
  rw [rev_adjust n]
  show wpAny _ _ (pure ((n : Int) - 1, (-1 : Int), Builtin.Slice.slicePlaces ((n : Int) - 1) (-1) (-1))) _ _ s
  rw [rev_places]
  exact wpAny_pure h
theorem getItem_tuple_rev {t sl : Addr} {items : Array Value} {u : Tok} {Q : Value → Shared → Prop} (ht : IsTup s.heap t items) (hs : s.heap.IsSliceOf sl .none .none (.int (-1) u))
    (h : Q (.ref s.heap.objs.size) { s with heap := s.heap.push { cls := .type "tuple", data := .seq items.toList.reverse.toArray } })
    (hsz : items.size ≤ sizeLine) : wpAny (model prog w) A (getItem (.ref t) (.ref sl)) Q E s := by
  have htake : sizeOk (.seq items.toList.reverse.toArray) := by
    show items.toList.reverse.toArray.size ≤ sizeLine
    rw [List.size_toArray, List.length_reverse, Array.length_toList]
    exact hsz
  obtain ⟨os, hos, hcs, hds⟩ := id hs
  have hTs : s.TypeIs (.ref sl) "slice" := ⟨os, hos, hcs⟩
  unfold getItem
  try with_reducible refine wpAny_holding ?_
  first | refine wpAny_bind (wpAny_pure ?_) | skip
  refine wpAny_bind (wpAny_sequenceKey ht.typeIs (by decide) ?_)
  refine wpAny_bind (wpAny_callSpecial?_slot (name := Str.ofString "__getitem__") ht.typeIs PyProof.Rows.slot_tuple_getitem
    (wpAny_call_entry PyProof.Rows.slot_tuple_getitem ht.typeIs entry_tuple_getitem ?_ (args_tuple_getitem _ _)))
  show wpAny _ _ (Builtin.Tuple.tupleItemsOf (.ref t) >>= _) _ _ s
  refine wpAny_bind (tupleItemsOf_ ht ?_)
  refine wpAny_bind (wpAny_typeOf hTs ?_)
  rw [if_pos (by decide)]
  refine wpAny_bind (sliceApplied_rev hs ?_)
  have hno : ¬ ((((items.size : Nat) : Int) - 1 == 0 && (-1 : Int) == 1 && items.size == items.size) = true) := by
    intro q
    rw [Bool.and_eq_true, Bool.and_eq_true] at q
    exact absurd q.1.2 (by decide)
  show wpAny _ _ (if (((items.size : Nat) : Int) - 1 == 0 && (-1 : Int) == 1 && items.size == items.size) = true then _ else _) _ _ s
  rw [if_neg hno, rev_pick]
  first
    | exact wpAny_bind (m := Builtin.Tuple.tupleExact _) (wpAny_newObj_type (wpAny_pure ⟨_, rfl, wpAny_pure h⟩) htake)
    | exact wpAny_bind (m := Builtin.Tuple.tupleExact _) (wpAny_newObj_type (wpAny_bind (wpAny_pure (wpAny_pure ⟨_, rfl, wpAny_pure h⟩))) htake)
    | exact wpAny_bind (wpAny_bind (m := Builtin.Tuple.tupleExact _) (wpAny_newObj_type (wpAny_pure (wpAny_pure ⟨_, rfl, wpAny_pure h⟩)) htake))
    | exact wpAny_bind (wpAny_bind (m := Builtin.Tuple.tupleExact _) (wpAny_newObj_type (wpAny_pure ⟨_, rfl, wpAny_pure h⟩) htake))
end
def tRevT (K : PySem.W.Frag) (te : TE) : TE := fun σ H Q => te σ H fun x H1 => ∃ a xs, x = .ref a ∧ SqT K H1 a xs ∧ ∀ p, H1 p = none → Q (.ref p) (upd H1 p (.tup xs.reverse))
theorem pe_revT {X : Cx} {e : Expr} {te : TE} {p1 p2 p3 pos : Pos} (he : PE X e te) : PE X (.Subscript e (.Slice none none (some (.UnaryOp .USub (.Constant (.int 1) 0 p1) p2)) p3) pos) (tRevT X.K te) := by
  refine ⟨fun pins s σ H Q I h => ?_⟩
  refine Subscript_ (thn (he.run pins s σ H _ I h) fun v s1 ⟨x, H1, I1, r1, q1⟩ => ?_)
  refine wpAny_Slice ?_
  rw [evalPart_none]
  refine wpAny_pure (wpAny_pure ?_)
  rw [evalPart_some]
  refine thn ((pe_un un_neg pe_int).run pins s1 σ H1 (fun y H2 => y = .int (-1) ∧ H2 = H1) I1 ⟨_, rfl, rfl, rfl⟩) fun u s2 ⟨y, H2, I2, r2, e1, e2⟩ => ?_
  subst e1 e2
  obtain ⟨t, rfl⟩ := r2
  obtain ⟨a, xs, rfl, hx, q⟩ := q1
  cases r1
  have I4 : Inv X pins σ H2 { s2 with heap := s2.heap.push { cls := .type "slice", data := .fields #[.none, .none, .int (-1) t] } } := I2.kept (t' := s2.toks) fun b ob q => Heap.get?_push_of_some _ q
  obtain ⟨its, r, ht, hz⟩ := I4.tuple hx
  show wpAny (model X.prog X.w) X.A (subscriptTail e _ (.ref a) (.ref s2.heap.objs.size)) (EP X pins σ Q) X.xe { s2 with heap := s2.heap.push { cls := .type "slice", data := .fields #[.none, .none, .int (-1) t] } }
  refine tail_any (ops := [.ref a, .ref s2.heap.objs.size]) ht.typeIs PyProof.Rows.slot_tuple_getitem.lookup (getItem_tuple_rev ht (Heap.IsSliceOf.new ..) ?_ (by rw [List.size_toArray, ← r.length]; exact hz)) (by with_unfolding_all rfl)
  refine ⟨.ref _, _, I4.laid (t' := s2.toks) (o := .tup xs.reverse) (fun b ob q => Heap.get?_push_of_some _ q) (Nat.le_refl _) ?_, rfl, q _ (I4.hok.fresh (Nat.le_refl _))⟩
  exact ⟨by rw [List.length_reverse]; exact hz, _, r.reverse, IsTup.new _ _⟩
end Cm
namespace Cm
open PySem PySem.Spec PyProof.Rows L2
section
variable {X : Cx}
theorem _root_.L2.OpR.imp {f : Value → Value → Sem Value} {r r' : R2} (h : OpR X f r) (i : ∀ x y H Q, r' x y H Q → r x y H Q) : OpR X f r' :=
  fun pins s σ H x y v u Q I rx ry q => h pins s σ H x y v u Q I rx ry (i _ _ _ _ q)
/-- t + u, whatever object it is -/
def rCatS (K : PySem.W.Frag) : R2 := fun x y H Q => ∃ a b xs ys, x = .ref a ∧ y = .ref b ∧ SqT K H a xs ∧ SqT K H b ys ∧ xs.length + ys.length ≤ sizeLine ∧ ∀ r H', Same H H' → SqT K H' r (xs ++ ys) → Q (.ref r) H'
theorem op_catS : OpR X (binaryOp .Add) (rCatS X.K) := op_catA.imp fun x y H Q h => by
  obtain ⟨a, b, xs, ys, rfl, rfl, ha, hb, hl, q⟩ := h
  refine ⟨a, b, xs, ys, rfl, rfl, ha, hb, hl, fun e => ?_, fun _ e => ?_, fun _ _ p np => q p _ (Same.new np) (SqT.of upd_same)⟩
  · subst e
    exact q b H (Same.refl _) hb
  · subst e
    exact q a H (Same.refl _) (by rw [List.append_nil]; exact ha)
/-- t[lo:hi], whatever object it is -/
def rSlS (K : PySem.W.Frag) : V → Option Int → Option Int → Hp → VK → Prop := fun x lo hi H Q => ∃ a xs, x = .ref a ∧ SqT K H a xs ∧ ∀ r H', Same H H' → SqT K H' r (cutV xs lo hi) → Q (.ref r) H'
theorem cut_whole {xs : List V} {lo hi : Option Int} (h : HT.sIx xs.length 0 lo = 0 ∧ HT.sIx xs.length xs.length hi = xs.length) : cutV xs lo hi = xs := by
  unfold cutV
  rw [h.1, h.2, List.drop_zero, Nat.sub_zero, List.take_length]
theorem sl_tupS : SlR X (rSlS X.K) := by
  intro pins s σ H x v vl vu lo hi sl Q I rx hs pl pu h
  obtain ⟨a, xs, rfl, ha, q⟩ := h
  refine sl_tupA pins s σ H (.ref a) v vl vu lo hi sl Q I rx hs pl pu ⟨a, xs, rfl, ha, fun e => q a H (Same.refl _) (by rw [cut_whole e]; exact ha), fun _ p np => q p _ (Same.new np) (SqT.of upd_same)⟩
end
end Cm
namespace Cm
open PySem PySem.Spec PyProof.Rows L2
/-! ### defs with one keyword-only parameter and its default -/
/-- a def of n positional parameters and one keyword-only one, by its name; dv the default -/
def DnK (P : Program) (w : World) (K : PySem.W.Frag) (mg : Str → Option Value) (base : Heap) (CX : CXT) (k : Nat) (x : Str) (ps : List Str) (kw : Str) (dv : V) (sp : Sp) : Prop :=
  ∃ (f : Addr) (fd : FuncData), FnOk P w K mg base CX k f fd (ps ++ [kw]) sp ∧ mg x = some (.ref f) ∧ PySem.W.keepIn K (.ref f) = true ∧ KBn K fd (ps ++ [kw]) ps.length [kw] (fun us ws => us ++ ws) (fun vs zs => vs ++ zs) ∧
    (∃ ds, Vals [dv] ds ∧ Binds K fd (ps ++ [kw]) ds) ∧ ∃ oc od osl, K.lookup f = some ⟨oc, od, .func fd, osl⟩
/-- where it stands -/
def AtK (K : PySem.W.Frag) (mg : Str → Option Value) (x : Str) (st : Stmt) (ps : List Str) (kw : Str) (dv : V) : Prop :=
  ∃ (f : Addr) (fd : FuncData), FunD K x x (defArgs st) (defBody st) (defScope st) [] [(kw, dv)] f fd ∧ mg x = some (.ref f) ∧ KBn K fd (ps ++ [kw]) ps.length [kw] (fun us ws => us ++ ws) (fun vs zs => vs ++ zs) ∧ ∃ ds, Vals [dv] ds ∧ Binds K fd (ps ++ [kw]) ds
section
variable {P : Program} {w : World} {K : PySem.W.Frag} {mg : Str → Option Value} {base : Heap}
theorem AtK.ok {x kw : Str} {dv : V} {st : Stmt} {N ps : List Str} {k : Nat} {sp : Sp} (F : AtK K mg x st ps kw dv) (S : FnScope N (ps ++ [kw]) (defScope st)) (len : ∀ vs H Q E, sp vs H Q E → vs.length = (ps ++ [kw]).length)
    (hbody : ∀ (f : Addr) (cdv : Value) (A : Around) (outer : List Env) (s : Shared) (H : Hp) (vs : List V) (Q : VK) (E : XK), Room k (A.deeper (envOfC x (defScope st) s.heap.objs.size f cdv)) → sp vs H Q E →
      ∃ t, PSs (cxOf CX0 P w K mg base N x (defScope st) f cdv A outer s H E).nox (defBody st) t ∧ t { nx := fun _ H' => Q .non H', rt := Q } (start N vs) H) : DnK P w K mg base CX0 (k + 1) x ps kw dv sp := by
  obtain ⟨f, fd, F, hm, hb, hd⟩ := F
  refine ⟨f, fd, F.ok S len fun cdv A outer s H vs Q E hr h => ?_, hm, F.kp, hb, hd, F.look⟩
  obtain ⟨t, h1, h2⟩ := hbody f cdv A outer s H vs Q E hr h
  exact ⟨t, h1.nox, h2⟩
/-- how such a def binds: h0 with the default, h1 with the keyword -/
theorem atK_mk {x kw : Str} {dv : V} {st : Stmt} {ps : List Str} {f : Addr} {fd : FuncData} (F : FunD K x x (defArgs st) (defBody st) (defScope st) [] [(kw, dv)] f fd) (hm : mg x = some (.ref f))
    (h0 : ∀ (D : Addr) (doc pm : Value) (an : Option Addr) (cdv ct : Value) (us ks : List Value), us.length = ps.length → ks.length = 1 →
      KwChain D (([(kw, dv)].map (·.1)).zip ks) (bindArgs (PySem.W.fnOf x x (defArgs st) (defBody st) (defScope st) .none (.ref D) doc pm an cdv ct) ⟨us, []⟩) ((ps ++ [kw]).zip (us ++ ks)))
    (h1 : ∀ (kV doc pm : Value) (an : Option Addr) (cdv ct : Value) (us ws : List Value), us.length = ps.length → ws.length = 1 →
      bindArgs (PySem.W.fnOf x x (defArgs st) (defBody st) (defScope st) .none kV doc pm an cdv ct) ⟨us, [kw].zip ws⟩ = pure ((ps ++ [kw]).zip (us ++ ws))) : AtK K mg x st ps kw dv := by
  refine ⟨f, fd, F, hm, ?_, ?_⟩
  · obtain ⟨oc, od, dV, kV, doc, pm, an, cdv, ct, osl, rfl, lk, hcd, hD, hK⟩ := F.ex
    rcases hD with ⟨_, rfl⟩ | ⟨e, _⟩
    · exact ⟨fun s us ws _ l1 l2 => .of_eq (h1 kV doc pm an cdv ct us ws l1 l2), fun r rz => r.append rz⟩
    · exact absurd rfl e
  · exact F.binds0 (ps := ps ++ [kw]) ps.length (by simp) (by simp) h0
end
section
variable {X : Cx} {k : Nat} {x kw : Str} {dv : V} {ps : List Str} {sp : Sp} {p pos kp : Pos} {e ek : Expr} {es : List Expr} {t : TA} {tk : TE}
/-- f(e, .., kw=ek) -/
def tCallW (n : Nat) (sp : Sp) (t : TA) (tk : TE) : TE := fun σ H Q => t σ H fun vs H1 => tk σ H1 fun z H2 => vs.length = n ∧ [z].length = 1 ∧ sp (vs ++ [z]) H2 Q E0
theorem pe_callW (D : DnK X.prog X.w X.K X.mg X.base CX0 k x ps kw dv sp) (hr : Room k X.A) (ha : PA X (e :: es) t) (hk : PE X ek tk) (hg : Gl X x := by rfl)
    (hall : (backToKw pos (keywordEach [⟨some kw, ek, kp⟩] X.env)).all (·.1.isSome) = true := by rfl) (hks : (backToKw pos (keywordEach [⟨some kw, ek, kp⟩] X.env)).filterMap (·.1) = [kw] := by rfl)
    (hdb : (x == ("__debug__" : Str)) = false := by decide) (he : starEach (e :: es) X.env = (false, eval e X.env) :: starEach es X.env := by rfl)
    (hpl : ((backTo pos (starEach (e :: es) X.env)).any (·.1) || (backToKw pos (keywordEach [⟨some kw, ek, kp⟩] X.env)).any (·.1.isNone)) = false := by rfl) :
    PE X (.Call (.Name x p) (e :: es) [⟨some kw, ek, kp⟩] pos) (tCallW ps.length sp t tk) := by
  obtain ⟨f, fd, F, hm, hkp, hb, _⟩ := D
  have h := pe_callN (p := p) F hr hg hm hkp hb pass0 ha (pk_cons (nm := some kw) (kpos := kp) hk pk_nil) hall hks hdb he hpl
  refine ⟨fun pins s σ H Q I q => h.run pins s σ H Q I ?_⟩
  exact q
theorem pe_callW0 (D : DnK X.prog X.w X.K X.mg X.base CX0 k x [] kw dv sp) (hr : Room k X.A) (hk : PE X ek tk) (hg : Gl X x := by rfl)
    (hall : (backToKw pos (keywordEach [⟨some kw, ek, kp⟩] X.env)).all (·.1.isSome) = true := by rfl) (hks : (backToKw pos (keywordEach [⟨some kw, ek, kp⟩] X.env)).filterMap (·.1) = [kw] := by rfl)
    (hdb : (x == ("__debug__" : Str)) = false := by decide)
    (hpl : ((backTo pos (starEach [] X.env)).any (·.1) || (backToKw pos (keywordEach [⟨some kw, ek, kp⟩] X.env)).any (·.1.isNone)) = false := by rfl) :
    PE X (.Call (.Name x p) [] [⟨some kw, ek, kp⟩] pos) (fun σ H Q => tk σ H fun z H2 => [z].length = 1 ∧ sp [z] H2 Q E0) := by
  obtain ⟨f, fd, F, hm, hkp, hb, _⟩ := D
  refine ⟨fun pins s σ H Q I h => ?_⟩
  refine wpAny_Call_Name_kw (ld_glob I hg hm ?_ hdb)
  refine PySem.W.callWith_KW0 (h₀ := X.base) I.ok.mod.kin hkp hall ?_ hpl
  refine thn ((pk_cons (nm := some kw) (kpos := kp) hk pk_nil).run pos pins s σ H (fun zs H2 => zs.length = 1 ∧ sp zs H2 Q E0) I ?_) fun ws s2 ⟨zs, H2, I2, rz, l2, q2⟩ => ⟨I2.kIn, ?_⟩
  · exact h
  rw [hks]
  exact run_fnN (us := []) (vs := []) F hr hb pass0 I2 .nil rz rfl l2 q2
/-- f() and f(e, ..): the default stands for it -/
theorem pe_callWd0 (D : DnK X.prog X.w X.K X.mg X.base CX0 k x [] kw dv sp) (hr : Room k X.A) (hg : Gl X x := by rfl) (hdb : (x == ("__debug__" : Str)) = false := by decide) :
    PE X (.Call (.Name x p) [] [] pos) (tCall sp [dv] E0 tNil) := by
  obtain ⟨f, fd, F, hm, hkp, _, ⟨ds, hv, hb⟩, _⟩ := D
  exact pe_call0 F hr hg hm hkp hb hv pass0 hdb
theorem pe_callWd (D : DnK X.prog X.w X.K X.mg X.base CX0 k x ps kw dv sp) (hr : Room k X.A) (ha : PA X (e :: es) t) (hg : Gl X x := by rfl) (hdb : (x == ("__debug__" : Str)) = false := by decide)
    (he : starEach (e :: es) X.env = (false, eval e X.env) :: starEach es X.env := by rfl) (hpl : (backTo pos (starEach es X.env)).any (·.1) = false := by rfl) :
    PE X (.Call (.Name x p) (e :: es) [] pos) (tCall sp [dv] E0 t) := by
  obtain ⟨f, fd, F, hm, hkp, _, ⟨ds, hv, hb⟩, _⟩ := D
  exact pe_call F hr hg hm hkp hb hv pass0 ha hdb he hpl
end
end Cm
namespace Cm
open PySem PySem.Spec PyProof.Rows L2
/-! ### the head's facts and one Bool more -/
abbrev AlB : Type := He.AlD × Bool
def obsB (n : Nat) (fa : List He.Fa) (fn : List He.DefD) (ex : PySem.W.Frag → Bool) (g : Addr → Option Obj) : AlB := (He.obsDG n fa fn g, ex (He.frG g (He.asD g n)))
def hookB (n : Nat) (fa : List He.Fa) (fn : List He.DefD) (ex : PySem.W.Frag → Bool) : PySem.W.Hook where
  α := AlB
  obs := fun s => obsB n fa fn ex s.heap.get?
  val := fun _ => (He.valD fn, true)
  says := fun _ h => ∃ K : PySem.W.Frag, K.In h ∧ He.SaysD fa fn K ∧ ex K = true
  of := fun _ _ e => ⟨_, He.frG_in, congrArg (fun z : AlB => z.1) e, congrArg (fun z : AlB => z.2) e⟩
  keeps := fun _ _ _ ⟨K, hK, c⟩ k => ⟨K, PySem.W.Frag.In.keeps hK k, c⟩
theorem obsB_eq {n : Nat} {fa : List He.Fa} {fn : List He.DefD} {ex : PySem.W.Frag → Bool} {g : Addr → Option Obj} {s : Shared} (h : ∀ a, g a = s.heap.get? a) : obsB n fa fn ex g = (hookB n fa fn ex).obs s := by
  have e : g = s.heap.get? := funext h
  rw [e] <;> rfl
end Cm
namespace Cm
open PySem PySem.Spec PyProof.Rows L2
/-! ### a range held by a name, and walked -/
theorem cr_range1 {X : Cx} : CallR X (.type "range") (fun vs H Q => ∃ j, vs = [V.int j] ∧ ∀ p, H p = none → Q (.ref p) (upd H p (.rng 0 j))) := by
  intro pins s σ H vs us Q I r h
  obtain ⟨j, rfl, q⟩ := h
  obtain ⟨u1, rfl, rj⟩ := vals1 r
  obtain ⟨u, rfl⟩ := rj
  refine call_range_1 ⟨.ref s.heap.objs.size, upd H s.heap.objs.size (.rng 0 j), I.laid (fun b o e => Heap.get?_push_of_some _ e) (Nat.le_refl _) ?_, rfl, q _ (I.hok.fresh (Nat.le_refl _))⟩
  exact ⟨_, u, _, Heap.get?_push_size _ rfl⟩
/-- for k in r, r a range that stands in H -/
def iRngV (te : TE) : TI := fun σ H R => te σ H fun x H1 => ∃ (a : Addr) (lo hi : Int), x = .ref a ∧ H1 a = some (.rng lo hi) ∧ (-(2 ^ 62) ≤ lo ∧ lo < 2 ^ 62 ∧ -(2 ^ 62) ≤ hi ∧ hi < 2 ^ 62) ∧ R (Itr lo (hi - lo).toNat) H1
theorem pi_rng {X : Cx} {tg e : Expr} {te : TE} (he : PE X e te) : PI X tg e (iRngV te) := by
  refine ⟨fun pins s σ H R I h => ?_⟩
  refine thn (he.run pins s σ H _ I h) fun v s1 hh => ?_
  obtain ⟨x, H1, I1, r1, a, lo, hi, rfl, ha, ⟨h1, h2, h3, h4⟩, q⟩ := hh
  cases r1
  obtain ⟨t, u, w', hobj⟩ : ∃ t u v, s1.heap.get? a = some { cls := .type "range", data := .fields #[.int lo t, .int hi u, .int 1 v] } := I1.hok a _ ha
  refine wpAny_pyIter_range (show IsRange s1.heap a lo hi 1 t u w' from hobj) (small_one h1 h2 h3 h4) ?_
  refine ⟨s1.heap.objs.size, [s1.heap.objs.size], _, _, H1, rfl, I1.kept (t' := s1.toks) fun b o e => Heap.get?_push_of_some _ e, turn_range _ lo (hi - lo).toNat, ?_, fun b hb => ?_, q⟩
  · have e1 : lo + ((0 : Nat) : Int) * 1 = lo := by simp
    have e2 : (((hi - lo).toNat : Nat) : Int) - ((0 : Nat) : Int) = Builtin.Range.rangeSize lo hi 1 := by rw [rangeSize_one]; split <;> omega
    show IsRangeIter _ _ (lo + ((0 : Nat) : Int) * 1) ((((hi - lo).toNat : Nat) : Int) - ((0 : Nat) : Int)) 1
    rw [e1, e2]
    exact Heap.get?_push_size _ rfl
  · have e : b = s1.heap.objs.size := by simpa using hb
    subst e
    exact I1.fpOk (Nat.le_refl _) (I1.hok.fresh (Nat.le_refl _))
end Cm

set_option Elab.async false
set_option linter.all false
namespace Cm
/-! ### sums, fillings -/
def sm (f : Nat → Int) : Nat → Int
  | 0 => 0
  | n + 1 => sm f n + f n
theorem sm_congr {f g : Nat → Int} : ∀ {n : Nat}, (∀ i, i < n → f i = g i) → sm f n = sm g n
  | 0, _ => rfl
  | n + 1, h => by rw [sm, sm, sm_congr fun i hi => h i (by omega), h n (by omega)]
theorem sm_add (f : Nat → Int) (a : Nat) : ∀ b, sm f (a + b) = sm f a + sm (fun i => f (a + i)) b
  | 0 => by simp [sm]
  | b + 1 => by rw [← Nat.add_assoc, sm, sm_add f a b, sm]; omega
theorem sm_mul (f : Nat → Int) (b : Nat) : ∀ a, sm f (a * b) = sm (fun i => sm (fun j => f (i * b + j)) b) a
  | 0 => by simp [sm]
  | a + 1 => by rw [Nat.succ_mul, sm_add, sm_mul f b a, sm]
theorem sm_zero {f : Nat → Int} : ∀ {n : Nat}, (∀ i, i < n → f i = 0) → sm f n = 0
  | 0, _ => rfl
  | n + 1, h => by rw [sm, sm_zero fun i hi => h i (by omega), h n (by omega)]; rfl
theorem sm_one {f : Nat → Int} {k : Nat} : ∀ {n : Nat}, k < n → (∀ i, i < n → i ≠ k → f i = 0) → sm f n = f k
  | 0, h, _ => absurd h (by omega)
  | n + 1, h, z => by
    by_cases e : k = n
    · subst e
      rw [sm, sm_zero fun i hi => z i (by omega) (by omega)]
      omega
    · rw [sm, sm_one (k := k) (by omega) fun i hi ne => z i (by omega) ne, z n (by omega) (by omega)]
      omega
theorem sm_lin (f g : Nat → Int) (a b : Int) : ∀ n, sm (fun i => a * f i + b * g i) n = a * sm f n + b * sm g n
  | 0 => by simp [sm]
  | n + 1 => by rw [sm, sm_lin f g a b n, sm, sm, Int.mul_add, Int.mul_add]; omega
theorem sm_plus (f g : Nat → Int) : ∀ n, sm (fun i => f i + g i) n = sm f n + sm g n
  | 0 => rfl
  | n + 1 => by rw [sm, sm_plus f g n, sm, sm]; omega
theorem sm_scale (f : Nat → Int) (a : Int) : ∀ n, sm (fun i => a * f i) n = a * sm f n
  | 0 => by simp [sm]
  | n + 1 => by rw [sm, sm_scale f a n, sm, Int.mul_add]
theorem sm_swap (f : Nat → Nat → Int) (n : Nat) : ∀ m, sm (fun i => sm (fun j => f i j) n) m = sm (fun j => sm (fun i => f i j) m) n
  | 0 => (sm_zero fun _ _ => rfl).symm
  | m + 1 => by
    rw [sm, sm_swap f n m, ← sm_plus]
    rfl
/-- the same rest by 97 -/
theorem sm_mod {f g : Nat → Int} : ∀ {n : Nat}, (∀ i, i < n → f i % 97 = g i % 97) → sm f n % 97 = sm g n % 97
  | 0, _ => rfl
  | n + 1, h => by
    have h1 := sm_mod (n := n) fun i hi => h i (by omega)
    have h2 := h n (by omega)
    rw [sm, sm]
    omega
theorem sum_range (f : Nat → Int) : ∀ n, ((List.range n).map f).sum = sm f n
  | 0 => rfl
  | n + 1 => by rw [List.range_succ, List.map_append, List.sum_append, sum_range f n, sm]; simp
theorem zip_map (f g : Nat → Int) : ∀ n, List.zipWith (· * ·) ((List.range n).map f) ((List.range n).map g) = (List.range n).map fun i => f i * g i := by
  intro n
  rw [List.zipWith_map, List.zipWith_self]
theorem list_getD (xs : List Int) : xs = (List.range xs.length).map fun i => xs.getD i 0 := by
  apply List.ext_getElem
  · simp
  · intro i h1 h2
    simp [List.getD, h1]
theorem getD_range (f : Nat → Int) {n i : Nat} (h : i < n) : ((List.range n).map f).getD i 0 = f i := by
  simp [List.getD, h]
/-- what row and numbers give, each with each -/
theorem dot_range (f : Nat → Int) (xs : List Int) {n : Nat} (hl : xs.length = n) : (List.zipWith (· * ·) ((List.range n).map f) xs).sum = sm (fun i => f i * xs.getD i 0) n := by
  subst hl
  conv => lhs; rw [list_getD xs]
  rw [List.length_map, List.length_range, zip_map, sum_range]
/-- data number t lies at place dp Z t -/
def dp (Z t : Nat) : Nat := t / Z * (Z + 1) + t % Z
theorem dp_at {Z i j : Nat} (h : j < Z) : dp Z (i * Z + j) = i * (Z + 1) + j := by
  unfold dp
  have e1 : (i * Z + j) / Z = i := by rw [Nat.mul_comm, Nat.mul_add_div (by omega), Nat.div_eq_of_lt h]; rfl
  have e2 : (i * Z + j) % Z = j := by rw [Nat.mul_comm, Nat.mul_add_mod, Nat.mod_eq_of_lt h]
  rw [e1, e2]
theorem blk_div {Z i j : Nat} (h : j < Z + 1) : (i * (Z + 1) + j) / (Z + 1) = i := by
  rw [Nat.mul_comm, Nat.mul_add_div (by omega), Nat.div_eq_of_lt h]; rfl
theorem blk_mod {Z i j : Nat} (h : j < Z + 1) : (i * (Z + 1) + j) % (Z + 1) = j := by
  rw [Nat.mul_comm, Nat.mul_add_mod, Nat.mod_eq_of_lt h]
theorem blk_lt {G Z i j : Nat} (hi : i < G) (h : j < Z + 1) : i * (Z + 1) + j < G * (Z + 1) := by
  have : (i + 1) * (Z + 1) ≤ G * (Z + 1) := Nat.mul_le_mul_right _ hi
  rw [Nat.succ_mul] at this
  omega
def sgn (i j : Nat) : Int := ([1, 11, 40, 30] : List Int).getD i 0 + (j : Int)
/-- over number n (from 0) of the data numbers d -/
def overS (G Z : Nat) (d : Nat → Int) (n : Nat) : Int := sm (fun i => sm (fun j => sgn i j ^ (n + 1) * d (i * Z + j)) Z) G
/-- the number at place p of the filling of the data numbers d -/
def fillF (G Z : Nat) (d : Nat → Int) (p : Nat) : Int :=
  if p / (Z + 1) < G then (if p % (Z + 1) = Z then sm (fun j => d (p / (Z + 1) * Z + j)) Z % 97 else d (p / (Z + 1) * Z + p % (Z + 1)))
  else overS G Z d (p - G * (Z + 1)) % 97
theorem fill_data {G Z i j : Nat} (d : Nat → Int) (hi : i < G) (hj : j < Z) : fillF G Z d (i * (Z + 1) + j) = d (i * Z + j) := by
  unfold fillF
  rw [blk_div (by omega), blk_mod (by omega), if_pos hi, if_neg (by omega)]
theorem fill_local {G Z i : Nat} (d : Nat → Int) (hi : i < G) : fillF G Z d (i * (Z + 1) + Z) = sm (fun j => d (i * Z + j)) Z % 97 := by
  unfold fillF
  rw [blk_div (by omega), blk_mod (by omega), if_pos hi, if_pos rfl]
theorem fill_over {G Z t : Nat} (d : Nat → Int) : fillF G Z d (G * (Z + 1) + t) = overS G Z d t % 97 := by
  unfold fillF
  have : G ≤ (G * (Z + 1) + t) / (Z + 1) := (Nat.le_div_iff_mul_le (by omega)).mpr (by omega)
  rw [if_neg (by omega)]
  congr 2
  omega
theorem place_cases {G Z M p : Nat} (h : p < G * (Z + 1) + M) : (∃ i j, i < G ∧ j < Z ∧ p = i * (Z + 1) + j) ∨ (∃ i, i < G ∧ p = i * (Z + 1) + Z) ∨ ∃ t, t < M ∧ p = G * (Z + 1) + t := by
  by_cases hp : p < G * (Z + 1)
  · have hi : p / (Z + 1) < G := (Nat.div_lt_iff_lt_mul (by omega)).mpr hp
    have hm : p % (Z + 1) < Z + 1 := Nat.mod_lt _ (by omega)
    have e : p / (Z + 1) * (Z + 1) + p % (Z + 1) = p := by rw [Nat.mul_comm]; exact Nat.div_add_mod p (Z + 1)
    by_cases hz : p % (Z + 1) = Z
    · exact .inr (.inl ⟨p / (Z + 1), hi, by omega⟩)
    · exact .inl ⟨p / (Z + 1), p % (Z + 1), hi, by omega, e.symm⟩
  · exact .inr (.inr ⟨p - G * (Z + 1), by omega, by omega⟩)
/-- x keeps the checks: it is the filling of its own data numbers -/
def Keeps (G Z M : Nat) (x : Nat → Int) : Prop := ∀ p, p < G * (Z + 1) + M → fillF G Z (fun t => x (dp Z t)) p = x p
/-- the checks' sums -/
def locC (Z i : Nat) (x : Nat → Int) : Int := sm (fun j => x (i * (Z + 1) + j)) Z + 96 * x (i * (Z + 1) + Z)
def ovC (G Z n : Nat) (x : Nat → Int) : Int := sm (fun i => sm (fun j => sgn i j ^ (n + 1) * x (i * (Z + 1) + j)) Z) G + 96 * x (G * (Z + 1) + n)
theorem overS_dp (G Z n : Nat) (x : Nat → Int) : overS G Z (fun t => x (dp Z t)) n = sm (fun i => sm (fun j => sgn i j ^ (n + 1) * x (i * (Z + 1) + j)) Z) G := by
  unfold overS
  refine sm_congr fun i hi => sm_congr fun j hj => ?_
  show sgn i j ^ (n + 1) * x (dp Z (i * Z + j)) = _
  rw [dp_at hj]
theorem loc_dp (Z i : Nat) (x : Nat → Int) : sm (fun j => x (dp Z (i * Z + j))) Z = sm (fun j => x (i * (Z + 1) + j)) Z :=
  sm_congr fun j hj => by
    show x (dp Z (i * Z + j)) = _
    rw [dp_at hj]
theorem keeps_iff {G Z M : Nat} {x : Nat → Int} (hx : ∀ p, p < G * (Z + 1) + M → 0 ≤ x p ∧ x p ≤ 96) :
    Keeps G Z M x ↔ (∀ i, i < G → locC Z i x % 97 = 0) ∧ ∀ n, n < M → ovC G Z n x % 97 = 0 := by
  constructor
  · intro k
    refine ⟨fun i hi => ?_, fun n hn => ?_⟩
    · have hp : i * (Z + 1) + Z < G * (Z + 1) + M := by have := blk_lt (Z := Z) (j := Z) hi (by omega); omega
      have h := k _ hp
      rw [fill_local _ hi, loc_dp] at h
      unfold locC
      omega
    · have h := k (G * (Z + 1) + n) (by omega)
      rw [fill_over, overS_dp] at h
      unfold ovC
      omega
  · rintro ⟨h1, h2⟩ p hp
    rcases place_cases hp with ⟨i, j, hi, hj, rfl⟩ | ⟨i, hi, rfl⟩ | ⟨t, ht, rfl⟩
    · rw [fill_data _ hi hj]
      show x (dp Z (i * Z + j)) = _
      rw [dp_at hj]
    · rw [fill_local _ hi, loc_dp]
      have b := hx _ hp
      have c := h1 i hi
      unfold locC at c
      omega
    · rw [fill_over, overS_dp]
      have b := hx _ hp
      have c := h2 t ht
      unfold ovC at c
      omega
theorem sm_chg {f g : Nat → Int} {k : Nat} : ∀ {n : Nat}, k < n → (∀ i, i < n → i ≠ k → f i = g i) → sm f n = sm g n + (f k - g k)
  | 0, h, _ => absurd h (by omega)
  | n + 1, h, z => by
    by_cases e : k = n
    · subst e
      rw [sm, sm, sm_congr fun i hi => z i (by omega) (by omega)]
      omega
    · rw [sm, sm, sm_chg (k := k) (by omega) fun i hi ne => z i (by omega) ne, z n (by omega) (by omega)]
      omega
/-- one number changed: no filling any more -/
theorem keeps_chg {G Z M p : Nat} {x y : Nat → Int} {d : Int} (hp : p < G * (Z + 1) + M) (k : Keeps G Z M x) (hx : ∀ p, p < G * (Z + 1) + M → 0 ≤ x p ∧ x p ≤ 96) (hy : ∀ p, p < G * (Z + 1) + M → 0 ≤ y p ∧ y p ≤ 96)
    (e : ∀ q, q < G * (Z + 1) + M → q ≠ p → y q = x q) (d1 : 1 ≤ d) (d2 : d ≤ 96) (ep : y p = (x p + d) % 97) : ¬ Keeps G Z M y := by
  intro k2
  obtain ⟨a1, a2⟩ := (keeps_iff hx).mp k
  obtain ⟨b1, b2⟩ := (keeps_iff hy).mp k2
  have low : ∀ {i j : Nat}, i < G → j < Z + 1 → i * (Z + 1) + j < G * (Z + 1) + M := fun {i j} hi hj => by have := blk_lt (Z := Z) hi hj; omega
  have ne : ∀ {i j i' j' : Nat}, j < Z + 1 → j' < Z + 1 → ¬ (i = i' ∧ j = j') → i * (Z + 1) + j ≠ i' * (Z + 1) + j' := fun {i j i' j'} h1 h2 h3 h4 => by
    apply h3
    have c1 := congrArg (· / (Z + 1)) h4
    have c2 := congrArg (· % (Z + 1)) h4
    simp only [blk_div h1, blk_div h2, blk_mod h1, blk_mod h2] at c1 c2
    exact ⟨c1, c2⟩
  rcases place_cases hp with ⟨i, j, hi, hj, rfl⟩ | ⟨i, hi, rfl⟩ | ⟨t, ht, rfl⟩
  · have c1 := a1 i hi
    have c2 := b1 i hi
    unfold locC at c1 c2
    rw [sm_chg (f := fun j => y (i * (Z + 1) + j)) (g := fun j => x (i * (Z + 1) + j)) hj fun j' hj' nj => e _ (low hi (by omega)) (ne (by omega) (by omega) fun z => nj z.2)] at c2
    have c3 := e (i * (Z + 1) + Z) (low hi (by omega)) (ne (by omega) (by omega) fun z => by omega)
    have h1 := hx _ hp
    omega
  · have c1 := a1 i hi
    have c2 := b1 i hi
    unfold locC at c1 c2
    rw [sm_congr (f := fun j => y (i * (Z + 1) + j)) (g := fun j => x (i * (Z + 1) + j)) fun j hj => e _ (low hi (by omega)) (ne (by omega) (by omega) fun z => by omega)] at c2
    have h1 := hx _ hp
    omega
  · have c1 := a2 t ht
    have c2 := b2 t ht
    unfold ovC at c1 c2
    rw [sm_congr (f := fun i => sm (fun j => sgn i j ^ (t + 1) * y (i * (Z + 1) + j)) Z) (g := fun i => sm (fun j => sgn i j ^ (t + 1) * x (i * (Z + 1) + j)) Z) fun i hi => sm_congr fun j hj => by rw [e _ (low hi (by omega)) (by have := blk_lt (Z := Z) (j := j) hi (by omega); omega)]] at c2
    have h1 := hx _ hp
    omega
theorem sm_comb (f g : Nat → Int) (c : Int) (n : Nat) : sm (fun i => f i + c * g i) n = sm f n + c * sm g n := by
  rw [sm_plus, sm_scale]
/-- sums of multiples of fillings are fillings -/
theorem keeps_comb {G Z M : Nat} {x y z : Nat → Int} {c : Int} (kx : Keeps G Z M x) (ky : Keeps G Z M y) (hx : ∀ p, p < G * (Z + 1) + M → 0 ≤ x p ∧ x p ≤ 96) (hy : ∀ p, p < G * (Z + 1) + M → 0 ≤ y p ∧ y p ≤ 96)
    (e : ∀ q, q < G * (Z + 1) + M → z q = (x q + c * y q) % 97) : Keeps G Z M z := by
  obtain ⟨a1, a2⟩ := (keeps_iff hx).mp kx
  obtain ⟨b1, b2⟩ := (keeps_iff hy).mp ky
  refine (keeps_iff fun p hp => ?_).mpr ⟨fun i hi => ?_, fun n hn => ?_⟩
  · rw [e p hp]
    omega
  · have low : ∀ {j : Nat}, j < Z + 1 → i * (Z + 1) + j < G * (Z + 1) + M := fun {j} hj => by have := blk_lt (Z := Z) hi hj; omega
    have h1 := sm_mod (f := fun j => z (i * (Z + 1) + j)) (g := fun j => x (i * (Z + 1) + j) + c * y (i * (Z + 1) + j)) (n := Z) fun j hj => by
      show z (i * (Z + 1) + j) % 97 = _
      rw [e _ (low (by omega))]
      omega
    rw [sm_comb] at h1
    have h2 := e _ (low (show Z < Z + 1 by omega))
    have c1 := a1 i hi
    have c2 := b1 i hi
    unfold locC at c1 c2 ⊢
    have c3 : (c * (sm (fun j => y (i * (Z + 1) + j)) Z + 96 * y (i * (Z + 1) + Z))) % 97 = 0 := by rw [Int.mul_emod, c2]; simp
    have c4 : c * (sm (fun j => y (i * (Z + 1) + j)) Z + 96 * y (i * (Z + 1) + Z)) = c * sm (fun j => y (i * (Z + 1) + j)) Z + 96 * (c * y (i * (Z + 1) + Z)) := by rw [Int.mul_add, Int.mul_left_comm]
    omega
  · have h1 := sm_mod (f := fun i => sm (fun j => sgn i j ^ (n + 1) * z (i * (Z + 1) + j)) Z) (g := fun i => sm (fun j => sgn i j ^ (n + 1) * x (i * (Z + 1) + j)) Z + c * sm (fun j => sgn i j ^ (n + 1) * y (i * (Z + 1) + j)) Z) (n := G) fun i hi => by
      show sm _ Z % 97 = (sm _ Z + c * sm _ Z) % 97
      rw [← sm_comb]
      refine sm_mod fun j hj => ?_
      show (sgn i j ^ (n + 1) * z (i * (Z + 1) + j)) % 97 = (sgn i j ^ (n + 1) * x (i * (Z + 1) + j) + c * (sgn i j ^ (n + 1) * y (i * (Z + 1) + j))) % 97
      rw [e _ (by have := blk_lt (Z := Z) (j := j) hi (by omega); omega)]
      rw [Int.mul_emod, Int.emod_emod_of_dvd _ (Int.dvd_refl 97), ← Int.mul_emod, Int.mul_add, Int.mul_left_comm]
    rw [sm_comb] at h1
    have h2 := e (G * (Z + 1) + n) (by omega)
    have c1 := a2 n hn
    have c2 := b2 n hn
    unfold ovC at c1 c2 ⊢
    generalize hA : sm (fun i => sm (fun j => sgn i j ^ (n + 1) * y (i * (Z + 1) + j)) Z) G = A at *
    have c3 : (c * (A + 96 * y (G * (Z + 1) + n))) % 97 = 0 := by rw [Int.mul_emod, c2]; simp
    have c4 : c * (A + 96 * y (G * (Z + 1) + n)) = c * A + 96 * (c * y (G * (Z + 1) + n)) := by rw [Int.mul_add, Int.mul_left_comm]
    omega
theorem keeps_zero (G Z M : Nat) : Keeps G Z M fun _ => 0 := by
  refine (keeps_iff fun p hp => by decide).mpr ⟨fun i hi => ?_, fun n hn => ?_⟩
  · unfold locC
    rw [sm_zero fun _ _ => rfl]
    rfl
  · unfold ovC
    rw [sm_zero fun i _ => sm_zero fun j _ => by rw [Int.mul_zero]]
    rfl
theorem bz_div {Z i j : Nat} (h : j < Z) : (i * Z + j) / Z = i := by rw [Nat.mul_comm, Nat.mul_add_div (by omega), Nat.div_eq_of_lt h]; rfl
theorem bz_mod {Z i j : Nat} (h : j < Z) : (i * Z + j) % Z = j := by rw [Nat.mul_comm, Nat.mul_add_mod, Nat.mod_eq_of_lt h]
theorem bz_lt {G Z i j : Nat} (hi : i < G) (hj : j < Z) : i * Z + j < G * Z := by
  have : (i + 1) * Z ≤ G * Z := Nat.mul_le_mul_right _ hi
  rw [Nat.succ_mul] at this
  omega
theorem t_cases {G Z t : Nat} (h : t < G * Z) : ∃ i j, i < G ∧ j < Z ∧ t = i * Z + j := by
  have hZ : 0 < Z := by
    cases Z with
    | zero => simp at h
    | succ n => omega
  refine ⟨t / Z, t % Z, (Nat.div_lt_iff_lt_mul hZ).mpr h, Nat.mod_lt _ hZ, ?_⟩
  rw [Nat.mul_comm]
  exact (Nat.div_add_mod t Z).symm
/-- the filling whose data number t is 1, all others 0 -/
def unitF (G Z t : Nat) : Nat → Int := fillF G Z fun s => if s = t then 1 else 0
theorem unit_data {G Z i j : Nat} (t : Nat) (hi : i < G) (hj : j < Z) : unitF G Z t (i * (Z + 1) + j) = if i * Z + j = t then 1 else 0 := by
  unfold unitF
  rw [fill_data _ hi hj]
theorem unit_local {G Z i i' j' : Nat} (hi : i < G) (hj' : j' < Z) : unitF G Z (i' * Z + j') (i * (Z + 1) + Z) = if i' = i then 1 else 0 := by
  unfold unitF
  rw [fill_local _ hi]
  by_cases h : i' = i
  · subst h
    rw [sm_one (k := j') hj' fun j hj ne => by rw [if_neg (by omega)], if_pos rfl, if_pos rfl]
    rfl
  · rw [sm_zero fun j hj => ?_, if_neg h]
    · rfl
    · rw [if_neg]
      intro e
      have := congrArg (· / Z) e
      simp only [bz_div hj, bz_div hj'] at this
      exact h this.symm
theorem unit_over {G Z i' j' n : Nat} (hi' : i' < G) (hj' : j' < Z) : unitF G Z (i' * Z + j') (G * (Z + 1) + n) = sgn i' j' ^ (n + 1) % 97 := by
  unfold unitF
  rw [fill_over]
  unfold overS
  rw [sm_one (k := i') hi' fun i hi ne => sm_zero fun j hj => ?_]
  · rw [sm_one (k := j') hj' fun j hj ne => by simp only; rw [if_neg (by omega), Int.mul_zero]]
    simp only
    rw [if_pos trivial, Int.mul_one]
  · simp only
    rw [if_neg, Int.mul_zero]
    intro e
    have := congrArg (· / Z) e
    simp only [bz_div hj, bz_div hj'] at this
    exact ne this
/-- each filling is the sum of its data numbers times the units -/
theorem unit_comb {G Z M p : Nat} {d : Nat → Int} (hd : ∀ t, t < G * Z → 0 ≤ d t ∧ d t ≤ 96) (hp : p < G * (Z + 1) + M) : sm (fun t => d t * unitF G Z t p) (G * Z) % 97 = fillF G Z d p := by
  rcases place_cases hp with ⟨i, j, hi, hj, rfl⟩ | ⟨i, hi, rfl⟩ | ⟨n, hn, rfl⟩
  · rw [fill_data _ hi hj, sm_one (k := i * Z + j) (bz_lt hi hj) fun t ht ne => by rw [unit_data t hi hj, if_neg (by omega), Int.mul_zero], unit_data _ hi hj, if_pos rfl, Int.mul_one]
    have := hd _ (bz_lt hi hj)
    omega
  · rw [fill_local _ hi, sm_mul, sm_one (k := i) hi fun i' hi' ne => sm_zero fun j hj => by rw [unit_local hi hj, if_neg ne, Int.mul_zero]]
    rw [sm_congr fun j hj => by rw [unit_local hi hj, if_pos rfl, Int.mul_one]]
  · rw [fill_over, sm_mul]
    unfold overS
    refine sm_mod fun i hi => ?_
    refine sm_mod fun j hj => ?_
    rw [unit_over hi hj, Int.mul_comm (sgn i j ^ (n + 1)), Int.mul_emod, Int.emod_emod_of_dvd _ (Int.dvd_refl 97), ← Int.mul_emod]
/-- the places that the checks fix, in their order -/
def fx (G Z i : Nat) : Nat := if i < G then i * (Z + 1) + Z else G * (Z + 1) + (i - G)
theorem fx_lt {G Z i j : Nat} (h : i < j) : fx G Z i < fx G Z j := by
  unfold fx
  by_cases h1 : j < G
  · rw [if_pos h1, if_pos (by omega)]
    have : (i + 1) * (Z + 1) ≤ j * (Z + 1) := Nat.mul_le_mul_right _ h
    rw [Nat.succ_mul] at this
    omega
  · rw [if_neg h1]
    by_cases h2 : i < G
    · rw [if_pos h2]
      have := blk_lt (Z := Z) (j := Z) h2 (by omega)
      omega
    · rw [if_neg h2]
      omega
theorem fx_local {G Z i : Nat} (h : i < G) : fx G Z i = i * (Z + 1) + Z := if_pos h
theorem fx_over (G Z n : Nat) : fx G Z (G + n) = G * (Z + 1) + n := by
  unfold fx
  rw [if_neg (by omega)]
  omega
theorem fx_not_data {G Z M i i' j : Nat} (hi : i < G + M) (hi' : i' < G) (hj : j < Z) : fx G Z i ≠ i' * (Z + 1) + j := by
  unfold fx
  have h3 := blk_lt (Z := Z) (j := j) hi' (by omega)
  split
  · intro e
    have c2 := congrArg (· % (Z + 1)) e
    simp only [blk_mod (show Z < Z + 1 by omega), blk_mod (show j < Z + 1 by omega)] at c2
    omega
  · omega
end Cm

set_option Elab.async false
set_option linter.all false
set_option maxRecDepth 100000
set_option maxHeartbeats 4000000
namespace Cm
open PySem PySem.Spec PyProof.Rows L2
theorem hu1 {A : Around} (h : A.units + 64 < cLine) : A.units + 1 < cLine := by omega
theorem Same.low {H H' : Hp} {p : Addr} (s : Same H H') (n : H' p = none) : H p = none := by
  cases h : H p with
  | none => rfl
  | some o => rw [s _ _ h] at n; cases n
/-! ### tests of two parts, what follows said once -/
theorem and_ite {c : Prop} [Decidable c] {b : Bool} {A B X : Prop} (hx : c → (b = true → A) → (b = false → B) → X) (hA : c → b = true → A) (hB : (c → b = false) → B) : if decide c = true then X else B := by
  by_cases h : c
  · rw [decide_eq_true h]
    refine iteT (hx h (hA h) fun e => hB fun _ => e)
  · rw [decide_eq_false h]
    exact iteF (hB fun z => absurd z h)
theorem and_iteI {x y : Int} {b : Bool} {A B X : Prop} (hx : x = y → (b = true → A) → (b = false → B) → X) (hA : x = y → b = true → A) (hB : (x = y → b = false) → B) : if decide (V.int x = V.int y) = true then X else B :=
  and_ite (fun h => hx (V.int.inj h)) (fun h => hA (V.int.inj h)) fun h => hB fun e => h (congrArg V.int e)
/-! ### heaps without one object -/
def cutP (p : Addr) (H : Hp) : Hp := fun a => if a = p then none else H a
theorem cutP_same (p : Addr) (H : Hp) : Same (cutP p H) H := fun b o e => by
  unfold cutP at e
  split at e
  · cases e
  · exact e
theorem cutP_of {p a : Addr} {H : Hp} {o : HO} (e : H a = some o) (n : a ≠ p) : cutP p H a = some o := by
  unfold cutP
  rw [if_neg n]
  exact e
theorem _root_.Cm.Kp.cut {p : Addr} {H H' : Hp} (k : Kp p H H') : Same (cutP p H) (cutP p H') := fun b o e => by
  unfold cutP at e ⊢
  split at e
  · cases e
  · rename_i n
    rw [if_neg n]
    exact k b o e n
theorem Same.cut {p : Addr} {H H' : Hp} (s : Same H H') : Same (cutP p H) (cutP p H') := Kp.cut (Kp.of s)
/-! ### rules whose new object is told by what is known of it -/
section
variable {X : Cx} {es : List Expr} {t : TA} {pos : Pos}
def tTupF (t : TA) : TE := fun σ H Q => t σ H fun xs H1 => xs.length ≤ sizeLine ∧ ∀ p H', H1 p = none → Same H1 H' → H' p = some (.tup xs) → Q (.ref p) H'
def tLstF (t : TA) : TE := fun σ H Q => t σ H fun xs H1 => xs.length ≤ sizeLine ∧ ∀ p H', H1 p = none → Same H1 H' → H' p = some (.lst xs) → Q (.ref p) H'
theorem pe_tupF {x1} (h : PA X es t) : PE X (.Tuple es x1 pos) (tTupF t) := by
  refine ⟨fun pins s σ H Q I hq => ?_⟩
  refine wpAny_Tuple_spliced (thn (h.run pos pins s σ H _ I hq) fun us s1 ⟨xs, H1, I1, r, z, q⟩ => ⟨by rw [← r.length]; exact z, ?_⟩)
  have hf : H1 s1.heap.objs.size = none := I1.hok.fresh (Nat.le_refl _)
  refine ⟨.ref s1.heap.objs.size, upd H1 s1.heap.objs.size (.tup xs), I1.laid (t' := s1.toks) (fun b u e => Heap.get?_push_of_some _ e) (Nat.le_refl _) ?_, rfl, q _ _ hf (Same.new hf) upd_same⟩
  exact ⟨z, us, r, ⟨_, Heap.get?_push_size _ rfl, rfl, _, rfl⟩⟩
theorem pe_lstF (h : PA X es t) : PE X (.List es pos) (tLstF t) := by
  refine ⟨fun pins s σ H Q I hq => ?_⟩
  refine wpAny_List_spliced (thn (h.run pos pins s σ H _ I hq) fun us s1 ⟨xs, H1, I1, r, z, q⟩ => ⟨by rw [← r.length]; exact z, ?_⟩)
  have hf : H1 s1.heap.objs.size = none := I1.hok.fresh (Nat.le_refl _)
  refine ⟨.ref s1.heap.objs.size, upd H1 s1.heap.objs.size (.lst xs), I1.laid (t' := s1.toks) (fun b u e => Heap.get?_push_of_some _ e) (Nat.le_refl _) ?_, rfl, q _ _ hf (Same.new hf) upd_same⟩
  exact ⟨z, us, 0, r, Heap.get?_push_size _ rfl⟩
def rCatF : R2 := fun x y H Q => ∃ l b xs zs, x = .ref l ∧ y = .ref b ∧ H l = some (.lst xs) ∧ H b = some (.lst zs) ∧ xs.length + zs.length ≤ sizeLine ∧ ∀ p H', H p = none → Same H H' → H' p = some (.lst (xs ++ zs)) → Q (.ref p) H'
theorem op_catF : OpR X (binaryOp .Add) rCatF := op_cat.imp fun x y H Q h => by
  obtain ⟨l, b, xs, zs, rfl, rfl, h1, h2, h3, q⟩ := h
  exact ⟨l, b, xs, zs, rfl, rfl, h1, h2, h3, fun p np => q p _ np (Same.new np) upd_same⟩
def rRepF : R2 := fun x y H Q => ∃ l k xs, x = .ref l ∧ y = .int k ∧ H l = some (.lst xs) ∧ -(2 ^ 63) ≤ k ∧ k < 2 ^ 63 ∧ xs.length * k.toNat ≤ sizeLine ∧
  ∀ p H', H p = none → Same H H' → H' p = some (.lst (List.replicate k.toNat xs).flatten) → Q (.ref p) H'
theorem op_repF : OpR X (binaryOp .Mult) rRepF := op_rep.imp fun x y H Q h => by
  obtain ⟨l, k, xs, rfl, rfl, h1, h2, h3, h4, q⟩ := h
  exact ⟨l, k, xs, rfl, rfl, h1, h2, h3, h4, fun p np => q p _ np (Same.new np) upd_same⟩
def rSlLF (K : PySem.W.Frag) : V → Option Int → Option Int → Hp → VK → Prop := fun x lo hi H Q => ∃ a xs, x = .ref a ∧ SqL K H a xs ∧ ∀ p H', H p = none → Same H H' → H' p = some (.lst (cutV xs lo hi)) → Q (.ref p) H'
theorem sl_listF : SlR X (rSlLF X.K) := by
  intro pins s σ H x v vl vu lo hi sl Q I rx hs pl pu h
  obtain ⟨a, xs, rfl, ha, q⟩ := h
  exact sl_list pins s σ H (.ref a) v vl vu lo hi sl Q I rx hs pl pu ⟨a, xs, rfl, ha, fun p np => q p _ np (Same.new np) upd_same⟩
def rListF (K : PySem.W.Frag) : List V → Hp → VK → Prop := fun xs H Q => ∃ p ys, xs = [.ref p] ∧ (SqL K H p ys ∨ SqT K H p ys) ∧ ∀ l H', H l = none → Same H H' → H' l = some (.lst ys) → Q (.ref l) H'
theorem call_listF : CallR X (.type "list") (rListF X.K) := by
  intro pins s σ H xs us Q I r h
  obtain ⟨p, ys, rfl, hq, q⟩ := h
  exact call_list_of pins s σ H [.ref p] us Q I r ⟨p, ys, rfl, hq, fun l nl => q l _ nl (Same.new nl) upd_same⟩
def rTupleF (K : PySem.W.Frag) : List V → Hp → VK → Prop := fun xs H Q => ∃ p ys, xs = [.ref p] ∧ ((SqL K H p ys ∧ ∀ l H', H l = none → Same H H' → H' l = some (.tup ys) → Q (.ref l) H') ∨ (SqT K H p ys ∧ Q (.ref p) H))
theorem call_tupleF : CallR X (.type "tuple") (rTupleF X.K) := by
  intro pins s σ H xs us Q I r h
  obtain ⟨p, ys, rfl, hq⟩ := h
  refine call_tuple_of pins s σ H [.ref p] us Q I r ⟨p, ys, rfl, ?_⟩
  rcases hq with ⟨hq, q⟩ | hq
  · exact .inl ⟨hq, fun l nl => q l _ nl (Same.new nl) upd_same⟩
  · exact .inr hq
def rListDF : List V → Hp → VK → Prop := fun xs H Q => ∃ p kvs, xs = [.ref p] ∧ H p = some (.dK kvs) ∧ ∀ l H', H l = none → Same H H' → H' l = some (.lst (kvs.map fun kv => kV kv.1)) → Q (.ref l) H'
theorem call_listDF (hc : X.calm = true) : CallR X (.type "list") rListDF := by
  intro pins s σ H xs us Q I r h
  obtain ⟨p, kvs, rfl, hq, q⟩ := h
  exact call_list_dK hc pins s σ H [.ref p] us Q I r ⟨p, kvs, rfl, hq, fun l nl => q l _ nl (Same.new nl) upd_same⟩
def tDNewF : TE := fun _ H Q => ∀ p H', H p = none → Same H H' → H' p = some (.dK []) → Q (.ref p) H'
theorem pe_dnewF : PE X (.Dict [] [] pos) tDNewF := ⟨fun pins s σ H Q I h => pe_dnewK.run pins s σ H Q I fun p np => h p _ np (Same.new np) upd_same⟩
/-- != of data, or of two dicts that are one -/
theorem op_neAny (hu : X.A.units + 64 < cLine) : OpR X (compareOp .NotEq) (fun x y H Q => rNeD X.K x y H Q ∨ rNeDA x y H Q) := (op_neD hu).or (op_ne_dictA (by omega))
end
/-! ### defs with one keyword-only parameter without a default -/
def DnN (P : Program) (w : World) (K : PySem.W.Frag) (mg : Str → Option Value) (base : Heap) (CX : CXT) (k : Nat) (x : Str) (ps : List Str) (kw : Str) (sp : Sp) : Prop :=
  ∃ (f : Addr) (fd : FuncData), FnOk P w K mg base CX k f fd (ps ++ [kw]) sp ∧ mg x = some (.ref f) ∧ PySem.W.keepIn K (.ref f) = true ∧ KBn K fd (ps ++ [kw]) ps.length [kw] (fun us ws => us ++ ws) (fun vs zs => vs ++ zs) ∧ ∃ oc od osl, K.lookup f = some ⟨oc, od, .func fd, osl⟩
def AtN (K : PySem.W.Frag) (mg : Str → Option Value) (x : Str) (st : Stmt) (ps : List Str) (kw : Str) : Prop :=
  ∃ (f : Addr) (fd : FuncData), FunD K x x (defArgs st) (defBody st) (defScope st) [] [] f fd ∧ mg x = some (.ref f) ∧ KBn K fd (ps ++ [kw]) ps.length [kw] (fun us ws => us ++ ws) (fun vs zs => vs ++ zs)
section
variable {P : Program} {w : World} {K : PySem.W.Frag} {mg : Str → Option Value} {base : Heap}
theorem AtN.ok {x kw : Str} {st : Stmt} {N ps : List Str} {k : Nat} {sp : Sp} (F : AtN K mg x st ps kw) (S : FnScope N (ps ++ [kw]) (defScope st)) (len : ∀ vs H Q E, sp vs H Q E → vs.length = (ps ++ [kw]).length)
    (hbody : ∀ (f : Addr) (cdv : Value) (A : Around) (outer : List Env) (s : Shared) (H : Hp) (vs : List V) (Q : VK) (E : XK), Room k (A.deeper (envOfC x (defScope st) s.heap.objs.size f cdv)) → sp vs H Q E →
      ∃ t, PSs (cxOf CX0 P w K mg base N x (defScope st) f cdv A outer s H E).nox (defBody st) t ∧ t { nx := fun _ H' => Q .non H', rt := Q } (start N vs) H) : DnN P w K mg base CX0 (k + 1) x ps kw sp := by
  obtain ⟨f, fd, F, hm, hb⟩ := F
  refine ⟨f, fd, F.ok S len fun cdv A outer s H vs Q E hr h => ?_, hm, F.kp, hb, F.look⟩
  obtain ⟨t, h1, h2⟩ := hbody f cdv A outer s H vs Q E hr h
  exact ⟨t, h1.nox, h2⟩
theorem atN_mk {x kw : Str} {st : Stmt} {ps : List Str} {f : Addr} {fd : FuncData} (F : FunD K x x (defArgs st) (defBody st) (defScope st) [] [] f fd) (hm : mg x = some (.ref f))
    (h1 : ∀ (kV doc pm : Value) (an : Option Addr) (cdv ct : Value) (us ws : List Value), us.length = ps.length → ws.length = 1 →
      bindArgs (PySem.W.fnOf x x (defArgs st) (defBody st) (defScope st) .none kV doc pm an cdv ct) ⟨us, [kw].zip ws⟩ = pure ((ps ++ [kw]).zip (us ++ ws))) : AtN K mg x st ps kw := by
  refine ⟨f, fd, F, hm, ?_⟩
  obtain ⟨oc, od, dV, kV, doc, pm, an, cdv, ct, osl, rfl, lk, hcd, hD, hK⟩ := F.ex
  rcases hD with ⟨_, rfl⟩ | ⟨e, _⟩
  · exact ⟨fun s us ws _ l1 l2 => .of_eq (h1 kV doc pm an cdv ct us ws l1 l2), fun r rz => r.append rz⟩
  · exact absurd rfl e
end
section
variable {X : Cx} {k : Nat} {x kw : Str} {ps : List Str} {sp : Sp} {p pos kp : Pos} {e ek : Expr} {es : List Expr} {t : TA} {tk : TE}
theorem pe_callV (D : DnN X.prog X.w X.K X.mg X.base CX0 k x ps kw sp) (hr : Room k X.A) (ha : PA X (e :: es) t) (hk : PE X ek tk) (hg : Gl X x := by rfl)
    (hall : (backToKw pos (keywordEach [⟨some kw, ek, kp⟩] X.env)).all (·.1.isSome) = true := by rfl) (hks : (backToKw pos (keywordEach [⟨some kw, ek, kp⟩] X.env)).filterMap (·.1) = [kw] := by rfl)
    (hdb : (x == ("__debug__" : Str)) = false := by decide) (he : starEach (e :: es) X.env = (false, eval e X.env) :: starEach es X.env := by rfl)
    (hpl : ((backTo pos (starEach (e :: es) X.env)).any (·.1) || (backToKw pos (keywordEach [⟨some kw, ek, kp⟩] X.env)).any (·.1.isNone)) = false := by rfl) :
    PE X (.Call (.Name x p) (e :: es) [⟨some kw, ek, kp⟩] pos) (tCallW ps.length sp t tk) := by
  obtain ⟨f, fd, F, hm, hkp, hb, _⟩ := D
  have h := pe_callN (p := p) F hr hg hm hkp hb pass0 ha (pk_cons (nm := some kw) (kpos := kp) hk pk_nil) hall hks hdb he hpl
  refine ⟨fun pins s σ H Q I q => h.run pins s σ H Q I ?_⟩
  exact q
theorem pe_callV0 (D : DnN X.prog X.w X.K X.mg X.base CX0 k x [] kw sp) (hr : Room k X.A) (hk : PE X ek tk) (hg : Gl X x := by rfl)
    (hall : (backToKw pos (keywordEach [⟨some kw, ek, kp⟩] X.env)).all (·.1.isSome) = true := by rfl) (hks : (backToKw pos (keywordEach [⟨some kw, ek, kp⟩] X.env)).filterMap (·.1) = [kw] := by rfl)
    (hdb : (x == ("__debug__" : Str)) = false := by decide)
    (hpl : ((backTo pos (starEach [] X.env)).any (·.1) || (backToKw pos (keywordEach [⟨some kw, ek, kp⟩] X.env)).any (·.1.isNone)) = false := by rfl) :
    PE X (.Call (.Name x p) [] [⟨some kw, ek, kp⟩] pos) (fun σ H Q => tk σ H fun z H2 => [z].length = 1 ∧ sp [z] H2 Q E0) := by
  obtain ⟨f, fd, F, hm, hkp, hb, _⟩ := D
  refine ⟨fun pins s σ H Q I h => ?_⟩
  refine wpAny_Call_Name_kw (ld_glob I hg hm ?_ hdb)
  refine PySem.W.callWith_KW0 (h₀ := X.base) I.ok.mod.kin hkp hall ?_ hpl
  refine thn ((pk_cons (nm := some kw) (kpos := kp) hk pk_nil).run pos pins s σ H (fun zs H2 => zs.length = 1 ∧ sp zs H2 Q E0) I ?_) fun ws s2 ⟨zs, H2, I2, rz, l2, q2⟩ => ⟨I2.kIn, ?_⟩
  · exact h
  rw [hks]
  exact run_fnN (us := []) (vs := []) F hr hb pass0 I2 .nil rz rfl l2 q2
end
theorem pi_listK {X : Cx} (K : PySem.W.Frag) {tg e : Expr} {te : TE} (he : PE X e te) (hK : X.K = K := by rfl) : PI X tg e (iList K te) := by
  subst hK
  exact pi_list he
end Cm

set_option Elab.async false
set_option linter.all false
set_option maxRecDepth 100000
set_option maxHeartbeats 4000000
namespace Cm
open PySem PySem.Spec PyProof.Rows L2
/-- a list of lists of ints, each a list of its own -/
structure Mat (H : Hp) (r : Addr) (as : List Addr) (rows : List (List Int)) : Prop where
  hd : H r = some (.lst (as.map V.ref))
  nd : (r :: as).Nodup
  len : as.length = rows.length
  get : ∀ (i : Nat) (a : Addr) (row : List Int), as[i]? = some a → rows[i]? = some row → H a = some (.lst (row.map V.int))
theorem Mat.nil {H : Hp} {r : Addr} (h : H r = some (.lst [])) : Mat H r [] [] := ⟨h, by simp, rfl, fun i a row e => by simp at e⟩
theorem Mat.in {H : Hp} {r : Addr} {as : List Addr} {rows : List (List Int)} (M : Mat H r as rows) {a : Addr} (h : a ∈ as) : ∃ o, H a = some o := by
  obtain ⟨i, hi, e⟩ := List.mem_iff_getElem.mp h
  have hi2 : i < rows.length := by rw [← M.len]; exact hi
  exact ⟨_, M.get i a rows[i] (by rw [List.getElem?_eq_getElem hi, e]) (by rw [List.getElem?_eq_getElem hi2])⟩
theorem Mat.same {H H' : Hp} {r : Addr} {as : List Addr} {rows : List (List Int)} (M : Mat H r as rows) (s : Same H H') : Mat H' r as rows := ⟨s _ _ M.hd, M.nd, M.len, fun i a row e1 e2 => s _ _ (M.get i a row e1 e2)⟩
theorem Mat.snoc {H H4 : Hp} {r d : Addr} {as : List Addr} {rows : List (List Int)} {row : List Int} (M : Mat H r as rows) (s : Same H H4) (nd : H d = none) (ed : H4 d = some (.lst (row.map V.int))) :
    Mat (upd H4 r (.lst (as.map V.ref ++ [V.ref d]))) r (as ++ [d]) (rows ++ [row]) := by
  have dr : d ≠ r := fun e => by rw [e] at nd; rw [M.hd] at nd; cases nd
  have da : d ∉ as := fun h => by obtain ⟨o, e⟩ := M.in h; rw [nd] at e; cases e
  have hn := List.nodup_cons.mp M.nd
  refine ⟨by rw [upd_same, List.map_append]; rfl, ?_, by rw [List.length_append, List.length_append, M.len]; rfl, fun i a rw' e1 e2 => ?_⟩
  · refine List.nodup_cons.mpr ⟨fun h => ?_, ?_⟩
    · rcases List.mem_append.mp h with h | h
      · exact hn.1 h
      · exact dr (List.mem_singleton.mp h).symm
    · refine List.nodup_append.mpr ⟨hn.2, by simp, fun x hx y hy e => ?_⟩
      rw [List.mem_singleton.mp hy] at e
      exact da (e ▸ hx)
  · by_cases hi : i < as.length
    · rw [List.getElem?_append_left hi] at e1
      rw [List.getElem?_append_left (by rw [← M.len]; exact hi)] at e2
      have ha : a ∈ as := List.mem_of_getElem? e1
      have : a ≠ r := fun e => hn.1 (e ▸ ha)
      rw [upd_ne this]
      exact s _ _ (M.get i a rw' e1 e2)
    · have hi' : as.length ≤ i := by omega
      rw [List.getElem?_append_right hi'] at e1
      rw [List.getElem?_append_right (by rw [← M.len]; exact hi'), ← M.len] at e2
      have i0 : i - as.length = 0 := by
        cases h : i - as.length with
        | zero => rfl
        | succ n => rw [h] at e1; simp at e1
      rw [i0] at e1 e2
      simp at e1 e2
      rw [← e1, ← e2, upd_ne dr]
      exact ed
theorem Mat.kp {H H' : Hp} {r p : Addr} {as : List Addr} {rows : List (List Int)} (M : Mat H r as rows) (k : Kp p H H') (n : ∀ c ∈ r :: as, c ≠ p) : Mat H' r as rows :=
  ⟨k _ _ M.hd (n _ (List.mem_cons_self ..)), M.nd, M.len, fun i a row e1 e2 => k _ _ (M.get i a row e1 e2) (n _ (List.mem_cons_of_mem _ (List.mem_of_getElem? e1)))⟩
theorem Mat.put {H : Hp} {r : Addr} {as : List Addr} {rows : List (List Int)} (M : Mat H r as rows) {i : Nat} {a : Addr} (e : as[i]? = some a) (row : List Int) : Mat (upd H a (.lst (row.map V.int))) r as (rows.set i row) := by
  have hn := List.nodup_cons.mp M.nd
  have ha : a ∈ as := List.mem_of_getElem? e
  refine ⟨by rw [upd_ne (show r ≠ a from fun z => hn.1 (z ▸ ha))]; exact M.hd, M.nd, by rw [List.length_set]; exact M.len, fun j b rw' e1 e2 => ?_⟩
  by_cases h : j = i
  · subst h
    rw [e] at e1
    cases e1
    have hl : j < rows.length := by rw [← M.len]; exact (List.getElem?_eq_some_iff.mp e).1
    rw [List.getElem?_set_self hl] at e2
    cases e2
    exact upd_same
  · rw [List.getElem?_set_ne (Ne.symm h)] at e2
    have ba : b ≠ a := fun z => by
      rw [z] at e1
      obtain ⟨q1, q2⟩ := List.getElem?_eq_some_iff.mp e1
      obtain ⟨q3, q4⟩ := List.getElem?_eq_some_iff.mp e
      exact h ((List.getElem_inj (h₀ := q1) (h₁ := q3) hn.2).mp (q2.trans q4.symm))
    rw [upd_ne ba]
    exact M.get j b rw' e1 e2
/-! ### comprehensions whose members are new lists of ints -/
section
variable {J : It} {n : Nat} {G : Hp → Prop} {Y : Nat → Hp → V → Hp → Prop}
theorem lc_rows (w : Walk J n G Y) {g : TG} {tt : TT} {te : TE} {vs : List Nat} {σ : L2.St} {H1 : Hp} {D : Addr} {Qd : Hp → Prop} (rows : Nat → List Int) (hD : H1 D = none) (hn : n < sizeLine) (hG : ∀ H, Same H1 H → G H)
    (hs : ∀ i x H H' (R : V → Hp → Prop) (R' : Hp → Prop), i < n → Same H1 H → Y i H x H' → (∀ d H4, Same H H4 → H d = none → H4 d = some (.lst ((rows i).map V.int)) → R (.ref d) H4) → g x (wipe σ vs) H' fun σ2 H2 => wipe σ2 vs = wipe σ vs ∧ tt σ2 H2 fun b H3 => if b = true then te σ2 H3 R else R' H3)
    (hd : ∀ H as, Same H1 H → Mat H D as ((List.range n).map rows) → (∀ b ∈ as, H1 b = none) → Qd H) :
    ∃ W : Nat → Nat → Hp → Prop, (∃ m, W 0 m (upd H1 D (.lst []))) ∧ ∀ i m H, W i m H →
      (J.stop i H ∧ Qd H) ∨ (J.go i H ∧ ∃ Nx : Hp → Prop, (∀ H', Nx H' → ∃ m', m' < m ∧ W (i + 1) m' H') ∧ ∀ x H', J.yld i H x H' → g x (wipe σ vs) H' fun σ2 H2 => wipe σ2 vs = wipe σ vs ∧ tt σ2 H2 fun b H3 =>
        if b = true then te σ2 H3 fun y H4 => ∃ acc, H4 D = some (.lst acc) ∧ acc.length < sizeLine ∧ Nx (upd H4 D (.lst (acc ++ [y]))) else Nx H3) := by
  refine lc_it w (fun i H => Same H1 H ∧ ∃ as, Mat H D as ((List.range i).map rows) ∧ ∀ b ∈ as, H1 b = none) ⟨Same.new hD, [], Mat.nil upd_same, fun _ h => by cases h⟩ (fun i H _ p => hG H p.1) ?_ (fun H ⟨p1, as, p2, p3⟩ => hd H as p1 p2 p3)
  intro i x H H' hi p y
  obtain ⟨p1, as, p2, p3⟩ := p
  refine hs i x H H' _ _ hi p1 y fun d H4 s4 nd ed => ?_
  have al : as.length = i := by rw [p2.len, List.length_map, List.length_range]
  refine ⟨_, s4 _ _ p2.hd, by rw [List.length_map, al]; omega, fun b o e => ?_, as ++ [d], ?_, fun b hb => ?_⟩
  · rw [upd_ne (ne_of_none e hD)]
    exact s4 _ _ (p1 _ _ e)
  · rw [List.range_succ, List.map_append]
    exact p2.snoc s4 nd ed
  · rcases List.mem_append.mp hb with hb | hb
    · exact p3 b hb
    · rw [List.mem_singleton.mp hb]
      exact Same.low p1 nd
end
/-! ### dict comprehensions -/
section
variable {J : It} {n : Nat} {G : Hp → Prop} {Y : Nat → Hp → V → Hp → Prop}
theorem dc_it (w : Walk J n G Y) {g : TG} {tt : TT} {tk tv : TE} {vs : List Nat} {σ : L2.St} {H1 : Hp} {D : Addr} {Qd : Hp → Prop} (Pv : Nat → Hp → Prop) (h0 : Pv 0 (upd H1 D (.dK []))) (hG : ∀ i H, i ≤ n → Pv i H → G H)
    (hs : ∀ i x H H', i < n → Pv i H → Y i H x H' → g x (wipe σ vs) H' fun σ2 H2 => wipe σ2 vs = wipe σ vs ∧ tt σ2 H2 fun b H3 =>
      if b = true then tk σ2 H3 fun y H4 => tv σ2 H4 fun z H5 => ∃ kvs k, y = kV k ∧ H5 D = some (.dK kvs) ∧ kvs.length < sizeLine ∧ Pv (i + 1) (upd H5 D (.dK (putK kvs k z))) else Pv (i + 1) H3) (hd : ∀ H, Pv n H → Qd H) :
    ∃ W : Nat → Nat → Hp → Prop, (∃ m, W 0 m (upd H1 D (.dK []))) ∧ ∀ i m H, W i m H →
      (J.stop i H ∧ Qd H) ∨ (J.go i H ∧ ∃ Nx : Hp → Prop, (∀ H', Nx H' → ∃ m', m' < m ∧ W (i + 1) m' H') ∧ ∀ x H', J.yld i H x H' → g x (wipe σ vs) H' fun σ2 H2 => wipe σ2 vs = wipe σ vs ∧ tt σ2 H2 fun b H3 =>
        if b = true then tk σ2 H3 fun y H4 => tv σ2 H4 fun z H5 => ∃ kvs k, y = kV k ∧ H5 D = some (.dK kvs) ∧ kvs.length < sizeLine ∧ Nx (upd H5 D (.dK (putK kvs k z))) else Nx H3) := by
  refine ⟨fun i m H => m = n - i ∧ i ≤ n ∧ Pv i H, ⟨n, by simp, Nat.zero_le _, h0⟩, ?_⟩
  rintro i m H ⟨rfl, hi, p⟩
  have q := hG i H hi p
  by_cases hlt : i < n
  · refine .inr ⟨w.goes i H hlt q, Pv (i + 1), fun H' p' => ⟨n - (i + 1), by omega, rfl, hlt, p'⟩, fun x H' y => hs i x H H' hlt p (w.yields i H x H' hlt q y)⟩
  · have e : i = n := by omega
    subst e
    exact .inl ⟨w.stops H q, hd H p⟩
/-- of keys that are all unlike, and values that are known -/
theorem dc_map (w : Walk J n G Y) {g : TG} {tt : TT} {tk tv : TE} {vs : List Nat} {σ : L2.St} {H1 : Hp} {D : Addr} {Qd : Hp → Prop} (kf : Nat → Key) (vf : Nat → V) (hk : ∀ i j, i < j → j < n → kf i ≠ kf j) (hD : H1 D = none) (hn : n < sizeLine) (hG : ∀ H, Same H1 H → G H)
    (hs : ∀ i x H H' (R : V → V → Hp → Prop) (R' : Hp → Prop), i < n → Same H1 H → Y i H x H' → (∀ H4, Same H H4 → R (kV (kf i)) (vf i) H4) → g x (wipe σ vs) H' fun σ2 H2 => wipe σ2 vs = wipe σ vs ∧ tt σ2 H2 fun b H3 => if b = true then tk σ2 H3 fun y H4 => tv σ2 H4 (R y) else R' H3)
    (hd : ∀ H, Same H1 H → H D = some (.dK ((List.range n).map fun i => (kf i, vf i))) → Qd H) :
    ∃ W : Nat → Nat → Hp → Prop, (∃ m, W 0 m (upd H1 D (.dK []))) ∧ ∀ i m H, W i m H →
      (J.stop i H ∧ Qd H) ∨ (J.go i H ∧ ∃ Nx : Hp → Prop, (∀ H', Nx H' → ∃ m', m' < m ∧ W (i + 1) m' H') ∧ ∀ x H', J.yld i H x H' → g x (wipe σ vs) H' fun σ2 H2 => wipe σ2 vs = wipe σ vs ∧ tt σ2 H2 fun b H3 =>
        if b = true then tk σ2 H3 fun y H4 => tv σ2 H4 fun z H5 => ∃ kvs k, y = kV k ∧ H5 D = some (.dK kvs) ∧ kvs.length < sizeLine ∧ Nx (upd H5 D (.dK (putK kvs k z))) else Nx H3) := by
  refine dc_it w (fun i H => Same H1 H ∧ H D = some (.dK ((List.range i).map fun i => (kf i, vf i)))) ⟨Same.new hD, upd_same⟩ (fun i H _ p => hG H p.1) ?_ (fun H p => hd H p.1 p.2)
  intro i x H H' hi p y
  refine hs i x H H' (fun y z H5 => ∃ kvs k, y = kV k ∧ H5 D = some (.dK kvs) ∧ kvs.length < sizeLine ∧ (Same H1 (upd H5 D (.dK (putK kvs k z))) ∧ upd H5 D (.dK (putK kvs k z)) D = some (.dK ((List.range (i + 1)).map fun i => (kf i, vf i))))) _ hi p.1 y fun H4 s4 => ?_
  refine ⟨_, _, rfl, s4 _ _ p.2, by rw [List.length_map, List.length_range]; omega, fun b o e => ?_, ?_⟩
  · rw [upd_ne (ne_of_none e hD)]
    exact s4 _ _ (p.1 _ _ e)
  · rw [upd_same, putK_new, List.range_succ, List.map_append]
    · rfl
    · have : ∀ m, m ≤ i → valV ((List.range m).map fun i => (kf i, vf i)) (kf i) = none := fun m => by
        induction m with
        | zero => intro _; rfl
        | succ m ih =>
          intro hm
          rw [List.range_succ, List.map_append]
          show valV (((List.range m).map fun i => (kf i, vf i)) ++ [(kf m, vf m)]) (kf i) = none
          have h0 : valV ((List.range m).map fun i => (kf i, vf i)) (kf m) = none := by
            have : ∀ q, q ≤ m → valV ((List.range q).map fun i => (kf i, vf i)) (kf m) = none := fun q => by
              induction q with
              | zero => intro _; rfl
              | succ q ihq =>
                intro hq
                have e1 : ((List.range (q + 1)).map fun i => (kf i, vf i)) = ((List.range q).map fun i => (kf i, vf i)) ++ [(kf q, vf q)] := by rw [List.range_succ, List.map_append]; rfl
                unfold valV
                rw [e1, List.find?_append]
                have := ihq (by omega)
                unfold valV at this
                rw [Option.map_eq_none_iff] at this
                rw [this]
                simp [hk q m (by omega) (by omega)]
            exact this m (Nat.le_refl _)
          rw [valV_snoc _ _ _ _ h0, if_neg (fun e => hk m i (by omega) hi e.symm)]
          exact ih (by omega)
      exact this i (Nat.le_refl _)
end
theorem valV_none {kvs : List (Key × V)} {k : Key} (h : ∀ p ∈ kvs, p.1 ≠ k) : valV kvs k = none := by
  unfold valV
  rw [Option.map_eq_none_iff, List.find?_eq_none]
  intro p hp
  simpa using h p hp
theorem valV_range {n : Nat} {kf : Nat → Key} {vf : Nat → V} (hk : ∀ i j, i < j → j < n → kf i ≠ kf j) : ∀ {m j : Nat}, m ≤ n → j < m → valV ((List.range m).map fun i => (kf i, vf i)) (kf j) = some (vf j)
  | 0, j, _, h => absurd h (by omega)
  | m + 1, j, hm, hj => by
    have e1 : ((List.range (m + 1)).map fun i => (kf i, vf i)) = ((List.range m).map fun i => (kf i, vf i)) ++ [(kf m, vf m)] := by rw [List.range_succ, List.map_append]; rfl
    rw [e1]
    have h0 : valV ((List.range m).map fun i => (kf i, vf i)) (kf m) = none := valV_none fun p hp => by
      obtain ⟨i, hi, rfl⟩ := List.mem_map.mp hp
      exact hk i m (List.mem_range.mp hi) (by omega)
    rw [valV_snoc _ _ _ _ h0]
    by_cases e : j = m
    · subst e
      rw [if_pos rfl]
    · rw [if_neg (hk j m (by omega) (by omega))]
      exact valV_range hk (by omega) (by omega)
/-! ### a dict of lists of ints, by places from 0 -/
def pairsD (as : List Addr) : List (Key × V) := (List.range as.length).map fun (i : Nat) => (Sum.inl (i : Int), V.ref (as.getD i default))
theorem inl_ne {i j : Nat} (h : i < j) : (Sum.inl (i : Int) : Key) ≠ Sum.inl (j : Int) := fun e => by
  have := Sum.inl.inj e
  omega
theorem pairsD_at {as : List Addr} {i : Nat} {a : Addr} (h : as[i]? = some a) : valV (pairsD as) (Sum.inl (i : Int)) = some (.ref a) := by
  have hi := (List.getElem?_eq_some_iff.mp h).1
  have := valV_range (n := as.length) (kf := fun i => Sum.inl (i : Int)) (vf := fun i => V.ref (as.getD i default)) (fun i j h _ => inl_ne h) (Nat.le_refl _) hi
  unfold pairsD
  rw [this, List.getD_eq_getElem?_getD, h]
  rfl
structure DMat (H : Hp) (r : Addr) (as : List Addr) (rows : List (List Int)) : Prop where
  hd : H r = some (.dK (pairsD as))
  nd : (r :: as).Nodup
  len : as.length = rows.length
  get : ∀ (i : Nat) (a : Addr) (row : List Int), as[i]? = some a → rows[i]? = some row → H a = some (.lst (row.map V.int))
theorem DMat.same {H H' : Hp} {r : Addr} {as : List Addr} {rows : List (List Int)} (M : DMat H r as rows) (s : Same H H') : DMat H' r as rows := ⟨s _ _ M.hd, M.nd, M.len, fun i a row e1 e2 => s _ _ (M.get i a row e1 e2)⟩
theorem DMat.in {H : Hp} {r : Addr} {as : List Addr} {rows : List (List Int)} (M : DMat H r as rows) {a : Addr} (h : a ∈ as) : ∃ o, H a = some o := by
  obtain ⟨i, hi, e⟩ := List.mem_iff_getElem.mp h
  have hi2 : i < rows.length := by rw [← M.len]; exact hi
  exact ⟨_, M.get i a rows[i] (by rw [List.getElem?_eq_getElem hi, e]) (by rw [List.getElem?_eq_getElem hi2])⟩
theorem pairsD_snoc (as : List Addr) (d : Addr) : putK (pairsD as) (Sum.inl (as.length : Int)) (.ref d) = pairsD (as ++ [d]) := by
  rw [putK_new]
  · unfold pairsD
    rw [List.length_append, List.length_singleton, List.range_succ, List.map_append]
    congr 1
    · refine List.map_congr_left fun i hi => ?_
      rw [List.getD_eq_getElem?_getD, List.getD_eq_getElem?_getD, List.getElem?_append_left (List.mem_range.mp hi)]
    · simp [List.getD]
  · refine valV_none fun p hp => ?_
    obtain ⟨i, hi, rfl⟩ := List.mem_map.mp hp
    exact inl_ne (List.mem_range.mp hi)
theorem DMat.snoc {H H4 : Hp} {r d : Addr} {as : List Addr} {rows : List (List Int)} {row : List Int} (M : DMat H r as rows) (s : Same H H4) (nd : H d = none) (ed : H4 d = some (.lst (row.map V.int))) :
    DMat (upd H4 r (.dK (putK (pairsD as) (Sum.inl (as.length : Int)) (.ref d)))) r (as ++ [d]) (rows ++ [row]) := by
  have dr : d ≠ r := fun e => by rw [e] at nd; rw [M.hd] at nd; cases nd
  have da : d ∉ as := fun h => by obtain ⟨o, e⟩ := M.in h; rw [nd] at e; cases e
  have hn := List.nodup_cons.mp M.nd
  refine ⟨by rw [upd_same, pairsD_snoc], ?_, by rw [List.length_append, List.length_append, M.len]; rfl, fun i a rw' e1 e2 => ?_⟩
  · refine List.nodup_cons.mpr ⟨fun h => ?_, ?_⟩
    · rcases List.mem_append.mp h with h | h
      · exact hn.1 h
      · exact dr (List.mem_singleton.mp h).symm
    · refine List.nodup_append.mpr ⟨hn.2, by simp, fun x hx y hy e => ?_⟩
      rw [List.mem_singleton.mp hy] at e
      exact da (e ▸ hx)
  · by_cases hi : i < as.length
    · rw [List.getElem?_append_left hi] at e1
      rw [List.getElem?_append_left (by rw [← M.len]; exact hi)] at e2
      have ha : a ∈ as := List.mem_of_getElem? e1
      have : a ≠ r := fun e => hn.1 (e ▸ ha)
      rw [upd_ne this]
      exact s _ _ (M.get i a rw' e1 e2)
    · have hi' : as.length ≤ i := by omega
      rw [List.getElem?_append_right hi'] at e1
      rw [List.getElem?_append_right (by rw [← M.len]; exact hi'), ← M.len] at e2
      have i0 : i - as.length = 0 := by
        cases h : i - as.length with
        | zero => rfl
        | succ n => rw [h] at e1; simp at e1
      rw [i0] at e1 e2
      simp at e1 e2
      rw [← e1, ← e2, upd_ne dr]
      exact ed
section
variable {J : It} {n : Nat} {G : Hp → Prop} {Y : Nat → Hp → V → Hp → Prop}
theorem dc_rows (w : Walk J n G Y) {g : TG} {tt : TT} {tk tv : TE} {vs : List Nat} {σ : L2.St} {H1 : Hp} {D : Addr} {Qd : Hp → Prop} (rows : Nat → List Int) (hD : H1 D = none) (hn : n < sizeLine) (hG : ∀ H, Same H1 H → G H)
    (hs : ∀ i x H H' (R : V → V → Hp → Prop) (R' : Hp → Prop), i < n → Same H1 H → Y i H x H' → (∀ d H4, Same H H4 → H d = none → H4 d = some (.lst ((rows i).map V.int)) → R (.int i) (.ref d) H4) → g x (wipe σ vs) H' fun σ2 H2 => wipe σ2 vs = wipe σ vs ∧ tt σ2 H2 fun b H3 => if b = true then tk σ2 H3 fun y H4 => tv σ2 H4 (R y) else R' H3)
    (hd : ∀ H as, Same H1 H → DMat H D as ((List.range n).map rows) → (∀ b ∈ as, H1 b = none) → Qd H) :
    ∃ W : Nat → Nat → Hp → Prop, (∃ m, W 0 m (upd H1 D (.dK []))) ∧ ∀ i m H, W i m H →
      (J.stop i H ∧ Qd H) ∨ (J.go i H ∧ ∃ Nx : Hp → Prop, (∀ H', Nx H' → ∃ m', m' < m ∧ W (i + 1) m' H') ∧ ∀ x H', J.yld i H x H' → g x (wipe σ vs) H' fun σ2 H2 => wipe σ2 vs = wipe σ vs ∧ tt σ2 H2 fun b H3 =>
        if b = true then tk σ2 H3 fun y H4 => tv σ2 H4 fun z H5 => ∃ kvs k, y = kV k ∧ H5 D = some (.dK kvs) ∧ kvs.length < sizeLine ∧ Nx (upd H5 D (.dK (putK kvs k z))) else Nx H3) := by
  refine dc_it w (fun i H => Same H1 H ∧ ∃ as, DMat H D as ((List.range i).map rows) ∧ ∀ b ∈ as, H1 b = none) ⟨Same.new hD, [], ⟨(by show upd H1 D (.dK []) D = some (.dK []); exact upd_same), by simp, rfl, fun i a row e => by simp at e⟩, fun _ h => by cases h⟩ (fun i H _ p => hG H p.1) ?_ (fun H ⟨p1, as, p2, p3⟩ => hd H as p1 p2 p3)
  intro i x H H' hi p y
  obtain ⟨p1, as, p2, p3⟩ := p
  refine hs i x H H' (fun y z H5 => ∃ kvs k, y = kV k ∧ H5 D = some (.dK kvs) ∧ kvs.length < sizeLine ∧ (Same H1 (upd H5 D (.dK (putK kvs k z))) ∧ ∃ as, DMat (upd H5 D (.dK (putK kvs k z))) D as ((List.range (i + 1)).map rows) ∧ ∀ b ∈ as, H1 b = none)) _ hi p1 y fun d H4 s4 nd ed => ?_
  have al : as.length = i := by rw [p2.len, List.length_map, List.length_range]
  refine ⟨pairsD as, Sum.inl (as.length : Int), by rw [al]; rfl, s4 _ _ p2.hd, by unfold pairsD; rw [List.length_map, List.length_range, al]; omega, fun b o e => ?_, as ++ [d], ?_, fun b hb => ?_⟩
  · rw [upd_ne (ne_of_none e hD)]
    exact s4 _ _ (p1 _ _ e)
  · rw [List.range_succ, List.map_append]
    exact p2.snoc s4 nd ed
  · rcases List.mem_append.mp hb with hb | hb
    · exact p3 b hb
    · rw [List.mem_singleton.mp hb]
      exact Same.low p1 nd
end
end Cm

set_option Elab.async false
set_option linter.all false
set_option maxRecDepth 100000
set_option maxHeartbeats 4000000
namespace Cm
open PySem PySem.Spec PyProof.Rows L2
/-! ### a caught exception that a name holds behind the suite -/
/-- at a: an exception of the class cls, its own dict at d -/
def exh (a : Addr) (cls : Value) (d : Option Addr) : HO := .ext fun h => ∃ oe vs, h.get? a = some oe ∧ Zc cls d oe ∧ oe.data = .fields vs
theorem exh_ok {P : Program} {w : World} {H : Hp} {h : Heap} {a : Addr} {cls : Value} {d : Option Addr} {oe : Obj} {vs : Array Value} (e : h.get? a = some oe) (z : Zc cls d oe) (dt : oe.data = .fields vs) : ObjOk P w H h a (exh a cls d) :=
  ⟨⟨oe, vs, e, z, dt⟩, ⟨oe, e⟩, fun _ _ ⟨o, us, k1, k2, k3⟩ st => ⟨o, us, st _ k1, k2, k3⟩⟩
theorem exh_at {P : Program} {w : World} {H : Hp} {h : Heap} {a : Addr} {cls : Value} {d : Option Addr} (k : HOk P w H h) (e : H a = some (exh a cls d)) : ∃ oe vs, h.get? a = some oe ∧ Zc cls d oe ∧ oe.data = .fields vs := by
  have x : ObjOk P w H h a (.ext fun h => ∃ oe vs, h.get? a = some oe ∧ Zc cls d oe ∧ oe.data = .fields vs) := k a _ e
  exact x.1
section
variable {X : Cx} {pins : List (Addr × Obj)} {σ : L2.St} {H : Hp} {s : Shared}
/-- what stands at a is looked at from now on -/
theorem track {a : Addr} {o : Obj} {u : HO} (I : Inv X pins σ H s) (e : s.heap.get? a = some o) (na : H a = none) (nL : a ≠ X.env.locals) (nC : ∀ v, o.data ≠ .cell v) (nP : ∀ p ∈ X.pn ++ pins, p.1 ≠ a) (n0 : X.s_0.heap.get? a = none)
    (new : ObjOk X.prog X.w (upd H a u) s.heap a u) : Inv X pins σ (upd H a u) s := by
  have put : ∀ {b : Addr} {v : HO}, H b = some v → upd H a u b = some v := fun {b v} q => by rw [upd_ne (ne_of_none q na)]; exact q
  refine ⟨I.ok, I.os, I.bare, ⟨I.base.keep, I.base.slot, fun b ob q n x => ?_, I.base.there, fun b xs q => put (I.base.tups b xs q), fun b ob v q => put (I.base.frzs b ob v q), fun b ps q => ?_⟩, I.loc, I.cell, ?_, fun y c q => ?_, fun p hp => ?_, fun b ob q => ?_, I.len⟩
  · rw [upd_ne (show b ≠ a from fun z => by rw [z, n0] at q; cases q)]
    exact I.base.free b ob q n x
  · obtain ⟨m, q2⟩ := I.base.tbls b ps q
    exact ⟨m, put q2⟩
  · rw [upd_ne (Ne.symm nL)]
    exact I.free
  · have nca : c ≠ a := fun z => by
      obtain ⟨v, oc, q1, q2⟩ := I.cell y c q
      rw [z, e] at q1
      cases q1
      exact nC v q2
    rw [upd_ne nca]
    exact I.freeC y c q
  · obtain ⟨q1, q2, q3⟩ := I.pin p hp
    exact ⟨q1, by rw [upd_ne (nP p hp)]; exact q2, q3⟩
  · by_cases hb : b = a
    · subst hb
      rw [upd_same] at q
      cases q
      exact new
    · rw [upd_ne hb] at q
      exact (I.hok b ob q).stay (fun _ _ _ z => z) (fun _ z => put z) (fun _ _ z => put z)
end
/-- try: body / except x as n: y = n. The exception is of the class x; it stands at a behind, y holds it, n is gone -/
def wKeep (K : PySem.W.Frag) (c : Value) (i j : Nat) (D : Ends) : WX := fun cls d σ H => PySem.W.exmOne K cls c = some true ∧ ∀ a, H a = none → D.nx (((σ.set i (some (.ref a))).set j (some (.ref a))).set i none) (upd H a (exh a cls d))
section
variable {X : Cx} {x n y : Str} {c : Value} {i j : Nat} {body : List Stmt} {np np2 yp p2 pos pos' : Pos} {tb : WX → TS}
theorem ps_try_keep (hs : X.stack = X.env :: X.outer) (hf : X.env.frame = some X.env.locals) (hx : X.ex = []) (hN : X.N.Nodup) (hi : X.N[i]? = some n) (hln : X.env.kindOf n = some .local) (hj : X.N[j]? = some y) (hly : X.env.scope.names.lookup y = some .local) (hdn : (n == ("__debug__" : Str)) = false) (hdc : (n == ("__classdict__" : Str)) = false) (hc : Names X x c)
    (hsw : swapsWith (.Name n np2) (some (.Name y yp)) p2.line X.env = pure false)
    (hb : ∀ (W : WX) (pn : List (Addr × Obj)) (xe : Value → Shared → Prop), Takes (X.tr pn xe) W → PassesOwn (model X.prog X.w) X.A X.env xe → PSs (X.tr pn xe) body (tb W)) :
    PS X (.Try body [.ExceptHandler (some (.Name x np)) (some n) [.Assign [.Name y yp] (.Name n np2) p2] pos'] [] [] pos) (fun D σ H => tb (wKeep X.K c i j D) D σ H) := by
  refine ⟨fun pins s σ H D I h => ?_⟩
  have ok := I.ok
  refine wpAny_Try_except (wpAny_mono ((hb (wKeep X.K c i j D) (X.pn ++ pins) _ (fun u s1 air => ?_) PassesOwn.looking).run [] s σ H D (I.toTry _) h) (fun f s1 q => ?_) fun _ _ q => q)
  · obtain ⟨a, B, sI, pins1, σ1, H1, cls, d, rfl, K1, nb, up, sky, na, os, ag, em, fin⟩ := air
    have J : Inv X pins σ1 H1 sI := K1.ofTry ok
    have hA : X.A.frames = some (X.env :: X.outer) := by rw [ok.frames, hs]
    have inB : ∀ b o, sI.heap.get? b = some o → b ∉ frs (X.env :: X.outer) → B.get? b = some o := hs ▸ nb
    refine Sky.land Zc.steady hA hf (hs ▸ sky) fun h3 fl3 up3 => ?_
    have aB : B.get? a = none := fl3.2.1
    have J3 : Inv X pins σ1 H1 { s1 with heap := h3 } := J.landed nb fl3.1 (up.trans up3) os ag
    obtain ⟨oe3, vs3, e3, z3, dt3⟩ := fl3.there
    have notF : a ∉ frs (X.env :: X.outer) := fun hm => by
      obtain ⟨_, o, e, nf⟩ := fl3.2.2.1.mem hm
      rw [e3] at e
      cases e
      exact nf _ dt3
    have nL : a ≠ X.env.locals := fun z => notF (List.mem_filterMap.mpr ⟨X.env, List.mem_cons_self, by rw [hf, z]⟩)
    have nF : a ∉ X.fs := fun hm => by
      obtain ⟨ev, h1, h2⟩ := List.mem_filterMap.mp hm
      exact notF (List.mem_filterMap.mpr ⟨ev, List.mem_cons_of_mem _ h1, h2⟩)
    have frOf : ∀ b, b ≠ X.env.locals → b ∉ X.fs → b ∉ frs (X.env :: X.outer) := fun b h1 h2 hm => by
      obtain ⟨ev, h3, h4⟩ := List.mem_filterMap.mp hm
      rcases List.mem_cons.mp h3 with rfl | h3
      · rw [hf] at h4
        exact h1 (Option.some.inj h4).symm
      · exact h2 (List.mem_filterMap.mpr ⟨ev, h3, h4⟩)
    have nP : ∀ p ∈ X.pn ++ pins, p.1 ≠ a := fun p hp z => by
      obtain ⟨q1, _, q3, q4, _⟩ := J.pin p hp
      have := inB _ _ q1 (frOf _ q3 q4)
      rw [z, aB] at this
      cases this
    have n0 : X.s_0.heap.get? a = none := by
      cases e : X.s_0.heap.get? a with
      | none => rfl
      | some o =>
        obtain ⟨o', e'⟩ := J.base.there a o e (by rw [hx]; simp)
        have := inB _ _ e' notF
        rw [aB] at this
        cases this
    have S3 := J3.suite e3 dt3 na nL nF
    refine wpAny_handleBy_cons (codeAny_handlers_test ?_) (fun z => by cases z)
    have tyA : PySem.W.Looks (model X.prog X.w) h3 (typeOf (.ref a)) cls := fun _ _ _ _ k q => wpAny_typeOf_ref (k _ _ e3) (by rw [z3.1]; exact q)
    have ex := PySem.W.exm_one (M := model X.prog X.w) J3.kIn tyA em
    have named : ∀ {Q : Value → Shared → Prop} {E : Value → Shared → Prop}, Q c { s1 with heap := h3 } → wpAny (model X.prog X.w) (X.A.mark (some (.ref a))) (eval (.Name x np) X.env) Q E { s1 with heap := h3 } := fun {Q E} q => by
      obtain ⟨g1, g2, g3 | ⟨g3, g4, g5⟩⟩ := hc
      · exact ld_glob (X := X.suite a ((a, oe3) :: (X.pn ++ pins))) S3 g1 g3 q g2
      · exact ld_blt (X := X.suite a ((a, oe3) :: (X.pn ++ pins))) S3 g1 g3 g4 q g5 g2
    refine named (ex.here (codeAny_handlers_suite_as (HandSPX.lands_againZ fl3 fun h4 fl4 up4 => ?_)))
    have J4 : Inv X pins σ1 H1 { s1 with heap := h4 } := J.landed nb fl4.1 ((up.trans up3).trans up4) os ag
    obtain ⟨oe, vs, e4, z4, dt4⟩ := fl4.there
    refine store_ok (X := X.suite a ((a, oe) :: (X.pn ++ pins))) (v := .ref a) (J4.suite e4 dt4 na nL nF) hN hi (.inl hln) rfl (fun s5 S5 => ?_) (.inr hln)
    have hi1 : i < σ1.length := by rw [J.len]; exact (List.getElem?_eq_some_iff.mp hi).1
    have step : PSs (X.suite a ((a, oe) :: (X.pn ++ pins))) [.Assign [.Name y yp] (.Name n np2) p2] (tAsg (tVar i) (gName j)) :=
      pss_one (ps_set (i := j) hN hj (.inl hly) (pe_var hi (.inl hln) hdn hdc) hsw (.inr hly))
    refine wpAny_mono (step.run [] s5 (σ1.set i (some (.ref a))) H1 { nx := fun σ6 H6 => σ6 = (σ1.set i (some (.ref a))).set j (some (.ref a)) ∧ H6 = H1, rt := fun _ _ => False } S5 ⟨.ref a, by rw [List.getElem?_set_self hi1], rfl, rfl⟩) (fun f s6 q => ?_) (fun _ _ z => z.elim)
    cases f with
    | next =>
      obtain ⟨σ6, H6, S6, rfl, rfl⟩ := q
      have e6 : s6.heap.get? a = some oe := (S6.pin (a, oe) (List.mem_append_left _ List.mem_cons_self)).1
      refine gone_ok (track (S6.unsuite ok) e6 na nL (fun v z => by rw [dt4] at z; cases z) nP n0 (exh_ok e6 z4 dt4)) hN hi hln fun s7 J7 => ⟨_, _, J7, fin a na⟩
    | brk =>
      obtain ⟨_, _, _, q⟩ := q
      exact q.elim
    | cont =>
      obtain ⟨_, _, _, q⟩ := q
      exact q.elim
    | ret u =>
      obtain ⟨_, _, _, _, _, q⟩ := q
      exact q.elim
  · cases f with
    | next =>
      obtain ⟨σ1, H1, J, q⟩ := q
      exact wpAny_execs_nil ⟨σ1, H1, J.ofTry ok, q⟩
    | brk =>
      obtain ⟨σ1, H1, J, q⟩ := q
      exact ⟨σ1, H1, J.ofTry ok, q⟩
    | cont =>
      obtain ⟨σ1, H1, J, q⟩ := q
      exact ⟨σ1, H1, J.ofTry ok, q⟩
    | ret u =>
      obtain ⟨v, σ1, H1, J, r, q⟩ := q
      exact ⟨v, σ1, H1, J.ofTry ok, r, q⟩
end
/-! ### isinstance and a field of an exception that a name holds -/
/-- its dict, where it has one, stands in H -/
def DOk (H : Hp) (d : Option Addr) : Prop := d = none ∨ ∃ dd fs, d = some dd ∧ H dd = some (.xd fs)
section
variable {X : Cx} {pins : List (Addr × Obj)} {σ : L2.St} {H : Hp} {s : Shared}
theorem exh_inst {a C : Addr} {d : Option Addr} (I : Inv X pins σ H s) (e : H a = some (exh a (.ref C) d)) (k : DOk H d) : ∃ oe od, PySem.W.InstAt s.heap a oe C od := by
  obtain ⟨oe, vs, e1, z, dt⟩ := exh_at I.hok e
  rcases k with rfl | ⟨dd, fs, rfl, ed⟩
  · exact ⟨oe, none, e1, z.1, by unfold PySem.W.notCls; rw [dt] <;> rfl, by rw [z.2]; trivial⟩
  · obtain ⟨mA, hn, _⟩ := (show ObjOk X.prog X.w H s.heap dd (.xd fs) from I.hok dd _ ed)
    obtain ⟨od, ho, _⟩ := lookIn_ns hn
    exact ⟨oe, some od, e1, z.1, by unfold PySem.W.notCls; rw [dt] <;> rfl, by rw [z.2]; exact ho⟩
theorem exh_kit {a C : Addr} {d : Option Addr} (c : ExcC X.K C) (I : Inv X pins σ H s) (e : H a = some (exh a (.ref C) d)) (k : DOk H d) : ∃ P : Heap → Prop, PySem.W.KitX X.K (.ref a) (.ref C) P ∧ P s.heap := by
  obtain ⟨oe, od, j⟩ := exh_inst I e k
  obtain ⟨cd, hc, _⟩ := PySem.W.any_some c.hd
  exact ⟨_, PySem.W.kitx_exc (ox := oe) (od := od) (by rw [hc]; rfl) c.hg c.hk c.hs c.ha c.hn c.ht c.hm, j⟩
end
/-- isinstance(e, c) of an exception that a name holds -/
def rIsX (K : PySem.W.Frag) : List V → Hp → VK → Prop := fun xs H Q => ∃ (a C : Addr) (d : Option Addr) (c : V) (u : Value) (b : Bool), xs = [.ref a, c] ∧ H a = some (exh a (.ref C) d) ∧ DOk H d ∧ ExcC K C ∧ ClsV c u ∧ PySem.W.kitOne K (.ref C) u = some b ∧ Q (.bl b) H
/-- isinstance(e, (c1, c2, ..)) -/
def rIsXT (K : PySem.W.Frag) : List V → Hp → VK → Prop := fun xs H Q => ∃ (a C : Addr) (d : Option Addr) (tp : Addr) (cs : List V) (us : List Value) (b : Bool), xs = [.ref a, .ref tp] ∧ H tp = some (.tup cs) ∧ Paired ClsV cs us ∧ H a = some (exh a (.ref C) d) ∧ DOk H d ∧ ExcC K C ∧ PySem.W.kitAny K (.ref C) us = some b ∧ Q (.bl b) H
theorem call_isX {X : Cx} : CallR X (.builtin "isinstance") (rIsX X.K) := by
  intro pins s σ H xs us Q I r h
  obtain ⟨a, C, d, c, u, b, rfl, ea, k, ec, cv, e, q⟩ := h
  obtain ⟨u1, u2, rfl, r1, r2⟩ := vals2 r
  cases (show u1 = Value.ref a from r1)
  cases cv.eq r2
  obtain ⟨P, Z, p⟩ := exh_kit ec I ea k
  exact PySem.W.kia_one Z I.kIn p e (fun z => by cases z) fun tk => ⟨.bl b, H, I.tok tk, rfl, q⟩
theorem call_isXT {X : Cx} : CallR X (.builtin "isinstance") (rIsXT X.K) := by
  intro pins s σ H xs us Q I r h
  obtain ⟨a, C, d, tp, cs, ws, b, rfl, eT, k, ea, dk, ec, e, q⟩ := h
  obtain ⟨u1, u2, rfl, r1, r2⟩ := vals2 r
  cases (show u1 = Value.ref a from r1)
  cases (show u2 = Value.ref tp from r2)
  obtain ⟨P, Z, p⟩ := exh_kit ec I ea dk
  obtain ⟨_, its, rv, ⟨oc, od, dt, sl⟩, h1, h2, n, h3⟩ := (show ObjOk X.prog X.w H s.heap tp (.tup cs) from I.hok tp _ eT)
  cases ClsV.all k rv
  simp only at h2 h3
  subst h2 h3
  exact PySem.W.kia_tup Z I.kIn p h1 e (fun z => by cases z) fun tk => ⟨.bl b, H, I.tok tk, rfl, q⟩
/-- e.f of an exception that a name holds -/
def tXfH (K : PySem.W.Frag) (f : Str) (te : TE) : TE := fun σ H Q => te σ H fun x H1 => ∃ (a C dd : Addr) (fs : List (Str × V)) (v : V), x = .ref a ∧ H1 a = some (exh a (.ref C) (some dd)) ∧ H1 dd = some (.xd fs) ∧ XfC K C ∧ PySem.W.findIn K (.ref C) f = some none ∧ fs.lookup f = some v ∧ Q v H1
theorem pe_xfH {X : Cx} {e : Expr} {te : TE} {pos : Pos} {n : Str} (he : PE X e te) (hb : attributeBase e n X.env (eval e X.env) = eval e X.env := by rfl) : PE X (.Attribute e n pos) (tXfH X.K n te) := by
  refine ⟨fun pins s σ H Q I h => attr_of hb (thn (he.run pins s σ H _ I h) fun u s1 hh => ?_)⟩
  obtain ⟨x, H1, I1, rx, a, C, dd, fs, v, rfl, ea, ed, T, hno, l, q⟩ := hh
  cases (show u = Value.ref a from rx)
  obtain ⟨oe, vs, e1, z, dt⟩ := exh_at I1.hok ea
  obtain ⟨mA, hn, hr⟩ := (show ObjOk X.prog X.w H1 s1.heap dd (.xd fs) from I1.hok dd _ ed)
  obtain ⟨od, ho, hl⟩ := lookIn_ns hn
  obtain ⟨u, hu, ru⟩ := RelO.some_of (v := v) (o := mA n) (by rw [← l]; exact hr n)
  have j : PySem.W.InstAt s1.heap a oe C (some od) := ⟨e1, z.1, by unfold PySem.W.notCls; rw [dt] <;> rfl, by rw [z.2]; exact ho⟩
  exact HandSPX.exc_get I1.kIn j T.ga T.gg T.exC (PySem.W.findObj_own T.hdC hno rfl (by rw [hl, hu])) (handed_of ru) ⟨v, H1, I1.tok _, ru, q⟩
end Cm

set_option Elab.async false
set_option linter.all false
set_option maxRecDepth 100000
set_option maxHeartbeats 4000000
namespace Cm
open PySem PySem.Spec PyProof.Rows L2
/-! ### refusals: classes over ValueError that keep what they are made with -/
def oexB (K : PySem.W.Frag) (C : Addr) : Bool := match K.lookup C with
  | some o => (match o.cls, o.data, o.slots.toList with
    | .type t, .cls cd, [_, _, _, _, some (.builtin m), _] => (match cd.mro with
      | .ref D :: bm => decide (t = "type") && (decide (D = C) && (decide (m = "ValueError.__new__") && (cd.hasDict && (!cd.hasDel && PySem.HandSPX.refsVE bm))))
      | _ => false)
    | _, _, _ => false)
  | none => false
theorem oexB_ok {K : PySem.W.Frag} {C : Addr} (h : oexB K C = true) : ∃ nm q N bs bm sn sub ab col dd k0 k1 k2 k3 k5, K.lookup C = some (excClassObj nm q C N bs bm true sn sub ab col dd k0 k1 k2 k3 k5 "ValueError.__new__") ∧ PySem.HandSPX.refsVE bm = true := by
  unfold oexB at h
  cases e : K.lookup C with
  | none => rw [e] at h; cases h
  | some o =>
    rw [e] at h
    obtain ⟨oc, od, odt, ⟨sl⟩⟩ := o
    simp only at h
    split at h
    · rename_i t cd m0 m1 m2 m3 m m5
      split at h
      · rename_i D bm h4
        obtain ⟨g1, h⟩ := Bool.and_eq_true_iff.mp h
        obtain ⟨g2, h⟩ := Bool.and_eq_true_iff.mp h
        obtain ⟨g3, h⟩ := Bool.and_eq_true_iff.mp h
        obtain ⟨g4, h⟩ := Bool.and_eq_true_iff.mp h
        obtain ⟨g5, g6⟩ := Bool.and_eq_true_iff.mp h
        obtain ⟨c1, c2, c3, c4, c5, c6, c7, c8, c9, c10, c11⟩ := cd
        have g1 := of_decide_eq_true g1
        have g2 := of_decide_eq_true g2
        have g3 := of_decide_eq_true g3
        dsimp only at g4 g5 h4
        rw [Bool.not_eq_true'] at g5
        subst g1 g2 g3 g4 g5 h4
        exact ⟨_, _, _, _, _, _, _, _, _, _, _, _, _, _, _, rfl, g6⟩
      · cases h
    · cases h
/-- what is known of such a class x that keeps the fields fs -/
structure Rf (K : PySem.W.Frag) (mg : Str → Option Value) (x : Str) (fs : List Str) : Prop where
  glo : mg x = some (.ref (He.ga K x))
  oex : OexC K (He.ga K x)
  isx : ExcC K (He.ga K x)
  fld : XfC K (He.ga K x)
  ini : PySem.W.findIn K (.ref (He.ga K x)) "__init__" = some (some (.ref (He.ma K (He.ga K x) "__init__")))
  fun_ : PySem.W.typeIn K (.ref (He.ma K (He.ga K x) "__init__")) = some (.type "function")
  no : ∀ f ∈ fs, PySem.W.findIn K (.ref (He.ga K x)) f = some none
  top : PySem.W.exmOne K (.ref (He.ga K x)) (.ref (He.ga K "SherdError")) = some true
def isB (K : PySem.W.Frag) (C : Addr) : Bool := decide (PySem.W.findIn K (.ref C) "__getattribute__" = some (some (.builtin "BaseException.__getattribute__"))) && (decide (PySem.W.findIn K (.ref C) "__getattr__" = some none) && (decide (PySem.W.subIn K (.ref C) (.type "BaseException") = some true) && (PySem.W.hasDictIn K C &&
  (decide (PySem.W.findIn K (.ref C) "__class__" = some (some (.builtin "object.__class__"))) && (decide (PySem.W.specialIn K (.builtin "object.__class__") "__get__" = some (some (.builtin "getset_descriptor.__get__"))) && (decide (PySem.W.takesIn K (.builtin "object.__class__") = some true) && decide (PySem.W.mroIn K C (.type "object") = some true)))))))
theorem isB_ok {K : PySem.W.Frag} {C : Addr} (h : isB K C = true) : ExcC K C ∧ XfC K C := by
  unfold isB at h
  simp only [Bool.and_eq_true, decide_eq_true_eq] at h
  obtain ⟨h1, h2, h3, h4, h5, h6, h7, h8⟩ := h
  exact ⟨⟨h1, h2, h3, h4, h5, h6, h7, h8⟩, ⟨h1, h2, h3, h4⟩⟩
def rfB (K : PySem.W.Frag) (x : Str) (fs : List Str) : Bool := oexB K (He.ga K x) && (isB K (He.ga K x) && (decide (PySem.W.findIn K (.ref (He.ga K x)) "__setattr__" = some (some (.builtin "object.__setattr__"))) && (decide (PySem.W.typeIn K (.ref (He.ga K x)) = some (.type "type")) && (PySem.W.keepIn K (.ref (He.ga K x)) &&
  (decide (PySem.W.findIn K (.ref (He.ga K x)) "__init__" = some (some (.ref (He.ma K (He.ga K x) "__init__")))) && (decide (PySem.W.typeIn K (.ref (He.ma K (He.ga K x) "__init__")) = some (.type "function")) && ((fs.all fun f => decide (PySem.W.findIn K (.ref (He.ga K x)) f = some none)) &&
  decide (PySem.W.exmOne K (.ref (He.ga K x)) (.ref (He.ga K "SherdError")) = some true))))))))
theorem rfB_ok {K : PySem.W.Frag} {mg : Str → Option Value} {x : Str} {fs : List Str} (h : rfB K x fs = true) (g : mg x = some (.ref (He.ga K x))) : Rf K mg x fs := by
  unfold rfB at h
  simp only [Bool.and_eq_true, decide_eq_true_eq, List.all_eq_true] at h
  obtain ⟨h1, h2, h3, h4, h5, h6, h7, h8, h9⟩ := h
  obtain ⟨i1, i2⟩ := isB_ok h2
  exact ⟨g, ⟨oexB_ok h1, h3, i1.hs, h4, h5⟩, i1, i2, h6, h7, h8, h9⟩
/-- the i-th statement of a class's body -/
def inCls (st : Stmt) (i : Nat) : Stmt := match st with
  | .ClassDef _ _ _ b .. => b.getD i (.Pass ⟨0, 0, 0, 0⟩)
  | _ => .Pass ⟨0, 0, 0, 0⟩
/-- __init__(self, f1, ..): self.f1 = f1, .. -/
def spIni (C : Addr) (fs : List Str) : Sp := fun vs H Q _ => ∃ (a : Addr) (us : List V), vs = .ref a :: us ∧ us.length = fs.length ∧ H a = some (exo a C none) ∧
  ∀ d H', H d = none → d ≠ a → H' a = some (exo a C (some d)) → H' d = some (exd d (fs.zip us).reverse) → (∀ b, b ≠ a → b ≠ d → H' b = H b) → Q .non H'
theorem rf_use {H1 : Hp} {C : Addr} {fs : List Str} {vs : List V} {Q : XK} (hl : vs.length = fs.length) (hf : fs.length ≤ 900) (q : ∀ d, H1 d = none → Q (.ref C) (some d) (upd H1 d (.xd (fs.zip vs).reverse))) :
    vs.length ≤ 1000 ∧ ∀ a, H1 a = none → spIni C fs (.ref a :: (vs ++ [])) (upd H1 a (exo a C none))
      (fun v H2 => v = .non ∧ ∃ (d : Addr) (gs : List (Str × V)), H2 a = some (exo a C (some d)) ∧ H2 d = some (exd d gs) ∧ H1 d = none ∧ Q (.ref C) (some d) (upd (del H2 a) d (.xd gs))) (fun _ _ _ => False) := by
  refine ⟨by omega, fun a na => ⟨a, vs, by rw [List.append_nil], hl, upd_same, fun d H2 nd da ea ed rest => ⟨rfl, d, _, ea, ed, ?_, ?_⟩⟩⟩
  · rw [upd_ne da] at nd
    exact nd
  · rw [upd_ne da] at nd
    have e : upd (del H2 a) d (.xd (fs.zip vs).reverse) = upd H1 d (.xd (fs.zip vs).reverse) := by
      funext b
      by_cases hb : b = d
      · rw [hb, upd_same, upd_same]
      · rw [upd_ne hb, upd_ne hb]
        by_cases ha : b = a
        · rw [ha, del_same, na]
        · rw [del_ne ha, rest b ha hb, upd_ne ha]
    rw [e]
    exact q d nd
/-- such a class and its __init__ -/
structure Rd (P : Program) (w : World) (K : PySem.W.Frag) (mg : Str → Option Value) (base : Heap) (x : Str) (fs : List Str) : Prop where
  rf : Rf K mg x fs
  ok : ∃ fd ps, FnOk P w K mg base CX0 1 (He.ma K (He.ga K x) "__init__") fd ps (spIni (He.ga K x) fs) ∧ Binds K fd ps []
/-- its __init__, of one field -/
theorem ini1 {P : Program} {w : World} {K : PySem.W.Frag} {mg : Str → Option Value} {base : Heap} {x q f : Str} {st : Stmt} {fd : FuncData} (R : Rf K mg x [f]) (F : FunD K "__init__" q (defArgs st) (defBody st) (defScope st) [] [] (He.ma K (He.ga K x) "__init__") fd) (S : FnScope [("self" : Str), f] [("self" : Str), f] (defScope st)) (hb : Binds K fd [("self" : Str), f] [])
    (hs : ∀ X : Cx, X.N = [("self" : Str), f] → X.env.scope = defScope st → PSs X (defBody st) (tOst X.K f (tVar 0) (tVar 1))) : Rd P w K mg base x [f] := by
  refine ⟨R, fd, [("self" : Str), f], F.ok S (fun vs H Q E h => ?_) (fun cdv A outer s H vs Q E _ h => ?_), hb⟩
  · obtain ⟨a, us, rfl, hl, _⟩ := h
    rw [List.length_cons, hl]; rfl
  · obtain ⟨a, us, rfl, hl, ea, q⟩ := h
    obtain ⟨v, rfl⟩ : ∃ v, us = [v] := by
      cases us with
      | nil => simp at hl
      | cons v r => cases r with
        | nil => exact ⟨v, rfl⟩
        | cons _ _ => simp at hl
    refine ⟨_, hs _ rfl rfl, ?_⟩
    refine ⟨_, rfl, _, rfl, a, _, rfl, R.oex, R.no f (List.mem_singleton.mpr rfl), .inl ⟨ea, fun d nd da => q d _ nd da upd_same ?_ fun b b1 b2 => ?_⟩⟩
    · rw [upd_ne da]
      exact upd_same
    · rw [upd_ne b1, upd_ne b2]
section
variable {X : Cx} {x : Str} {fs : List Str} {e : Expr} {es : List Expr} {ta : TA} {p pos : Pos}
theorem pmk_rd (R : Rd X.prog X.w X.K X.mg X.base x fs) (hr : Room 2 X.A) (ha : PA X (e :: es) ta) (hg : Gl X x := by rfl) (hdb : (x == ("__debug__" : Str)) = false := by decide) (he : starEach (e :: es) X.env = (false, eval e X.env) :: starEach es X.env := by rfl)
    (hpl : (backTo pos (starEach es X.env)).any (·.1) = false := by rfl) : PMk X (.Call (.Name x p) (e :: es) [] pos) (tMkO (He.ga X.K x) (spIni (He.ga X.K x) fs) [] ta) := by
  obtain ⟨fd, ps, F, hb⟩ := R.ok
  exact pmk_oex R.rf.oex R.rf.ini R.rf.fun_ F hr hb .nil pass0 hg R.rf.glo ha hdb he hpl
end
/-! ### defs that may raise -/
section
variable {P : Program} {w : World} {K : PySem.W.Frag} {mg : Str → Option Value} {base : Heap}
theorem At.okX {x : Str} {st : Stmt} {N ps : List Str} {k : Nat} {sp : Sp} (F : At K mg x st ps) (S : FnScope N ps (defScope st)) (len : ∀ vs H Q E, sp vs H Q E → vs.length = ps.length)
    (hbody : ∀ (f : Addr) (cdv : Value) (A : Around) (outer : List Env) (s : Shared) (H : Hp) (vs : List V) (Q : VK) (E : XK), Room k (A.deeper (envOfC x (defScope st) s.heap.objs.size f cdv)) → sp vs H Q E →
      ∃ t, PSs (cxOf (L2.CX P w) P w K mg base N x (defScope st) f cdv A outer s H E) (defBody st) t ∧ t { nx := fun _ H' => Q .non H', rt := Q } (start N vs) H) : Dn P w K mg base (L2.CX P w) (k + 1) x ps sp := by
  obtain ⟨f, fd, F, hm, hb⟩ := F
  exact ⟨f, fd, F.ok S len fun cdv A outer s H vs Q E hr h => hbody f cdv A outer s H vs Q E hr h, hm, F.kp, hb, F.look⟩
end
section
variable {X : Cx} {W : WX} {k : Nat} {x : Str} {ps : List Str} {sp : Sp} {p pos : Pos} {e : Expr} {es : List Expr} {t : TA}
theorem pe_callX (D : Dn X.prog X.w X.K X.mg X.base (L2.CX X.prog X.w) k x ps sp) (hr : Room k X.A) (tk : Takes X W) (ha : PA X (e :: es) t) (hg : Gl X x := by rfl) (hdb : (x == ("__debug__" : Str)) = false := by decide)
    (he : starEach (e :: es) X.env = (false, eval e X.env) :: starEach es X.env := by rfl) (hpl : (backTo pos (starEach es X.env)).any (·.1) = false := by rfl) :
    PE X (.Call (.Name x p) (e :: es) [] pos) (tCallS sp (WE W) t) := by
  obtain ⟨f, fd, F, hm, hk, hb, _⟩ := D
  exact pe_callS F hr hg hm hk hb (fun σ => passAt tk σ) ha hdb he hpl
end
/-! ### which classes such a refusal is of -/
def isAll (K : PySem.W.Frag) (x : Str) (l : List (Str × Bool)) : Bool := decide (PySem.W.kitOne K (.ref (He.ga K x)) (.type "ValueError") = some true) && l.all fun p => decide (PySem.W.kitOne K (.ref (He.ga K x)) (.ref (He.ga K p.1)) = some p.2)
section
variable {K : PySem.W.Frag} {x : Str} {l : List (Str × Bool)}
theorem isAll_v (h : isAll K x l = true) : PySem.W.kitOne K (.ref (He.ga K x)) (.type "ValueError") = some true := of_decide_eq_true (Bool.and_eq_true_iff.mp h).1
theorem isAll_mem (h : isAll K x l = true) {y : Str} {b : Bool} (m : (y, b) ∈ l) : PySem.W.kitOne K (.ref (He.ga K x)) (.ref (He.ga K y)) = some b :=
  of_decide_eq_true (List.all_eq_true.mp (Bool.and_eq_true_iff.mp h).2 (y, b) m)
theorem isAll_at (h : isAll K x l = true) (i : Nat) {y : Str} {b : Bool} (e : l[i]? = some (y, b) := by rfl) : PySem.W.kitOne K (.ref (He.ga K x)) (.ref (He.ga K y)) = some b := isAll_mem h (List.mem_of_getElem? e)
theorem kitAny_no {t : Value} : ∀ {us : List Value}, (∀ u ∈ us, PySem.W.kitOne K t u = some false) → PySem.W.kitAny K t us = some false
  | [], _ => rfl
  | u :: us, h => by
    unfold PySem.W.kitAny
    rw [h u (List.mem_cons_self ..)]
    exact kitAny_no fun v hv => h v (List.mem_cons_of_mem _ hv)
theorem isAll_none (h : isAll K x l = true) (ys : List Str) (hy : (ys.all fun y => l.contains (y, false)) = true) : PySem.W.kitAny K (.ref (He.ga K x)) (ys.map fun y => Value.ref (He.ga K y)) = some false := by
  refine kitAny_no fun u hu => ?_
  obtain ⟨y, my, rfl⟩ := List.mem_map.mp hu
  have := List.all_eq_true.mp hy y my
  exact isAll_mem h (by simpa using this)
theorem clsAll : ∀ ys : List Str, Paired ClsV (ys.map fun y => V.ref (He.ga K y)) (ys.map fun y => Value.ref (He.ga K y))
  | [] => .nil
  | y :: ys => .cons (.own _) (clsAll ys)
end
theorem DOk.same {H H' : Hp} {d : Option Addr} (k : DOk H d) (s : Same H H') : DOk H' d := by
  rcases k with rfl | ⟨dd, fs, rfl, e⟩
  · exact .inl rfl
  · exact .inr ⟨dd, fs, rfl, s _ _ e⟩
end Cm

set_option Elab.async false
set_option linter.all false
set_option maxRecDepth 100000
set_option maxHeartbeats 4000000
namespace Cm
open PySem PySem.Spec PyProof.Rows L2
/-- try: body / except x as n: y = n; z = n.f -/
def wKeepF (K : PySem.W.Frag) (c : Value) (i j k : Nat) (f : Str) (D : Ends) : WX := fun cls d σ H => PySem.W.exmOne K cls c = some true ∧ ∃ (C dd : Addr) (fs : List (Str × V)) (v : V), cls = .ref C ∧ d = some dd ∧ H dd = some (.xd fs) ∧ XfC K C ∧ PySem.W.findIn K (.ref C) f = some none ∧ fs.lookup f = some v ∧
  ∀ a, H a = none → D.nx ((((σ.set i (some (.ref a))).set j (some (.ref a))).set k (some v)).set i none) (upd H a (exh a cls d))
section
variable {X : Cx} {x n y z fld : Str} {c : Value} {i j k : Nat} {body : List Stmt} {np np2 np3 fp yp zp p2 p3 pos pos' : Pos} {tb : WX → TS}
theorem ps_try_keepF (hs : X.stack = X.env :: X.outer) (hf : X.env.frame = some X.env.locals) (hx : X.ex = []) (hN : X.N.Nodup) (hi : X.N[i]? = some n) (hln : X.env.kindOf n = some .local) (hj : X.N[j]? = some y) (hly : X.env.scope.names.lookup y = some .local) (hk : X.N[k]? = some z) (hlz : X.env.scope.names.lookup z = some .local) (hij : i ≠ j) (hik : i ≠ k) (hjk : j ≠ k) (hdn : (n == ("__debug__" : Str)) = false) (hdc : (n == ("__classdict__" : Str)) = false) (hc : Names X x c)
    (hsw : swapsWith (.Name n np2) (some (.Name y yp)) p2.line X.env = pure false) (hsw2 : swapsWith (.Attribute (.Name n np3) fld fp) (some (.Name z zp)) p3.line X.env = pure false) (hab : ∀ X' : Cx, X'.env = X.env → attributeBase (.Name n np3) fld X'.env (eval (.Name n np3) X'.env) = eval (.Name n np3) X'.env)
    (hb : ∀ (W : WX) (pn : List (Addr × Obj)) (xe : Value → Shared → Prop), Takes (X.tr pn xe) W → PassesOwn (model X.prog X.w) X.A X.env xe → PSs (X.tr pn xe) body (tb W)) :
    PS X (.Try body [.ExceptHandler (some (.Name x np)) (some n) [.Assign [.Name y yp] (.Name n np2) p2, .Assign [.Name z zp] (.Attribute (.Name n np3) fld fp) p3] pos'] [] [] pos) (fun D σ H => tb (wKeepF X.K c i j k fld D) D σ H) := by
  refine ⟨fun pins s σ H D I h => ?_⟩
  have ok := I.ok
  refine wpAny_Try_except (wpAny_mono ((hb (wKeepF X.K c i j k fld D) (X.pn ++ pins) _ (fun u s1 air => ?_) PassesOwn.looking).run [] s σ H D (I.toTry _) h) (fun f s1 q => ?_) fun _ _ q => q)
  · obtain ⟨a, B, sI, pins1, σ1, H1, cls, d, rfl, K1, nb, up, sky, na, os, ag, em, C, dd, fs, v, rfl, rfl, ed, TT, hno, lk, fin⟩ := air
    have J : Inv X pins σ1 H1 sI := K1.ofTry ok
    have hA : X.A.frames = some (X.env :: X.outer) := by rw [ok.frames, hs]
    have inB : ∀ b o, sI.heap.get? b = some o → b ∉ frs (X.env :: X.outer) → B.get? b = some o := hs ▸ nb
    refine Sky.land Zc.steady hA hf (hs ▸ sky) fun h3 fl3 up3 => ?_
    have aB : B.get? a = none := fl3.2.1
    have J3 : Inv X pins σ1 H1 { s1 with heap := h3 } := J.landed nb fl3.1 (up.trans up3) os ag
    obtain ⟨oe3, vs3, e3, z3, dt3⟩ := fl3.there
    have notF : a ∉ frs (X.env :: X.outer) := fun hm => by
      obtain ⟨_, o, e, nf⟩ := fl3.2.2.1.mem hm
      rw [e3] at e
      cases e
      exact nf _ dt3
    have nL : a ≠ X.env.locals := fun z => notF (List.mem_filterMap.mpr ⟨X.env, List.mem_cons_self, by rw [hf, z]⟩)
    have nF : a ∉ X.fs := fun hm => by
      obtain ⟨ev, h1, h2⟩ := List.mem_filterMap.mp hm
      exact notF (List.mem_filterMap.mpr ⟨ev, List.mem_cons_of_mem _ h1, h2⟩)
    have frOf : ∀ b, b ≠ X.env.locals → b ∉ X.fs → b ∉ frs (X.env :: X.outer) := fun b h1 h2 hm => by
      obtain ⟨ev, h3, h4⟩ := List.mem_filterMap.mp hm
      rcases List.mem_cons.mp h3 with rfl | h3
      · rw [hf] at h4
        exact h1 (Option.some.inj h4).symm
      · exact h2 (List.mem_filterMap.mpr ⟨ev, h3, h4⟩)
    have nP : ∀ p ∈ X.pn ++ pins, p.1 ≠ a := fun p hp z => by
      obtain ⟨q1, _, q3, q4, _⟩ := J.pin p hp
      have := inB _ _ q1 (frOf _ q3 q4)
      rw [z, aB] at this
      cases this
    have n0 : X.s_0.heap.get? a = none := by
      cases e : X.s_0.heap.get? a with
      | none => rfl
      | some o =>
        obtain ⟨o', e'⟩ := J.base.there a o e (by rw [hx]; simp)
        have := inB _ _ e' notF
        rw [aB] at this
        cases this
    have S3 := J3.suite e3 dt3 na nL nF
    refine wpAny_handleBy_cons (codeAny_handlers_test ?_) (fun z => by cases z)
    have tyA : PySem.W.Looks (model X.prog X.w) h3 (typeOf (.ref a)) (.ref C) := fun _ _ _ _ k q => wpAny_typeOf_ref (k _ _ e3) (by rw [z3.1]; exact q)
    have ex := PySem.W.exm_one (M := model X.prog X.w) J3.kIn tyA em
    have named : ∀ {Q : Value → Shared → Prop} {E : Value → Shared → Prop}, Q c { s1 with heap := h3 } → wpAny (model X.prog X.w) (X.A.mark (some (.ref a))) (eval (.Name x np) X.env) Q E { s1 with heap := h3 } := fun {Q E} q => by
      obtain ⟨g1, g2, g3 | ⟨g3, g4, g5⟩⟩ := hc
      · exact ld_glob (X := X.suite a ((a, oe3) :: (X.pn ++ pins))) S3 g1 g3 q g2
      · exact ld_blt (X := X.suite a ((a, oe3) :: (X.pn ++ pins))) S3 g1 g3 g4 q g5 g2
    refine named (ex.here (codeAny_handlers_suite_as (HandSPX.lands_againZ fl3 fun h4 fl4 up4 => ?_)))
    have J4 : Inv X pins σ1 H1 { s1 with heap := h4 } := J.landed nb fl4.1 ((up.trans up3).trans up4) os ag
    obtain ⟨oe, vs, e4, z4, dt4⟩ := fl4.there
    refine store_ok (X := X.suite a ((a, oe) :: (X.pn ++ pins))) (v := .ref a) (J4.suite e4 dt4 na nL nF) hN hi (.inl hln) rfl (fun s5 S5 => ?_) (.inr hln)
    have hi1 : i < σ1.length := by rw [J.len]; exact (List.getElem?_eq_some_iff.mp hi).1
    have step : PSs (X.suite a ((a, oe) :: (X.pn ++ pins))) [.Assign [.Name y yp] (.Name n np2) p2, .Assign [.Name z zp] (.Attribute (.Name n np3) fld fp) p3] (tSeq (tAsg (tVar i) (gName j)) (tAsg (tXf a (.ref C) (some dd) C fld (tVar i)) (gName k))) :=
      pss_cons (ps_set (i := j) hN hj (.inl hly) (pe_var hi (.inl hln) hdn hdc) hsw (.inr hly)) (pss_one (ps_set (i := k) hN hk (.inl hlz) (pe_xf TT hno z4 ⟨vs, dt4⟩ (pe_var hi (.inl hln) hdn hdc) (hab _ rfl)) hsw2 (.inr hlz)))
    refine wpAny_mono (step.run [] s5 (σ1.set i (some (.ref a))) H1 { nx := fun σ6 H6 => σ6 = ((σ1.set i (some (.ref a))).set j (some (.ref a))).set k (some v) ∧ H6 = H1, rt := fun _ _ => False } S5 ⟨.ref a, by rw [List.getElem?_set_self hi1], .ref a, by rw [List.getElem?_set_ne (Ne.symm hij), List.getElem?_set_self hi1], rfl, rfl, dd, fs, v, rfl, ed, lk, rfl, rfl⟩) (fun f s6 q => ?_) (fun _ _ z => z.elim)
    cases f with
    | next =>
      obtain ⟨σ6, H6, S6, rfl, rfl⟩ := q
      have e6 : s6.heap.get? a = some oe := (S6.pin (a, oe) (List.mem_append_left _ List.mem_cons_self)).1
      refine gone_ok (track (S6.unsuite ok) e6 na nL (fun v z => by rw [dt4] at z; cases z) nP n0 (exh_ok e6 z4 dt4)) hN hi hln fun s7 J7 => ⟨_, _, J7, fin a na⟩
    | brk =>
      obtain ⟨_, _, _, q⟩ := q
      exact q.elim
    | cont =>
      obtain ⟨_, _, _, q⟩ := q
      exact q.elim
    | ret u =>
      obtain ⟨_, _, _, _, _, q⟩ := q
      exact q.elim
  · cases f with
    | next =>
      obtain ⟨σ1, H1, J, q⟩ := q
      exact wpAny_execs_nil ⟨σ1, H1, J.ofTry ok, q⟩
    | brk =>
      obtain ⟨σ1, H1, J, q⟩ := q
      exact ⟨σ1, H1, J.ofTry ok, q⟩
    | cont =>
      obtain ⟨σ1, H1, J, q⟩ := q
      exact ⟨σ1, H1, J.ofTry ok, q⟩
    | ret u =>
      obtain ⟨v, σ1, H1, J, r, q⟩ := q
      exact ⟨v, σ1, H1, J.ofTry ok, r, q⟩
end

/-! ### defs with one keyword-only parameter, that may raise -/
section
variable {P : Program} {w : World} {K : PySem.W.Frag} {mg : Str → Option Value} {base : Heap}
theorem AtK.okX {x kw : Str} {dv : V} {st : Stmt} {N ps : List Str} {k : Nat} {sp : Sp} (F : AtK K mg x st ps kw dv) (S : FnScope N (ps ++ [kw]) (defScope st)) (len : ∀ vs H Q E, sp vs H Q E → vs.length = (ps ++ [kw]).length)
    (hbody : ∀ (f : Addr) (cdv : Value) (A : Around) (outer : List Env) (s : Shared) (H : Hp) (vs : List V) (Q : VK) (E : XK), Room k (A.deeper (envOfC x (defScope st) s.heap.objs.size f cdv)) → sp vs H Q E →
      ∃ t, PSs (cxOf (L2.CX P w) P w K mg base N x (defScope st) f cdv A outer s H E) (defBody st) t ∧ t { nx := fun _ H' => Q .non H', rt := Q } (start N vs) H) : DnK P w K mg base (L2.CX P w) (k + 1) x ps kw dv sp := by
  obtain ⟨f, fd, F, hm, hb, hd⟩ := F
  exact ⟨f, fd, F.ok S len fun cdv A outer s H vs Q E hr h => hbody f cdv A outer s H vs Q E hr h, hm, F.kp, hb, hd, F.look⟩
end
section
variable {X : Cx} {W : WX} {CX : CXT} {k n : Nat} {f : Addr} {fd : FuncData} {ks : List Str} {g : List Value → List Value → List Value} {gV : List V → List V → List V} {x kw : Str} {dv : V} {ps : List Str} {sp : Sp} {E : L2.St → XK} {p pos kp : Pos} {e ek : Expr} {es : List Expr} {t : TA} {tk : TE}
theorem run_fnNS {pins : List (Addr × Obj)} {σ : L2.St} {H : Hp} {s : Shared} {Q : VK} {us ws : List Value} {vs zs : List V} (F : FnOk X.prog X.w X.K X.mg X.base CX k f fd ps sp) (hr : Room k X.A) (hb : KBn X.K fd ps n ks g gV) (hx : PassesAt CX X σ (E σ))
    (I : Inv X pins σ H s) (r : Vals vs us) (rz : Vals zs ws) (l1 : vs.length = n) (l2 : zs.length = ks.length) (h : sp (gV vs zs) H Q (E σ)) : wpAny (model X.prog X.w) X.A (call (.ref f) us (ks.zip ws)) (EP X pins σ Q) X.xe s := by
  have r2 := hb.rel r rz
  refine wpAny_call (codeAny_mono (F.run X.A X.stack s H ⟨us, ks.zip ws⟩ (g us ws) (gV vs zs) Q (E σ) hr I.env0 (hb.to s us ws I.kIn (r.length.symm.trans l1) (rz.length.symm.trans l2)) r2 h) fun r s' hq => ?_)
  cases r with
  | error e => exact hx pins H s e s' I hq
  | ok fl =>
    cases fl with
    | ret u => exact I.after hq
    | next => exact False.elim hq
    | brk => exact False.elim hq
    | cont => exact False.elim hq
/-- f(e, .., kw=ek), where f may raise -/
def tCallWX (n : Nat) (sp : Sp) (W : WX) (t : TA) (tk : TE) : TE := fun σ H Q => t σ H fun vs H1 => tk σ H1 fun z H2 => vs.length = n ∧ [z].length = 1 ∧ sp (vs ++ [z]) H2 Q (WE W σ)
theorem pe_callWX (D : DnK X.prog X.w X.K X.mg X.base (L2.CX X.prog X.w) k x ps kw dv sp) (hr : Room k X.A) (tk0 : Takes X W) (ha : PA X (e :: es) t) (hk : PE X ek tk) (hg : Gl X x := by rfl)
    (hall : (backToKw pos (keywordEach [⟨some kw, ek, kp⟩] X.env)).all (·.1.isSome) = true := by rfl) (hks : (backToKw pos (keywordEach [⟨some kw, ek, kp⟩] X.env)).filterMap (·.1) = [kw] := by rfl)
    (hdb : (x == ("__debug__" : Str)) = false := by decide) (he : starEach (e :: es) X.env = (false, eval e X.env) :: starEach es X.env := by rfl)
    (hpl : ((backTo pos (starEach (e :: es) X.env)).any (·.1) || (backToKw pos (keywordEach [⟨some kw, ek, kp⟩] X.env)).any (·.1.isNone)) = false := by rfl) :
    PE X (.Call (.Name x p) (e :: es) [⟨some kw, ek, kp⟩] pos) (tCallWX ps.length sp W t tk) := by
  obtain ⟨f, fd, F, hm, hkp, hb, _⟩ := D
  refine ⟨fun pins s σ H Q I h => ?_⟩
  refine wpAny_Call_Name_kw (ld_glob I hg hm ?_ hdb)
  refine PySem.W.callWith_KW (h₀ := X.base) I.ok.mod.kin hkp hall (thn (ha.run pos pins s σ H _ I h) fun us s1 ⟨vs, H1, I1, r, q⟩ => ?_) hpl he
  refine thn ((pk_cons (nm := some kw) (kpos := kp) hk pk_nil).run pos pins s1 σ H1 (fun zs H2 => vs.length = ps.length ∧ zs.length = 1 ∧ sp (vs ++ zs) H2 Q (WE W σ)) I1 ?_) fun ws s2 ⟨zs, H2, I2, rz, l1, l2, q2⟩ => ⟨I2.kIn, ?_⟩
  · exact q
  rw [hks]
  exact run_fnNS (E := WE W) F hr hb (passAt tk0 σ) I2 r rz l1 l2 q2
theorem pe_callWX0 (D : DnK X.prog X.w X.K X.mg X.base (L2.CX X.prog X.w) k x [] kw dv sp) (hr : Room k X.A) (tk0 : Takes X W) (hk : PE X ek tk) (hg : Gl X x := by rfl)
    (hall : (backToKw pos (keywordEach [⟨some kw, ek, kp⟩] X.env)).all (·.1.isSome) = true := by rfl) (hks : (backToKw pos (keywordEach [⟨some kw, ek, kp⟩] X.env)).filterMap (·.1) = [kw] := by rfl)
    (hdb : (x == ("__debug__" : Str)) = false := by decide)
    (hpl : ((backTo pos (starEach [] X.env)).any (·.1) || (backToKw pos (keywordEach [⟨some kw, ek, kp⟩] X.env)).any (·.1.isNone)) = false := by rfl) :
    PE X (.Call (.Name x p) [] [⟨some kw, ek, kp⟩] pos) (fun σ H Q => tk σ H fun z H2 => [z].length = 1 ∧ sp [z] H2 Q (WE W σ)) := by
  obtain ⟨f, fd, F, hm, hkp, hb, _⟩ := D
  refine ⟨fun pins s σ H Q I h => ?_⟩
  refine wpAny_Call_Name_kw (ld_glob I hg hm ?_ hdb)
  refine PySem.W.callWith_KW0 (h₀ := X.base) I.ok.mod.kin hkp hall ?_ hpl
  refine thn ((pk_cons (nm := some kw) (kpos := kp) hk pk_nil).run pos pins s σ H (fun zs H2 => zs.length = 1 ∧ sp zs H2 Q (WE W σ)) I ?_) fun ws s2 ⟨zs, H2, I2, rz, l2, q2⟩ => ⟨I2.kIn, ?_⟩
  · exact h
  rw [hks]
  exact run_fnNS (us := []) (vs := []) (E := WE W) F hr hb (passAt tk0 σ) I2 .nil rz rfl l2 q2
end
def exmB (K : PySem.W.Frag) (x y : Str) : Bool := decide (PySem.W.exmOne K (.ref (He.ga K x)) (.ref (He.ga K y)) = some true)
theorem exmB_ok {K : PySem.W.Frag} {x y : Str} (h : exmB K x y = true) : PySem.W.exmOne K (.ref (He.ga K x)) (.ref (He.ga K y)) = some true := of_decide_eq_true h
/-! ### sorted lists -/
theorem sorted_uniq : ∀ {xs ys : List Int}, xs.Perm ys → xs.Pairwise (· ≤ ·) → ys.Pairwise (· ≤ ·) → xs = ys
  | [], ys, h, _, _ => (List.Perm.nil_eq h)
  | x :: xs, [], h, _, _ => absurd (List.Perm.eq_nil h) (by simp)
  | x :: xs, y :: ys, h, hx, hy => by
    have hx' := List.pairwise_cons.mp hx
    have hy' := List.pairwise_cons.mp hy
    have e : x = y := by
      have h1 : x ∈ y :: ys := h.mem_iff.mp (List.mem_cons_self ..)
      have h2 : y ∈ x :: xs := h.mem_iff.mpr (List.mem_cons_self ..)
      rcases List.mem_cons.mp h1 with e | h1
      · exact e
      · rcases List.mem_cons.mp h2 with e | h2
        · exact e.symm
        · have a := hy'.1 _ h1
          have b := hx'.1 _ h2
          omega
    subst e
    rw [sorted_uniq (List.Perm.cons_inv h) hx'.2 hy'.2]
/-! ### tuples made of parts -/
section
variable {X : Cx}
def rCatTF (K : PySem.W.Frag) : R2 := fun x y H Q => ∃ a b xs ys, x = .ref a ∧ y = .ref b ∧ SqT K H a xs ∧ SqT K H b ys ∧ xs ≠ [] ∧ ys ≠ [] ∧ xs.length + ys.length ≤ sizeLine ∧ ∀ p H', H p = none → Same H H' → H' p = some (.tup (xs ++ ys)) → Q (.ref p) H'
theorem op_catTF : OpR X (binaryOp .Add) (rCatTF X.K) := op_catA.imp fun x y H Q h => by
  obtain ⟨a, b, xs, ys, rfl, rfl, ha, hb, nx, ny, hl, q⟩ := h
  exact ⟨a, b, xs, ys, rfl, rfl, ha, hb, hl, fun e => absurd e nx, fun _ e => absurd e ny, fun _ _ p np => q p _ np (Same.new np) upd_same⟩
def rSlTF (K : PySem.W.Frag) : V → Option Int → Option Int → Hp → VK → Prop := fun x lo hi H Q => ∃ a xs, x = .ref a ∧ SqT K H a xs ∧ ¬ (HT.sIx xs.length 0 lo = 0 ∧ HT.sIx xs.length xs.length hi = xs.length) ∧ ∀ p H', H p = none → Same H H' → H' p = some (.tup (cutV xs lo hi)) → Q (.ref p) H'
theorem sl_tupTF : SlR X (rSlTF X.K) := by
  intro pins s σ H x v vl vu lo hi sl Q I rx hs pl pu h
  obtain ⟨a, xs, rfl, ha, nw, q⟩ := h
  exact sl_tupA pins s σ H (.ref a) v vl vu lo hi sl Q I rx hs pl pu ⟨a, xs, rfl, ha, fun e => absurd e nw, fun _ p np => q p _ np (Same.new np) upd_same⟩
end
end Cm

set_option Elab.async false
set_option linter.all false
set_option maxRecDepth 100000
set_option maxHeartbeats 4000000
namespace Cm
open PySem PySem.Spec PyProof.Rows L2
/-- try: body / except x1 as n: y = n; z = n.f1 / except x2 as n: y = n; z = n.f2 -/
def wKeepF2 (K : PySem.W.Frag) (c1 c2 : Value) (i j k : Nat) (f1 f2 : Str) (D : Ends) : WX := fun cls d σ H => ∃ b : Bool, PySem.W.exmOne K cls c1 = some b ∧ (b = false → PySem.W.exmOne K cls c2 = some true) ∧ ∃ (C dd : Addr) (fs : List (Str × V)) (v : V), cls = .ref C ∧ d = some dd ∧ H dd = some (.xd fs) ∧ XfC K C ∧ PySem.W.findIn K (.ref C) (if b then f1 else f2) = some none ∧ fs.lookup (if b then f1 else f2) = some v ∧
  ∀ a, H a = none → D.nx ((((σ.set i (some (.ref a))).set j (some (.ref a))).set k (some v)).set i none) (upd H a (exh a cls d))
section
variable {X : Cx} {x1 x2 n y z fld1 fld2 : Str} {c1 c2 : Value} {i j k : Nat} {body : List Stmt} {np1 npb np21 np22 np31 np32 fp1 fp2 yp1 yp2 zp1 zp2 p21 p22 p31 p32 pos pos' pos2 : Pos} {tb : WX → TS}
theorem ps_try_keepF2 (hs : X.stack = X.env :: X.outer) (hf : X.env.frame = some X.env.locals) (hx : X.ex = []) (hN : X.N.Nodup) (hi : X.N[i]? = some n) (hln : X.env.kindOf n = some .local) (hj : X.N[j]? = some y) (hly : X.env.scope.names.lookup y = some .local) (hk : X.N[k]? = some z) (hlz : X.env.scope.names.lookup z = some .local) (hij : i ≠ j) (hik : i ≠ k) (hjk : j ≠ k) (hdn : (n == ("__debug__" : Str)) = false) (hdc : (n == ("__classdict__" : Str)) = false) (hc1 : Names X x1 c1) (hc2 : Names X x2 c2)
    (hsw1 : swapsWith (.Name n np21) (some (.Name y yp1)) p21.line X.env = pure false) (hsw21 : swapsWith (.Attribute (.Name n np31) fld1 fp1) (some (.Name z zp1)) p31.line X.env = pure false) (hab1 : ∀ X' : Cx, X'.env = X.env → attributeBase (.Name n np31) fld1 X'.env (eval (.Name n np31) X'.env) = eval (.Name n np31) X'.env)
    (hsw2 : swapsWith (.Name n np22) (some (.Name y yp2)) p22.line X.env = pure false) (hsw22 : swapsWith (.Attribute (.Name n np32) fld2 fp2) (some (.Name z zp2)) p32.line X.env = pure false) (hab2 : ∀ X' : Cx, X'.env = X.env → attributeBase (.Name n np32) fld2 X'.env (eval (.Name n np32) X'.env) = eval (.Name n np32) X'.env)
    (hb : ∀ (W : WX) (pn : List (Addr × Obj)) (xe : Value → Shared → Prop), Takes (X.tr pn xe) W → PassesOwn (model X.prog X.w) X.A X.env xe → PSs (X.tr pn xe) body (tb W)) :
    PS X (.Try body [.ExceptHandler (some (.Name x1 np1)) (some n) [.Assign [.Name y yp1] (.Name n np21) p21, .Assign [.Name z zp1] (.Attribute (.Name n np31) fld1 fp1) p31] pos', .ExceptHandler (some (.Name x2 npb)) (some n) [.Assign [.Name y yp2] (.Name n np22) p22, .Assign [.Name z zp2] (.Attribute (.Name n np32) fld2 fp2) p32] pos2] [] [] pos) (fun D σ H => tb (wKeepF2 X.K c1 c2 i j k fld1 fld2 D) D σ H) := by
  refine ⟨fun pins s σ H D I h => ?_⟩
  have ok := I.ok
  refine wpAny_Try_except (wpAny_mono ((hb (wKeepF2 X.K c1 c2 i j k fld1 fld2 D) (X.pn ++ pins) _ (fun u s1 air => ?_) PassesOwn.looking).run [] s σ H D (I.toTry _) h) (fun f s1 q => ?_) fun _ _ q => q)
  · obtain ⟨a, B, sI, pins1, σ1, H1, cls, d, rfl, K1, nb, up, sky, na, os, ag, bb, em1, em2, C, dd, fs, v, rfl, rfl, ed, TT, hno, lk, fin⟩ := air
    have J : Inv X pins σ1 H1 sI := K1.ofTry ok
    have hA : X.A.frames = some (X.env :: X.outer) := by rw [ok.frames, hs]
    have inB : ∀ b o, sI.heap.get? b = some o → b ∉ frs (X.env :: X.outer) → B.get? b = some o := hs ▸ nb
    refine Sky.land Zc.steady hA hf (hs ▸ sky) fun h3 fl3 up3 => ?_
    have aB : B.get? a = none := fl3.2.1
    have J3 : Inv X pins σ1 H1 { s1 with heap := h3 } := J.landed nb fl3.1 (up.trans up3) os ag
    obtain ⟨oe3, vs3, e3, z3, dt3⟩ := fl3.there
    have notF : a ∉ frs (X.env :: X.outer) := fun hm => by
      obtain ⟨_, o, e, nf⟩ := fl3.2.2.1.mem hm
      rw [e3] at e
      cases e
      exact nf _ dt3
    have nL : a ≠ X.env.locals := fun z => notF (List.mem_filterMap.mpr ⟨X.env, List.mem_cons_self, by rw [hf, z]⟩)
    have nF : a ∉ X.fs := fun hm => by
      obtain ⟨ev, h1, h2⟩ := List.mem_filterMap.mp hm
      exact notF (List.mem_filterMap.mpr ⟨ev, List.mem_cons_of_mem _ h1, h2⟩)
    have frOf : ∀ b, b ≠ X.env.locals → b ∉ X.fs → b ∉ frs (X.env :: X.outer) := fun b h1 h2 hm => by
      obtain ⟨ev, h3, h4⟩ := List.mem_filterMap.mp hm
      rcases List.mem_cons.mp h3 with rfl | h3
      · rw [hf] at h4
        exact h1 (Option.some.inj h4).symm
      · exact h2 (List.mem_filterMap.mpr ⟨ev, h3, h4⟩)
    have nP : ∀ p ∈ X.pn ++ pins, p.1 ≠ a := fun p hp z => by
      obtain ⟨q1, _, q3, q4, _⟩ := J.pin p hp
      have := inB _ _ q1 (frOf _ q3 q4)
      rw [z, aB] at this
      cases this
    have n0 : X.s_0.heap.get? a = none := by
      cases e : X.s_0.heap.get? a with
      | none => rfl
      | some o =>
        obtain ⟨o', e'⟩ := J.base.there a o e (by rw [hx]; simp)
        have := inB _ _ e' notF
        rw [aB] at this
        cases this
    have S3 := J3.suite e3 dt3 na nL nF
    have tyA : PySem.W.Looks (model X.prog X.w) h3 (typeOf (.ref a)) (.ref C) := fun _ _ _ _ k q => wpAny_typeOf_ref (k _ _ e3) (by rw [z3.1]; exact q)
    have ex1 := PySem.W.exm_one (M := model X.prog X.w) J3.kIn tyA em1
    have named1 : ∀ {Q : Value → Shared → Prop} {E : Value → Shared → Prop}, Q c1 { s1 with heap := h3 } → wpAny (model X.prog X.w) (X.A.mark (some (.ref a))) (eval (.Name x1 np1) X.env) Q E { s1 with heap := h3 } := fun {Q E} q => by
      obtain ⟨g1, g2, g3 | ⟨g3, g4, g5⟩⟩ := hc1
      · exact ld_glob (X := X.suite a ((a, oe3) :: (X.pn ++ pins))) S3 g1 g3 q g2
      · exact ld_blt (X := X.suite a ((a, oe3) :: (X.pn ++ pins))) S3 g1 g3 g4 q g5 g2
    have named2 : ∀ {Q : Value → Shared → Prop} {E : Value → Shared → Prop}, Q c2 { s1 with heap := h3 } → wpAny (model X.prog X.w) (X.A.mark (some (.ref a))) (eval (.Name x2 npb) X.env) Q E { s1 with heap := h3 } := fun {Q E} q => by
      obtain ⟨g1, g2, g3 | ⟨g3, g4, g5⟩⟩ := hc2
      · exact ld_glob (X := X.suite a ((a, oe3) :: (X.pn ++ pins))) S3 g1 g3 q g2
      · exact ld_blt (X := X.suite a ((a, oe3) :: (X.pn ++ pins))) S3 g1 g3 g4 q g5 g2
    refine wpAny_handleBy_cons (codeAny_handlers_test ?_) (fun z => by cases z)
    cases bb with
    | true =>
      refine named1 (ex1.here (codeAny_handlers_suite_as (HandSPX.lands_againZ fl3 fun h4 fl4 up4 => ?_)))
      have J4 : Inv X pins σ1 H1 { s1 with heap := h4 } := J.landed nb fl4.1 ((up.trans up3).trans up4) os ag
      obtain ⟨oe, vs, e4, z4, dt4⟩ := fl4.there
      refine store_ok (X := X.suite a ((a, oe) :: (X.pn ++ pins))) (v := .ref a) (J4.suite e4 dt4 na nL nF) hN hi (.inl hln) rfl (fun s5 S5 => ?_) (.inr hln)
      have hi1 : i < σ1.length := by rw [J.len]; exact (List.getElem?_eq_some_iff.mp hi).1
      have step : PSs (X.suite a ((a, oe) :: (X.pn ++ pins))) [.Assign [.Name y yp1] (.Name n np21) p21, .Assign [.Name z zp1] (.Attribute (.Name n np31) fld1 fp1) p31] (tSeq (tAsg (tVar i) (gName j)) (tAsg (tXf a (.ref C) (some dd) C fld1 (tVar i)) (gName k))) :=
        pss_cons (ps_set (i := j) hN hj (.inl hly) (pe_var hi (.inl hln) hdn hdc) hsw1 (.inr hly)) (pss_one (ps_set (i := k) hN hk (.inl hlz) (pe_xf TT hno z4 ⟨vs, dt4⟩ (pe_var hi (.inl hln) hdn hdc) (hab1 _ rfl)) hsw21 (.inr hlz)))
      refine wpAny_mono (step.run [] s5 (σ1.set i (some (.ref a))) H1 { nx := fun σ6 H6 => σ6 = ((σ1.set i (some (.ref a))).set j (some (.ref a))).set k (some v) ∧ H6 = H1, rt := fun _ _ => False } S5 ⟨.ref a, by rw [List.getElem?_set_self hi1], .ref a, by rw [List.getElem?_set_ne (Ne.symm hij), List.getElem?_set_self hi1], rfl, rfl, dd, fs, v, rfl, ed, lk, rfl, rfl⟩) (fun f s6 q => ?_) (fun _ _ z => z.elim)
      cases f with
      | next =>
        obtain ⟨σ6, H6, S6, rfl, rfl⟩ := q
        have e6 : s6.heap.get? a = some oe := (S6.pin (a, oe) (List.mem_append_left _ List.mem_cons_self)).1
        refine gone_ok (track (S6.unsuite ok) e6 na nL (fun v z => by rw [dt4] at z; cases z) nP n0 (exh_ok e6 z4 dt4)) hN hi hln fun s7 J7 => ⟨_, _, J7, fin a na⟩
      | brk =>
        obtain ⟨_, _, _, q⟩ := q
        exact q.elim
      | cont =>
        obtain ⟨_, _, _, q⟩ := q
        exact q.elim
      | ret u =>
        obtain ⟨_, _, _, _, _, q⟩ := q
        exact q.elim
    | false =>
      have ex2 := PySem.W.exm_one (M := model X.prog X.w) J3.kIn tyA (em2 rfl)
      refine named1 (ex1.here ?_)
      show wpAny _ X.A (handleBy (.ref a) X.env [_]) _ _ _
      refine wpAny_handleBy_cons (codeAny_handlers_test ?_) (fun z => by cases z)
      refine named2 (ex2.here (codeAny_handlers_suite_as (HandSPX.lands_againZ fl3 fun h4 fl4 up4 => ?_)))
      have J4 : Inv X pins σ1 H1 { s1 with heap := h4 } := J.landed nb fl4.1 ((up.trans up3).trans up4) os ag
      obtain ⟨oe, vs, e4, z4, dt4⟩ := fl4.there
      refine store_ok (X := X.suite a ((a, oe) :: (X.pn ++ pins))) (v := .ref a) (J4.suite e4 dt4 na nL nF) hN hi (.inl hln) rfl (fun s5 S5 => ?_) (.inr hln)
      have hi1 : i < σ1.length := by rw [J.len]; exact (List.getElem?_eq_some_iff.mp hi).1
      have step : PSs (X.suite a ((a, oe) :: (X.pn ++ pins))) [.Assign [.Name y yp2] (.Name n np22) p22, .Assign [.Name z zp2] (.Attribute (.Name n np32) fld2 fp2) p32] (tSeq (tAsg (tVar i) (gName j)) (tAsg (tXf a (.ref C) (some dd) C fld2 (tVar i)) (gName k))) :=
        pss_cons (ps_set (i := j) hN hj (.inl hly) (pe_var hi (.inl hln) hdn hdc) hsw2 (.inr hly)) (pss_one (ps_set (i := k) hN hk (.inl hlz) (pe_xf TT hno z4 ⟨vs, dt4⟩ (pe_var hi (.inl hln) hdn hdc) (hab2 _ rfl)) hsw22 (.inr hlz)))
      refine wpAny_mono (step.run [] s5 (σ1.set i (some (.ref a))) H1 { nx := fun σ6 H6 => σ6 = ((σ1.set i (some (.ref a))).set j (some (.ref a))).set k (some v) ∧ H6 = H1, rt := fun _ _ => False } S5 ⟨.ref a, by rw [List.getElem?_set_self hi1], .ref a, by rw [List.getElem?_set_ne (Ne.symm hij), List.getElem?_set_self hi1], rfl, rfl, dd, fs, v, rfl, ed, lk, rfl, rfl⟩) (fun f s6 q => ?_) (fun _ _ z => z.elim)
      cases f with
      | next =>
        obtain ⟨σ6, H6, S6, rfl, rfl⟩ := q
        have e6 : s6.heap.get? a = some oe := (S6.pin (a, oe) (List.mem_append_left _ List.mem_cons_self)).1
        refine gone_ok (track (S6.unsuite ok) e6 na nL (fun v z => by rw [dt4] at z; cases z) nP n0 (exh_ok e6 z4 dt4)) hN hi hln fun s7 J7 => ⟨_, _, J7, fin a na⟩
      | brk =>
        obtain ⟨_, _, _, q⟩ := q
        exact q.elim
      | cont =>
        obtain ⟨_, _, _, q⟩ := q
        exact q.elim
      | ret u =>
        obtain ⟨_, _, _, _, _, q⟩ := q
        exact q.elim
  · cases f with
    | next =>
      obtain ⟨σ1, H1, J, q⟩ := q
      exact wpAny_execs_nil ⟨σ1, H1, J.ofTry ok, q⟩
    | brk =>
      obtain ⟨σ1, H1, J, q⟩ := q
      exact ⟨σ1, H1, J.ofTry ok, q⟩
    | cont =>
      obtain ⟨σ1, H1, J, q⟩ := q
      exact ⟨σ1, H1, J.ofTry ok, q⟩
    | ret u =>
      obtain ⟨v, σ1, H1, J, r, q⟩ := q
      exact ⟨v, σ1, H1, J.ofTry ok, r, q⟩
end

/-! ### the head's facts: not caught by; None is of none of these classes -/
def exmN (K : PySem.W.Frag) (x y : Str) : Bool := decide (PySem.W.exmOne K (.ref (He.ga K x)) (.ref (He.ga K y)) = some false)
theorem exmN_ok {K : PySem.W.Frag} {x y : Str} (h : exmN K x y = true) : PySem.W.exmOne K (.ref (He.ga K x)) (.ref (He.ga K y)) = some false := of_decide_eq_true h
def nonB (K : PySem.W.Frag) (l : List Str) : Bool := decide (PySem.W.kitOne K (.type "NoneType") (.type "ValueError") = some false) && l.all fun y => decide (PySem.W.kitOne K (.type "NoneType") (.ref (He.ga K y)) = some false)
section
variable {K : PySem.W.Frag} {l : List Str}
theorem nonB_v (h : nonB K l = true) : PySem.W.kitOne K (.type "NoneType") (.type "ValueError") = some false := of_decide_eq_true (Bool.and_eq_true_iff.mp h).1
theorem nonB_mem (h : nonB K l = true) {y : Str} (m : y ∈ l) : PySem.W.kitOne K (.type "NoneType") (.ref (He.ga K y)) = some false := of_decide_eq_true (List.all_eq_true.mp (Bool.and_eq_true_iff.mp h).2 _ m)
theorem nonB_at (h : nonB K l = true) (y : Str) (m : l.contains y = true := by decide) : PySem.W.kitOne K (.type "NoneType") (.ref (He.ga K y)) = some false := nonB_mem h (List.contains_iff_mem.mp m)
theorem nonB_none (h : nonB K l = true) (ys : List Str) (hy : (ys.all fun y => l.contains y) = true) : PySem.W.kitAny K (.type "NoneType") (ys.map fun y => Value.ref (He.ga K y)) = some false := by
  refine kitAny_no fun u hu => ?_
  obtain ⟨y, m, rfl⟩ := List.mem_map.mp hu
  exact nonB_mem h (List.contains_iff_mem.mp (List.all_eq_true.mp hy y m))
end
end Cm

set_option Elab.async false
set_option linter.all false
set_option maxRecDepth 100000
set_option maxHeartbeats 1000000
set_option autoImplicit false
namespace Tr
open PySem PySem.Spec PyProof.Rows L2 Cm
/-! ### trees -/
inductive Kd where
  | tup | tpk | lst | seq | dk (ks : List Key) | dt (ks : List (List Key)) | ins (C : Addr) (fs : List Str) | exc (C : Addr) (fs : List Str) | rg (lo hi : Int) | dkl (ks : List Key) | dtl (ks : List (List Key))
inductive T where
  | lf (v : V) | nd (o : Bool) (k : Kd) (xs : List T)
def Kd.is : Kd → HO → List V → Prop
  | .tup, u, vs => u = .tup vs
  | .lst, u, vs => u = .lst vs
  | .tpk, _, _ => False
  | .seq, _, _ => False
  | .dk ks, u, vs => u = .dK (ks.zip vs)
  | .dt ks, u, vs => u = .dT (ks.zip vs)
  | .ins C fs, u, vs => ∃ dx, u = .ins C dx (fs.zip vs)
  | .exc _ _, _, _ => False
  | .rg lo hi, u, _ => u = .rng lo hi
  | .dkl ks, u, vs => ∃ od, u = .frz od (.dK (ks.zip vs))
  | .dtl ks, u, vs => ∃ od, u = .frz od (.dT (ks.zip vs))
def Kd.ln : Kd → Nat → Prop
  | .tup, _ | .tpk, _ | .lst, _ | .seq, _ => True
  | .dk ks, n => ks.length = n ∧ ks.Nodup
  | .dt ks, n => ks.length = n ∧ ks.Nodup
  | .ins _ fs, n => fs.length = n
  | .exc _ fs, n => fs.length = n
  | .rg _ _, n => n = 0
  | .dkl ks, n => ks.length = n ∧ ks.Nodup
  | .dtl ks, n => ks.length = n ∧ ks.Nodup
/-- a dict that is locked is a dict, once it is frozen -/
@[simp] def Kd.unl : Kd → Kd
  | .dkl ks => .dk ks
  | .dtl ks => .dt ks
  | k => k
theorem Kd.ln_unl {k : Kd} {n : Nat} (h : k.ln n) : k.unl.ln n := by cases k <;> exact h
/-- dicts may be locked for good -/
def isD : HO → Prop
  | .dK _ => True
  | .dT _ => True
  | _ => False
def Sle (S S' : Hp) : Prop := ∀ a o, S a = some o → S' a = some o ∨ (isD o ∧ ∃ od, S' a = some (.frz od o))
theorem Sle.refl (S : Hp) : Sle S S := fun _ _ h => .inl h
theorem Sle.of {S S' : Hp} (s : Same S S') : Sle S S' := fun a o h => .inl (s a o h)
theorem Sle.at {S S' : Hp} {a : Addr} {o : HO} (s : Sle S S') (h : S a = some o) (n : ¬ isD o) : S' a = some o := (s a o h).elim id fun z => absurd z.1 n
theorem Sle.trans {S S' S'' : Hp} (a : Sle S S') (b : Sle S' S'') : Sle S S'' := fun x o h => by
  rcases a x o h with h | ⟨d, od, h⟩
  · exact b x o h
  · exact .inr ⟨d, od, b.at h (fun z => z)⟩
theorem Sle.ne {S S' : Hp} {a : Addr} (s : Sle S S') (h : S a ≠ none) : S' a ≠ none := by
  cases e : S a with
  | none => exact absurd e h
  | some o => rcases s a o e with z | ⟨_, od, z⟩ <;> rw [z] <;> simp
theorem Sle.rd {S S' : Hp} {a : Addr} {u : HO} (s : Sle S S') (h : Rd S a u) : Rd S' a u := by
  rcases h with h | ⟨o, h⟩
  · rcases s a u h with z | ⟨_, od, z⟩
    · exact .inl z
    · exact .inr ⟨od, z⟩
  · exact .inr ⟨o, s.at h fun z => z⟩
theorem Rd.same {S S' : Hp} {a : Addr} {u : HO} (s : Same S S') (h : Rd S a u) : Rd S' a u := (Sle.of s).rd h
def Kd.fz (K : PySem.W.Frag) (S : Hp) (a : Addr) : Kd → List V → Prop
  | .tup, vs => S a = some (.tup vs)
  | .tpk, vs => SqT K S a vs
  | .lst, vs => S a = some (.lst vs)
  | .seq, vs => SqL K S a vs
  | .exc C fs, vs => ∃ d, S a = some (exh a (.ref C) (some d)) ∧ S d = some (.xd (fs.zip vs))
  | .dk ks, vs => Rd S a (.dK (ks.zip vs))
  | .dt ks, vs => Rd S a (.dT (ks.zip vs))
  | .dkl _, _ => False
  | .dtl _, _ => False
  | k, vs => ∃ u, S a = some u ∧ k.is u vs
theorem Kd.fz_of {K : PySem.W.Frag} {S : Hp} {a : Addr} {u : HO} {k : Kd} {vs : List V} (e : S a = some u) (h : k.is u vs) : k.unl.fz K S a vs := by
  cases k with
  | tup => cases h; exact e
  | tpk => exact h.elim
  | lst => cases h; exact e
  | seq => exact h.elim
  | dk ks => cases h; exact .inl e
  | dt ks => cases h; exact .inl e
  | ins C fs => exact ⟨u, e, h⟩
  | exc C fs => exact h.elim
  | rg lo hi => exact ⟨u, e, h⟩
  | dkl ks => obtain ⟨od, rfl⟩ := h; exact .inr ⟨od, e⟩
  | dtl ks => obtain ⟨od, rfl⟩ := h; exact .inr ⟨od, e⟩
theorem Kd.fz_le {K : PySem.W.Frag} {S S' : Hp} {a : Addr} {k : Kd} {vs : List V} (s : Sle S S') (h : k.fz K S a vs) : k.fz K S' a vs := by
  cases k with
  | tup => exact s.at h fun z => z
  | tpk =>
    rcases h with (h | ⟨o, h⟩) | h
    · exact .inl (.inl (s.at h fun z => z))
    · exact .inl (.inr ⟨o, s.at h fun z => z⟩)
    · exact .inr h
  | lst => exact s.at h fun z => z
  | seq =>
    rcases h with (h | ⟨o, h⟩) | h
    · exact .inl (.inl (s.at h fun z => z))
    · exact .inl (.inr ⟨o, s.at h fun z => z⟩)
    · exact .inr h
  | dk ks => exact s.rd h
  | dt ks => exact s.rd h
  | ins C fs => obtain ⟨u, e, dx, h⟩ := h; subst h; exact ⟨_, s.at e fun z => z, dx, rfl⟩
  | exc C fs => obtain ⟨d, e, h⟩ := h; exact ⟨d, s.at e fun z => z, s.at h fun z => z⟩
  | rg lo hi => obtain ⟨u, e, h⟩ := h; subst h; exact ⟨_, s.at e fun z => z, rfl⟩
  | dkl ks => exact h.elim
  | dtl ks => exact h.elim
theorem Kd.fz_unl {K : PySem.W.Frag} {S : Hp} {a : Addr} {k : Kd} {vs : List V} (h : k.fz K S a vs) : k.unl.fz K S a vs := by
  cases k <;> first | exact h | exact h.elim
abbrev AP := Addr → Prop
abbrev no : AP := fun _ => False
def Dj (A B : AP) : Prop := ∀ a, A a → B a → False
def Sub (A B : AP) : Prop := ∀ a, A a → B a
/-- v stands for the tree t; its own nodes lie in D (H), its frozen ones in S -/
inductive R (K : PySem.W.Frag) (S H : Hp) : T → V → AP → Prop
  | lf {v : V} {D : AP} : R K S H (.lf v) v D
  | own {a : Addr} {u : HO} {k : Kd} {xs : List T} {vs : List V} {D : AP} (Df : Nat → AP) : D a → H a = some u → k.is u vs → k.ln vs.length → xs.length = vs.length → (∀ i j b, Df i b → Df j b → i = j) → (∀ i b, Df i b → D b ∧ b ≠ a) →
      (∀ (i : Nat) (t : T) (v : V), xs[i]? = some t → vs[i]? = some v → R K S H t v (Df i)) → R K S H (.nd true k xs) (.ref a) D
  | fz {a : Addr} {k : Kd} {xs : List T} {vs : List V} {D : AP} : k.fz K S a vs → k.ln vs.length → xs.length = vs.length → (∀ (i : Nat) (t : T) (v : V), xs[i]? = some t → vs[i]? = some v → R K S H t v no) → R K S H (.nd false k xs) (.ref a) D
section
variable {K : PySem.W.Frag} {S S' H H' : Hp} {t : T} {v : V} {D D' : AP}
theorem R.mono (r : R K S H t v D) : ∀ {S' H' : Hp} {D' : AP}, Sle S S' → (∀ a o, D a → H a = some o → H' a = some o) → Sub D D' → R K S' H' t v D' := by
  induction r with
  | lf => intros; exact .lf
  | own Df hD e hk hn hl h1 h2 _ ih =>
    intro S' H' D' s k sub
    exact .own Df (sub _ hD) (k _ _ hD e) hk hn hl h1 (fun i b h => ⟨sub _ (h2 i b h).1, (h2 i b h).2⟩) fun i t v e1 e2 => ih i t v e1 e2 s (fun a o h => k a o (h2 i a h).1) (fun _ h => h)
  | fz hk hn hl _ ih =>
    intro S' H' D' s k sub
    exact .fz (Kd.fz_le s hk) hn hl fun i t v e1 e2 => ih i t v e1 e2 s (fun _ _ h => h.elim) (fun _ h => h)
theorem R.up (r : R K S H t v D) (h : Sub D D') : R K S H t v D' := r.mono (.refl _) (fun _ _ _ h => h) h
theorem R.same (r : R K S H t v D) (h : Same H H') : R K S H' t v D := r.mono (.refl _) (fun _ _ _ e => h _ _ e) fun _ h => h
end
/-- frozen -/
def T.fz : T → T
  | .lf v => .lf v
  | .nd _ k xs => .nd false k.unl (xs.map fun x => x.fz)
def T.fzd : T → Bool
  | .lf _ => true
  | .nd o _ _ => !o
@[simp] theorem T.fz_lf (v : V) : (T.lf v).fz = .lf v := by simp [T.fz]
@[simp] theorem T.fz_nd (o : Bool) (k : Kd) (xs : List T) : (T.nd o k xs).fz = .nd false k.unl (xs.map T.fz) := by simp [T.fz]
@[simp] theorem T.fzd_lf (v : V) : (T.lf v).fzd = true := rfl
@[simp] theorem T.fzd_nd (o : Bool) (k : Kd) (xs : List T) : (T.nd o k xs).fzd = !o := rfl
@[simp] theorem T.fzd_fz (t : T) : t.fz.fzd = true := by cases t <;> simp
section
variable {K : PySem.W.Frag} {S S' H H' : Hp} {t : T} {v : V} {D D' : AP}
theorem R.fzd (r : R K S H t v D) (h : t.fzd = true) : R K S H' t v no := by
  cases r with
  | lf => exact .lf
  | own => simp at h
  | fz hk hn hl ch => exact .fz hk hn hl fun i t v e1 e2 => (ch i t v e1 e2).mono (.refl _) (fun _ _ h => h.elim) fun _ h => h
theorem R.isfz (r : R K S H t v no) : t.fzd = true := by
  cases r with
  | lf => rfl
  | own _ h => exact h.elim
  | fz => rfl
open Classical in
/-- S, and what H has in D -/
noncomputable def join (S H : Hp) (D : AP) : Hp := fun a => if D a then H a else S a
theorem join_in {a : Addr} (h : D a) : join S H D a = H a := by unfold join; rw [if_pos h]
theorem join_out {a : Addr} (h : ¬ D a) : join S H D a = S a := by unfold join; rw [if_neg h]
theorem join_same (h : ∀ a, D a → S a = none) : Same S (join S H D) := fun a o e => by
  rw [join_out fun z => by rw [h a z] at e; cases e]; exact e
theorem R.frz (r : R K S H t v D) : (∀ a, D a → S a = none) → R K (join S H D) H t.fz v no := by
  induction r with
  | lf => intro _; simp; exact .lf
  | @own a u k xs vs D Df hD e hk hn hl h1 h2 _ ih =>
    intro hS
    rw [T.fz_nd]
    refine .fz (Kd.fz_of (by rw [join_in hD]; exact e) hk) (Kd.ln_unl hn) (by rw [List.length_map]; exact hl) fun i t v e1 e2 => ?_
    rw [List.getElem?_map] at e1
    cases q : xs[i]? with
    | none => rw [q] at e1; cases e1
    | some t' =>
      rw [q] at e1
      cases e1
      refine (ih i t' v q e2 fun a h => hS a (h2 i a h).1).mono (.of fun b o e => ?_) (fun _ _ h => h.elim) fun _ h => h
      by_cases hb : Df i b
      · rw [join_in hb] at e
        rw [join_in (h2 i b hb).1]
        exact e
      · rw [join_out hb] at e
        rw [join_out fun z => by rw [hS b z] at e; cases e]
        exact e
  | @fz a k xs vs D hk hn hl _ ih =>
    intro hS
    rw [T.fz_nd]
    refine .fz (Kd.fz_unl (Kd.fz_le (.of (join_same hS)) hk)) (Kd.ln_unl hn) (by rw [List.length_map]; exact hl) fun i t v e1 e2 => ?_
    rw [List.getElem?_map] at e1
    cases q : xs[i]? with
    | none => rw [q] at e1; cases e1
    | some t' =>
      rw [q] at e1
      cases e1
      refine (ih i t' v q e2 fun a h => h.elim).mono (.of fun b o e => ?_) (fun _ _ h => h.elim) fun _ h => h
      rw [join_out (fun h => h)] at e
      exact join_same hS _ _ e
end
/-! ### the state -/
abbrev Env := List (Option T)
/-- what else is known of the frozen things -/
structure Gm where
  p : Hp → Prop
  mono : ∀ S S', Sle S S' → p S → p S'
def G0 : Gm := ⟨fun _ => True, fun _ _ _ _ => trivial⟩
structure Ok (G : Gm) (S : Hp) (D : AP) (H : Hp) : Prop where
  g : G.p S
  sub : Same S H
  dis : ∀ a, D a → S a = none ∧ H a ≠ none
structure Nxt (G : Gm) (S : Hp) (D : AP) (H : Hp) (S' : Hp) (D' : AP) (H' : Hp) : Prop where
  ok : Ok G S' D' H'
  fs : Sle S S'
  dom : ∀ a, D' a → D a ∨ H a = none
  kp : ∀ a o, H a = some o → ¬ D a → S a = none → H' a = some o
  new : ∀ a, S' a ≠ none → S a ≠ none ∨ D a ∨ H a = none
section
variable {K : PySem.W.Frag} {S S' S'' H H' H'' : Hp} {t : T} {v : V} {D D' D'' D1 D2 : AP} {G : Gm}
theorem Nxt.refl (o : Ok G S D H) : Nxt G S D H S D H := ⟨o, .refl _, fun _ h => .inl h, fun _ _ h _ _ => h, fun _ h => .inl h⟩
/-- what is gone was ours or never there -/
theorem Nxt.gone (a : Nxt G S D H S' D' H') : ∀ x, H' x = none → D x ∨ H x = none := fun x h => by
  cases e : H x with
  | none => exact .inr rfl
  | some u =>
    refine .inl (Classical.byContradiction fun n => ?_)
    cases z : S x with
    | none => rw [a.kp x u e n z] at h; cases h
    | some w =>
      have := a.fs.ne (a := x) (by rw [z]; simp)
      cases z' : S' x with
      | none => exact this z'
      | some w' => rw [a.ok.sub _ _ z'] at h; cases h
theorem Nxt.trans (o : Ok G S D H) (a : Nxt G S D H S' D' H') (b : Nxt G S' D' H' S'' D'' H'') : Nxt G S D H S'' D'' H'' := by
  refine ⟨b.ok, a.fs.trans b.fs, fun x h => ?_, fun x u e n z => ?_, fun x h => ?_⟩
  · rcases b.dom x h with h | h
    · exact a.dom x h
    · exact a.gone x h
  · refine b.kp x u (a.kp x u e n z) (fun y => ?_) ?_
    · rcases a.dom x y with h | h
      · exact n h
      · rw [h] at e; cases e
    · cases q : S' x with
      | none => rfl
      | some w =>
        rcases a.new x (by rw [q]; simp) with y | y | y
        · exact absurd z y
        · exact absurd y n
        · rw [y] at e; cases e
  · rcases b.new x h with h | h | h
    · exact a.new x h
    · exact .inr (a.dom x h)
    · exact .inr (a.gone x h)
theorem Ok.sm (o : Ok G S D H) (h : Sub D' D) : Ok G S D' H := ⟨o.g, o.sub, fun a x => o.dis a (h a x)⟩
/-- run with D1 alone, D2 stands beside -/
theorem Nxt.frame (o : Ok G S (fun a => D1 a ∨ D2 a) H) (dj : Dj D1 D2) (a : Nxt G S D1 H S' D' H') : Nxt G S (fun a => D1 a ∨ D2 a) H S' (fun a => D' a ∨ D2 a) H' ∧ Dj D' D2 ∧ ∀ x o, D2 x → H x = some o → H' x = some o := by
  have k2 : ∀ x o, D2 x → H x = some o → H' x = some o := fun x u h e => a.kp x u e (fun z => dj x z h) (o.dis x (.inr h)).1
  refine ⟨⟨⟨a.ok.g, a.ok.sub, fun x h => ?_⟩, a.fs, fun x h => ?_, fun x u e n z => a.kp x u e (fun y => n (.inl y)) z, fun x h => ?_⟩, fun x h1 h2 => ?_, k2⟩
  · rcases h with h | h
    · exact a.ok.dis x h
    · obtain ⟨h1, h2⟩ := o.dis x (.inr h)
      refine ⟨?_, ?_⟩
      · cases e : S' x with
        | none => rfl
        | some u =>
          rcases a.new x (by rw [e]; simp) with z | z | z
          · exact absurd h1 z
          · exact (dj x z h).elim
          · exact absurd z h2
      · cases e : H x with
        | none => exact absurd e h2
        | some u => rw [k2 x u h e]; simp
  · rcases h with h | h
    · exact (a.dom x h).elim (fun z => .inl (.inl z)) .inr
    · exact .inl (.inr h)
  · rcases a.new x h with z | z | z
    · exact .inl z
    · exact .inr (.inl (.inl z))
    · exact .inr (.inr z)
  · rcases a.dom x h1 with z | z
    · exact dj x z h2
    · exact (o.dis x (.inr h2)).2 z
/-- something new is there, at Dn -/
theorem Nxt.fresh {Dn : AP} (o : Ok G S D H) (s : Same H H') (hn : ∀ a, Dn a → H a = none ∧ H' a ≠ none) : Nxt G S D H S (fun a => D a ∨ Dn a) H' ∧ Dj D Dn := by
  refine ⟨⟨⟨o.g, Same.trans o.sub s, fun a h => ?_⟩, .refl _, fun a h => ?_, fun a u e _ _ => s _ _ e, fun a h => .inl h⟩, fun a h1 h2 => (o.dis a h1).2 (hn a h2).1⟩
  · rcases h with h | h
    · obtain ⟨h1, h2⟩ := o.dis a h
      refine ⟨h1, ?_⟩
      cases e : H a with
      | none => exact absurd e h2
      | some u => rw [s _ _ e]; simp
    · obtain ⟨h1, h2⟩ := hn a h
      refine ⟨?_, h2⟩
      cases e : S a with
      | none => rfl
      | some u => rw [o.sub _ _ e] at h1; cases h1
  · exact h.elim .inl fun z => .inr (hn a z).1
/-- D1 is frozen -/
theorem Nxt.freeze (o : Ok G S D H) (h2 : Sub D2 D) (h1 : Sub D1 D) (dj : Dj D1 D2) : Nxt G S D H (join S H D1) D2 H := by
  refine ⟨⟨G.mono _ _ (Sle.of (join_same fun a h => (o.dis a (h1 a h)).1)) o.g, fun a u e => ?_, fun a h => ?_⟩, Sle.of (join_same fun a h => (o.dis a (h1 a h)).1), fun a h => .inl (h2 a h), fun _ _ h _ _ => h, fun a h => ?_⟩
  · by_cases h : D1 a
    · rw [join_in h] at e; exact e
    · rw [join_out h] at e; exact o.sub _ _ e
  · exact ⟨by rw [join_out fun z => dj a z h]; exact (o.dis a (h2 a h)).1, (o.dis a (h2 a h)).2⟩
  · by_cases z : D1 a
    · exact .inr (.inl (h1 a z))
    · rw [join_out z] at h; exact .inl h
theorem Nxt.shrink (o : Ok G S D H) (h : Sub D' D) : Nxt G S D H S D' H := ⟨o.sm h, .refl _, fun a x => .inl (h a x), fun _ _ h _ _ => h, fun _ h => .inl h⟩
end
theorem Ok.cast {G G' : Gm} {S H : Hp} {D : AP} (o : Ok G S D H) (g : G'.p S) : Ok G' S D H := ⟨g, o.sub, o.dis⟩
theorem Nxt.cast {G G' : Gm} {S S' H H' : Hp} {D D' : AP} (n : Nxt G S D H S' D' H') (g : G'.p S) : Nxt G' S D H S' D' H' := ⟨n.ok.cast (G'.mono _ _ n.fs g), n.fs, n.dom, n.kp, n.new⟩
/-! ### lists of trees; the slots -/
def Rs (K : PySem.W.Frag) (S H : Hp) (xs : List T) (vs : List V) (D : AP) : Prop := xs.length = vs.length ∧ ∃ Df : Nat → AP, (∀ i j b, Df i b → Df j b → i = j) ∧ (∀ i, Sub (Df i) D) ∧ ∀ i t v, xs[i]? = some t → vs[i]? = some v → R K S H t v (Df i)
def Re (K : PySem.W.Frag) (S H : Hp) (env : Env) (σ : L2.St) (D : AP) : Prop := env.length = σ.length ∧ ∃ Df : Nat → AP, (∀ i j b, Df i b → Df j b → i = j) ∧ (∀ i, Sub (Df i) D) ∧ ∀ i t, env[i]? = some (some t) → ∃ v, σ[i]? = some (some v) ∧ R K S H t v (Df i)
section
variable {K : PySem.W.Frag} {S S' H H' : Hp} {t : T} {v : V} {xs ys : List T} {vs ws : List V} {env : Env} {σ : L2.St} {D D' D1 D2 : AP}
theorem Rs.mono (r : Rs K S H xs vs D) (s : Sle S S') (k : ∀ a o, D a → H a = some o → H' a = some o) (u : Sub D D') : Rs K S' H' xs vs D' := by
  obtain ⟨hl, Df, h1, h2, h3⟩ := r
  exact ⟨hl, Df, h1, fun i b h => u b (h2 i b h), fun i t v e1 e2 => (h3 i t v e1 e2).mono s (fun a o h => k a o (h2 i a h)) fun _ h => h⟩
theorem Re.mono (r : Re K S H env σ D) (s : Sle S S') (k : ∀ a o, D a → H a = some o → H' a = some o) (u : Sub D D') : Re K S' H' env σ D' := by
  obtain ⟨hl, Df, h1, h2, h3⟩ := r
  refine ⟨hl, Df, h1, fun i b h => u b (h2 i b h), fun i t e => ?_⟩
  obtain ⟨v, e2, r⟩ := h3 i t e
  exact ⟨v, e2, r.mono s (fun a o h => k a o (h2 i a h)) fun _ h => h⟩
theorem Rs.nil : Rs K S H [] [] D := ⟨rfl, fun _ => no, fun _ _ _ h => h.elim, fun _ _ h => h.elim, fun i t v e => by simp at e⟩
theorem Rs.cons (dj : Dj D1 D2) (s1 : Sub D1 D) (s2 : Sub D2 D) (r : R K S H t v D1) (rs : Rs K S H xs vs D2) : Rs K S H (t :: xs) (v :: vs) D := by
  obtain ⟨hl, Df, h1, h2, h3⟩ := rs
  refine ⟨by simp [hl], fun i => match i with | 0 => D1 | i + 1 => Df i, fun i j b => ?_, fun i => ?_, fun i t' v' e1 e2 => ?_⟩
  · rcases i with _ | i <;> rcases j with _ | j
    · intros; rfl
    · exact fun a b' => (dj _ a (h2 _ _ b')).elim
    · exact fun a b' => (dj _ b' (h2 _ _ a)).elim
    · exact fun a b' => by rw [h1 i j b a b']
  · rcases i with _ | i
    · exact s1
    · exact fun b h => s2 b (h2 i b h)
  · rcases i with _ | i
    · cases e1; cases e2; exact r
    · exact h3 i t' v' (by simpa using e1) (by simpa using e2)
theorem Rs.uncons (rs : Rs K S H (t :: xs) (v :: vs) D) : ∃ D1 D2, Dj D1 D2 ∧ Sub D1 D ∧ Sub D2 D ∧ R K S H t v D1 ∧ Rs K S H xs vs D2 := by
  obtain ⟨hl, Df, h1, h2, h3⟩ := rs
  refine ⟨Df 0, fun a => ∃ i, Df (i + 1) a, fun a x ⟨i, y⟩ => by have := h1 _ _ a x y; omega, h2 0, fun a ⟨i, y⟩ => h2 _ a y, h3 0 t v rfl rfl, by simpa using hl, fun i => Df (i + 1), fun i j b x y => by have := h1 _ _ b x y; omega, fun i a h => ⟨i, h⟩, fun i t v e1 e2 => h3 (i + 1) t v (by simpa using e1) (by simpa using e2)⟩
theorem Rs.shape (rs : Rs K S H xs vs D) : xs.length = vs.length := rs.1
theorem Rs.frozen (hl : xs.length = vs.length) (h : ∀ (i : Nat) (t : T) (v : V), xs[i]? = some t → vs[i]? = some v → R K S H t v no) : Rs K S H xs vs D :=
  ⟨hl, fun _ => no, fun _ _ _ h => h.elim, fun _ _ h => h.elim, h⟩
/-- a new node -/
theorem R.node {a : Addr} {u : HO} {k : Kd} (ha : D a) (e : H a = some u) (hk : k.is u vs) (hn : k.ln vs.length) (r : Rs K S H xs vs (fun b => D b ∧ b ≠ a)) : R K S H (.nd true k xs) (.ref a) D := by
  obtain ⟨hl, Df, h1, h2, h3⟩ := r
  exact .own Df ha e hk hn hl h1 h2 h3
theorem Re.get (r : Re K S H env σ D) {i : Nat} (e : env[i]? = some (some t)) : ∃ v, σ[i]? = some (some v) ∧ R K S H t v D := by
  obtain ⟨hl, Df, h1, h2, h3⟩ := r
  obtain ⟨v, e2, r⟩ := h3 i t e
  exact ⟨v, e2, r.up (h2 i)⟩
/-- slot i is taken out -/
theorem Re.take (r : Re K S H env σ D) {i : Nat} (e : env[i]? = some (some t)) : ∃ v D1 D2, Dj D1 D2 ∧ Sub D1 D ∧ Sub D2 D ∧ σ[i]? = some (some v) ∧ R K S H t v D1 ∧ Re K S H (env.set i none) σ D2 := by
  obtain ⟨hl, Df, h1, h2, h3⟩ := r
  obtain ⟨v, e2, r⟩ := h3 i t e
  refine ⟨v, Df i, fun a => ∃ j, j ≠ i ∧ Df j a, fun a x ⟨j, hj, y⟩ => hj (h1 _ _ a y x), h2 i, fun a ⟨j, _, y⟩ => h2 j a y, e2, r, by simpa using hl, fun j a => j ≠ i ∧ Df j a, fun j k b x y => h1 _ _ b x.2 y.2, fun j a x => ⟨j, x⟩, fun j t' e' => ?_⟩
  by_cases hj : j = i
  · subst hj
    rw [List.getElem?_set_self (by rw [List.getElem?_eq_some_iff] at e; exact e.1)] at e'
    cases e'
  · rw [List.getElem?_set_ne (Ne.symm hj)] at e'
    obtain ⟨v', e3, r'⟩ := h3 j t' e'
    exact ⟨v', e3, r'.up fun a x => ⟨hj, x⟩⟩
/-- slot i gets a tree -/
theorem Re.put (dj : Dj D1 D2) (s1 : Sub D1 D) (s2 : Sub D2 D) (r : Re K S H env σ D1) (i : Nat) (q : R K S H t v D2) : Re K S H (env.set i (some t)) (σ.set i (some v)) D := by
  obtain ⟨hl, Df, h1, h2, h3⟩ := r
  refine ⟨by simpa using hl, fun j => if j = i then D2 else Df j, fun j k b x y => ?_, fun j a x => ?_, fun j t' e' => ?_⟩
  · by_cases hj : j = i <;> by_cases hk : k = i <;> simp only [hj, hk, if_true, if_false] at x y
    · rw [hj, hk]
    · exact (dj b (h2 k b y) x).elim
    · exact (dj b (h2 j b x) y).elim
    · exact h1 _ _ b x y
  · by_cases hj : j = i <;> simp only [hj, if_true, if_false] at x
    · exact s2 a x
    · exact s1 a (h2 j a x)
  · by_cases hj : j = i
    · subst hj
      have hi : j < env.length := by
        rw [List.getElem?_eq_some_iff] at e'
        have := e'.1
        rwa [List.length_set] at this
      rw [List.getElem?_set_self hi] at e'
      cases e'
      exact ⟨v, List.getElem?_set_self (by omega), by simp only [if_true]; exact q⟩
    · rw [List.getElem?_set_ne (Ne.symm hj)] at e'
      obtain ⟨v', e3, r'⟩ := h3 j t' e'
      refine ⟨v', by rw [List.getElem?_set_ne (Ne.symm hj)]; exact e3, ?_⟩
      simp only [hj, if_false]
      exact r'
/-- .. the slot's own value -/
theorem Re.back (dj : Dj D1 D2) (s1 : Sub D1 D) (s2 : Sub D2 D) (r : Re K S H env σ D1) (i : Nat) (e : σ[i]? = some (some v)) (q : R K S H t v D2) : Re K S H (env.set i (some t)) σ D := by
  have := Re.put dj s1 s2 r i q
  rwa [show σ.set i (some v) = σ from by
    apply List.ext_getElem?
    intro j
    by_cases h : j = i
    · subst h; rw [List.getElem?_set_self (by rw [List.getElem?_eq_some_iff] at e; exact e.1), e]
    · rw [List.getElem?_set_ne (Ne.symm h)]] at this
theorem Re.drop (r : Re K S H env σ D) (i : Nat) {o : Option V} : Re K S H (env.set i none) (σ.set i o) D := by
  obtain ⟨hl, Df, h1, h2, h3⟩ := r
  refine ⟨by simpa using hl, Df, h1, h2, fun j t e => ?_⟩
  by_cases hj : j = i
  · subst hj
    have hi : j < env.length := by
      rw [List.getElem?_eq_some_iff] at e
      have := e.1
      rwa [List.length_set] at this
    rw [List.getElem?_set_self hi] at e
    cases e
  · rw [List.getElem?_set_ne (Ne.symm hj)] at e
    obtain ⟨v, e2, r⟩ := h3 j t e
    exact ⟨v, by rw [List.getElem?_set_ne (Ne.symm hj)]; exact e2, r⟩
end
end Tr

set_option Elab.async false
set_option linter.all false
set_option maxRecDepth 100000
set_option maxHeartbeats 1000000
set_option autoImplicit false
namespace Tr
open PySem PySem.Spec PyProof.Rows L2 Cm
/-! ### judgements -/
/-- what is wanted of an exception, and what is known of the frozen things -/
structure Wc where
  x : WX
  g : Gm := G0
abbrev PT1 := T → Env → Prop
abbrev PLs := List T → Env → Prop
abbrev DE := Env → PT1 → PT1 → Prop
abbrev DA := Env → PLs → PT1 → Prop
abbrev DB := Env → (Bool → Env → Prop) → PT1 → Prop
structure DEnds where
  nx : Env → Prop
  bk : Env → Prop := fun _ => False
  ct : Env → Prop := fun _ => False
  rt : PT1
  ex : PT1
abbrev DS := DEnds → Env → Prop
def Rz (K : PySem.W.Frag) (S H : Hp) (env : Env) (σ : L2.St) (t : T) (v : V) (D : AP) : Prop := ∃ D1 D2, Dj D1 D2 ∧ Sub D1 D ∧ Sub D2 D ∧ Re K S H env σ D1 ∧ R K S H t v D2
def Rzs (K : PySem.W.Frag) (S H : Hp) (env : Env) (σ : L2.St) (ts : List T) (vs : List V) (D : AP) : Prop := ∃ D1 D2, Dj D1 D2 ∧ Sub D1 D ∧ Sub D2 D ∧ Re K S H env σ D1 ∧ Rs K S H ts vs D2
/-- an exception that flies -/
def RX (K : PySem.W.Frag) (S : Hp) (ex : T) (cls : Value) (d : Option Addr) : Prop := ∃ (C : Addr) (fs : List Str) (ts : List T) (vs : List V) (dd : Addr), ex = .nd false (.exc C fs) ts ∧ cls = .ref C ∧ d = some dd ∧ S dd = some (.xd (fs.zip vs)) ∧ fs.length = vs.length ∧ ts.length = vs.length ∧ ∀ (i : Nat) (t : T) (v : V), ts[i]? = some t → vs[i]? = some v → R K S S t v no
abbrev KE_ (G : Gm) (K : PySem.W.Frag) (S : Hp) (D : AP) (H : Hp) (σ : L2.St) (P : PT1) (Q : VK) : Prop := ∀ S' D' H' env' t v, Nxt G S D H S' D' H' → Rz K S' H' env' σ t v D' → P t env' → Q v H'
abbrev KA_ (G : Gm) (K : PySem.W.Frag) (S : Hp) (D : AP) (H : Hp) (σ : L2.St) (P : PLs) (Q : List V → Hp → Prop) : Prop := ∀ S' D' H' env' ts vs, Nxt G S D H S' D' H' → Rzs K S' H' env' σ ts vs D' → P ts env' → Q vs H'
abbrev KB_ (G : Gm) (K : PySem.W.Frag) (S : Hp) (D : AP) (H : Hp) (σ : L2.St) (P : Bool → Env → Prop) (Q : Bool → Hp → Prop) : Prop := ∀ S' D' H' env' b, Nxt G S D H S' D' H' → Re K S' H' env' σ D' → P b env' → Q b H'
abbrev KX_ (K : PySem.W.Frag) (W : Wc) (S : Hp) (D : AP) (H : Hp) (σ : L2.St) (Ex : PT1) : Prop := ∀ S' D' H' env' ex cls d, Nxt W.g S D H S' D' H' → Re K S' H' env' σ D' → RX K S' ex cls d → Ex ex env' → W.x cls d σ H'
def SE (K : PySem.W.Frag) (W : Wc) (te : TE) (de : DE) : Prop := ∀ S D H σ env Q P Ex, Ok W.g S D H → Re K S H env σ D → de env P Ex → KE_ W.g K S D H σ P Q → KX_ K W S D H σ Ex → te σ H Q
/-- ms: for each argument the slot that it was taken out of -/
def SA (K : PySem.W.Frag) (W : Wc) (ms : List (Option Nat)) (ta : TA) (da : DA) : Prop := ∀ S D H σ env Q P Ex, Ok W.g S D H → Re K S H env σ D → da env P Ex →
  (∀ S' D' H' env' ts vs, Nxt W.g S D H S' D' H' → Rzs K S' H' env' σ ts vs D' → (ms.length = vs.length ∧ ∀ (j i : Nat), ms[j]? = some (some i) → ∃ v, σ[i]? = some (some v) ∧ vs[j]? = some v) → P ts env' → Q vs H') → KX_ K W S D H σ Ex → ta σ H Q
def SB (K : PySem.W.Frag) (W : Wc) (tt : TT) (db : DB) : Prop := ∀ S D H σ env Q P Ex, Ok W.g S D H → Re K S H env σ D → db env P Ex → KB_ W.g K S D H σ P Q → KX_ K W S D H σ Ex → tt σ H Q
/-- the slots io hold what they held at first -/
def IO (io : List Nat) (σ0 σ : L2.St) : Prop := ∀ i ∈ io, σ[i]? = σ0[i]?
structure Lift (K : PySem.W.Frag) (W : Wc) (io : List Nat) (σ0 : L2.St) (S : Hp) (D : AP) (H : Hp) (DT : DEnds) (DD : Ends) : Prop where
  nx : ∀ S' D' H' env' σ', Nxt W.g S D H S' D' H' → Re K S' H' env' σ' D' → IO io σ0 σ' → DT.nx env' → DD.nx σ' H'
  bk : ∀ S' D' H' env' σ', Nxt W.g S D H S' D' H' → Re K S' H' env' σ' D' → IO io σ0 σ' → DT.bk env' → DD.bk σ' H'
  ct : ∀ S' D' H' env' σ', Nxt W.g S D H S' D' H' → Re K S' H' env' σ' D' → IO io σ0 σ' → DT.ct env' → DD.ct σ' H'
  rt : ∀ S' D' H' env' σ' t v, Nxt W.g S D H S' D' H' → Rz K S' H' env' σ' t v D' → IO io σ0 σ' → DT.rt t env' → DD.rt v H'
  ex : ∀ S' D' H' env' σ' ex cls d, Nxt W.g S D H S' D' H' → Re K S' H' env' σ' D' → IO io σ0 σ' → RX K S' ex cls d → DT.ex ex env' → W.x cls d σ' H'
def SS (K : PySem.W.Frag) (W : Wc) (io : List Nat) (ts : TS) (ds : DS) : Prop := ∀ S D H σ0 σ env DT DD, Ok W.g S D H → Re K S H env σ D → IO io σ0 σ → ds DT env → Lift K W io σ0 S D H DT DD → ts DD σ H
section
variable {K : PySem.W.Frag} {W : Wc} {io : List Nat} {σ0 σ : L2.St} {S S' H H' : Hp} {D D' D1 D2 : AP} {env : Env} {t : T} {v : V} {ts : List T} {vs : List V} {P : PT1} {Q : VK} {Ex : PT1} {DT DT' : DEnds} {DD DD' : Ends} {G : Gm}
theorem KX_.go (o : Ok W.g S D H) (n : Nxt W.g S D H S' D' H') (x : KX_ K W S D H σ Ex) : KX_ K W S' D' H' σ Ex := fun _ _ _ _ _ _ _ n2 => x _ _ _ _ _ _ _ (Nxt.trans o n n2)
theorem KE_.go (o : Ok G S D H) (n : Nxt G S D H S' D' H') (x : KE_ G K S D H σ P Q) : KE_ G K S' D' H' σ P Q := fun _ _ _ _ _ _ n2 => x _ _ _ _ _ _ (Nxt.trans o n n2)
theorem Lift.go (o : Ok W.g S D H) (n : Nxt W.g S D H S' D' H') (x : Lift K W io σ0 S D H DT DD) : Lift K W io σ0 S' D' H' DT DD :=
  ⟨fun _ _ _ _ _ n2 => x.nx _ _ _ _ _ (Nxt.trans o n n2), fun _ _ _ _ _ n2 => x.bk _ _ _ _ _ (Nxt.trans o n n2), fun _ _ _ _ _ n2 => x.ct _ _ _ _ _ (Nxt.trans o n n2), fun _ _ _ _ _ _ _ n2 => x.rt _ _ _ _ _ _ _ (Nxt.trans o n n2), fun _ _ _ _ _ _ _ _ n2 => x.ex _ _ _ _ _ _ _ _ (Nxt.trans o n n2)⟩
theorem Lift.kx (x : Lift K W io σ0 S D H DT DD) (i : IO io σ0 σ) : KX_ K W S D H σ DT.ex := fun _ _ _ _ _ _ _ n r rx e => x.ex _ _ _ _ _ _ _ _ n r i rx e
theorem Rz.split (o : Ok G S D H) (r : Rz K S H env σ t v D) : ∃ D1 D2, Dj D1 D2 ∧ Ok G S (fun a => D1 a ∨ D2 a) H ∧ Nxt G S D H S (fun a => D1 a ∨ D2 a) H ∧ Re K S H env σ D1 ∧ R K S H t v D2 := by
  obtain ⟨D1, D2, dj, s1, s2, r1, r2⟩ := r
  have s : Sub (fun a => D1 a ∨ D2 a) D := fun a h => h.elim (s1 a) (s2 a)
  exact ⟨D1, D2, dj, o.sm s, Nxt.shrink o s, r1, r2⟩
theorem Rzs.split (o : Ok G S D H) (r : Rzs K S H env σ ts vs D) : ∃ D1 D2, Dj D1 D2 ∧ Ok G S (fun a => D1 a ∨ D2 a) H ∧ Nxt G S D H S (fun a => D1 a ∨ D2 a) H ∧ Re K S H env σ D1 ∧ Rs K S H ts vs D2 := by
  obtain ⟨D1, D2, dj, s1, s2, r1, r2⟩ := r
  have s : Sub (fun a => D1 a ∨ D2 a) D := fun a h => h.elim (s1 a) (s2 a)
  exact ⟨D1, D2, dj, o.sm s, Nxt.shrink o s, r1, r2⟩
theorem Rz.mk (dj : Dj D1 D2) (r1 : Re K S H env σ D1) (r2 : R K S H t v D2) : Rz K S H env σ t v (fun a => D1 a ∨ D2 a) := ⟨D1, D2, dj, fun _ => .inl, fun _ => .inr, r1, r2⟩
theorem Rzs.mk (dj : Dj D1 D2) (r1 : Re K S H env σ D1) (r2 : Rs K S H ts vs D2) : Rzs K S H env σ ts vs (fun a => D1 a ∨ D2 a) := ⟨D1, D2, dj, fun _ => .inl, fun _ => .inr, r1, r2⟩
theorem Rz.lf (r : Re K S H env σ D) : Rz K S H env σ (.lf v) v D := ⟨D, no, fun _ _ h => h, fun _ h => h, fun _ h => h.elim, r, .lf⟩
theorem Rz.fr (r : Re K S H env σ D) (q : R K S H t v no) : Rz K S H env σ t v D := ⟨D, no, fun _ _ h => h, fun _ h => h, fun _ h => h.elim, r, q⟩
/-- the value is frozen -/
theorem Rz.frz (o : Ok G S D H) (r : Rz K S H env σ t v D) : ∃ S' D', Nxt G S D H S' D' H ∧ Re K S' H env σ D' ∧ R K S' H t.fz v no := by
  obtain ⟨D1, D2, dj, s1, s2, r1, r2⟩ := r
  have n := Nxt.freeze o s1 s2 fun a h1 h2 => dj a h2 h1
  exact ⟨_, _, n, r1.mono n.fs (fun _ _ _ e => e) fun _ h => h, r2.frz fun a h => (o.dis a (s2 a h)).1⟩
theorem SE.toFz {te : TE} {de : DE} (h : SE K W te de) : SE K W te (fun env P Ex => de env (fun t env' => P t.fz env') Ex) := fun S D H σ env Q P Ex o r d k x =>
  h S D H σ env Q _ Ex o r d (fun S' D' H' env' t v n rz p => by
    obtain ⟨S2, D2, n2, r2, q2⟩ := rz.frz n.ok
    exact k _ _ _ _ _ _ (Nxt.trans o n n2) (.fr r2 q2) p) x
end
/-! ### the judgements on code -/
def TPE (X : Cx) (W : Wc) (e : Expr) (de : DE) : Prop := ∃ te, PE X e te ∧ SE X.K W te de
def TPA (X : Cx) (W : Wc) (ms : List (Option Nat)) (es : List Expr) (da : DA) : Prop := ∃ ta, PA X es ta ∧ SA X.K W ms ta da
def TPB (X : Cx) (W : Wc) (e : Expr) (db : DB) : Prop := ∃ tt, PT X e tt ∧ SB X.K W tt db
def TPS (X : Cx) (W : Wc) (io : List Nat) (st : Stmt) (ds : DS) : Prop := ∃ ts, PS X st ts ∧ SS X.K W io ts ds
def TPSs (X : Cx) (W : Wc) (io : List Nat) (st : List Stmt) (ds : DS) : Prop := ∃ ts, PSs X st ts ∧ SS X.K W io ts ds
section
variable {X : Cx} {W : Wc} {io : List Nat} {pos : Pos}
/-! ### constants and names -/
def dC (v : V) : DE := fun env P _ => P (.lf v) env
/-- a name, frozen -/
def dVar (i : Nat) : DE := fun env P _ => ∃ t, env[i]? = some (some t) ∧ P t.fz (env.set i (some t.fz))
/-- a name, taken out of its slot -/
def dMv (i : Nat) : DE := fun env P _ => ∃ t, env[i]? = some (some t) ∧ P t (env.set i none)
theorem se_C {K : PySem.W.Frag} {v : V} : SE K W (tC v) (dC v) := fun S D H σ env Q P Ex o r d k x => k _ _ _ _ _ _ (Nxt.refl o) (.lf r) d
theorem t_int {i j pos} : TPE X W (.Constant (.int i) j pos) (dC (.int i)) := ⟨_, pe_int, se_C⟩
theorem t_bl {b j pos} : TPE X W (.Constant (.bool b) j pos) (dC (.bl b)) := ⟨_, pe_bl, se_C⟩
theorem t_non {j pos} : TPE X W (.Constant .none j pos) (dC .non) := ⟨_, pe_non, se_C⟩
theorem t_str {x j pos} : TPE X W (.Constant (.str x) j pos) (dC (.str x)) := ⟨_, pe_str, se_C⟩
theorem set_self {α : Type} {l : List α} {i : Nat} {x : α} (e : l[i]? = some x) : l.set i x = l := by
  apply List.ext_getElem?
  intro j
  by_cases h : j = i
  · subst h; rw [List.getElem?_set_self (by rw [List.getElem?_eq_some_iff] at e; exact e.1), e]
  · rw [List.getElem?_set_ne (Ne.symm h)]
theorem se_Var {K : PySem.W.Frag} {i : Nat} : SE K W (tVar i) (dVar i) := fun S D H σ env Q P Ex o r d k x => by
  obtain ⟨t, e, p⟩ := d
  obtain ⟨v, D1, D2, dj, s1, s2, e2, q, r2⟩ := r.take e
  have n := Nxt.freeze o s2 s1 dj
  have qz := q.frz fun a h => (o.dis a (s1 a h)).1
  refine ⟨v, e2, k _ _ _ _ _ _ n (.fr ?_ qz) p⟩
  have r3 := Re.back (t := t.fz) (fun _ _ h => h) (fun _ h => h) (fun _ h => h.elim) (r2.mono n.fs (fun _ _ _ e => e) fun _ h => h) i e2 qz
  rw [List.set_set] at r3
  exact r3
theorem se_Mv {K : PySem.W.Frag} {i : Nat} : SE K W (tVar i) (dMv i) := fun S D H σ env Q P Ex o r d k x => by
  obtain ⟨t, e, p⟩ := d
  obtain ⟨v, D1, D2, dj, s1, s2, e2, q, r2⟩ := r.take e
  exact ⟨v, e2, k _ _ _ _ _ _ (Nxt.refl o) ⟨D2, D1, fun a x y => dj a y x, s2, s1, r2, q⟩ p⟩
theorem t_var {i : Nat} {x : Str} (hN : X.N[i]? = some x) (hv : Vis X.env.scope x) (hd : (x == ("__debug__" : Str)) = false := by decide) (hcd : (x == ("__classdict__" : Str)) = false := by decide) : TPE X W (.Name x pos) (dVar i) := ⟨_, pe_var hN hv hd hcd, se_Var⟩
theorem t_mv {i : Nat} {x : Str} (hN : X.N[i]? = some x) (hv : Vis X.env.scope x) (hd : (x == ("__debug__" : Str)) = false := by decide) (hcd : (x == ("__classdict__" : Str)) = false := by decide) : TPE X W (.Name x pos) (dMv i) := ⟨_, pe_var hN hv hd hcd, se_Mv⟩
theorem t_glob {x : Str} {v : V} {u : Value} (hg : Gl X x) (hm : X.mg x = some u) (r : RelV v u) (hd : (x == ("__debug__" : Str)) = false := by decide) : TPE X W (.Name x pos) (dC v) := ⟨_, pe_glob hg hm r hd, se_C⟩
/-- a frozen global thing: what it is -/
def dGl (t : T) : DE := fun env P _ => P t env
theorem t_globT {x : Str} {a : Addr} {t : T} (hg : Gl X x) (hm : X.mg x = some (.ref a)) (h : ∀ S H, R X.K S H t (.ref a) no) (hd : (x == ("__debug__" : Str)) = false := by decide) : TPE X W (.Name x pos) (dGl t) := ⟨_, pe_glob (v := .ref a) hg hm rfl hd, fun S D H σ env Q P Ex o r d k x => k _ _ _ _ _ _ (Nxt.refl o) (.fr r (h S H)) d⟩
theorem t_bltn {x : Str} {v : V} {u : Value} (hg : Gl X x) (hm : X.mg x = none) (hv : bootBuiltins x = some u) (r : RelV v u) (hn : x ≠ "__name__" := by decide) (hd : (x == ("__debug__" : Str)) = false := by decide) : TPE X W (.Name x pos) (dC v) := ⟨_, pe_bltn hg hm hv r hn hd, se_C⟩
/-- frozen -/
def dFz (de : DE) : DE := fun env P Ex => de env (fun t env' => P t.fz env') Ex
theorem t_fz {e : Expr} {de : DE} (h : TPE X W e de) : TPE X W e (dFz de) := let ⟨te, h1, h2⟩ := h; ⟨te, h1, h2.toFz⟩
/-! ### lists of arguments -/
def dNil : DA := fun env P _ => P [] env
def dCons (de : DE) (da : DA) : DA := fun env P Ex => de env (fun t env1 => da env1 (fun ts env2 => P (t :: ts) env2) Ex) Ex
theorem sa_nil {K : PySem.W.Frag} : SA K W [] tNil dNil := fun S D H σ env Q P Ex o r d k x => k _ _ _ _ _ _ (Nxt.refl o) ⟨D, no, fun _ _ h => h, fun _ h => h, fun _ h => h.elim, r, Rs.nil⟩ ⟨rfl, fun _ _ h => by simp at h⟩ d
theorem sa_cons {K : PySem.W.Frag} {te : TE} {ta : TA} {de : DE} {da : DA} {ms : List (Option Nat)} (m : Option Nat) (h : SE K W te de) (ha : SA K W ms ta da)
    (hm : ∀ i, m = some i → ∀ σ H Q, te σ H Q → ∃ v, σ[i]? = some (some v) ∧ Q v H) (hm2 : ∀ i, m = some i → te = tVar i := by intro i h; cases h <;> rfl) : SA K W (m :: ms) (tCons te ta) (dCons de da) := fun S D H σ env Q P Ex o r d k x => by
  have main : ∀ (Qm : V → Prop), (∀ S' D' H' env' t v, Nxt W.g S D H S' D' H' → Rz K S' H' env' σ t v D' → Qm v → da env' (fun ts env2 => P (t :: ts) env2) Ex → (∀ i, m = some i → σ[i]? = some (some v)) → ta σ H' fun xs H2 => Q (v :: xs) H2) := by
    intro Qm S1 D1 H1 env1 t v n rz _ d1 hmv
    obtain ⟨E1, E2, dj, o1, n1, re, rv⟩ := rz.split n.ok
    refine ha S1 E1 H1 σ env1 _ _ Ex (o1.sm fun _ => .inl) re d1 (fun S2 D2 H2 env2 ts vs n2 rzs hms p => ?_) fun S2 D2 H2 env2 ex cls dd n2 re2 rx e => ?_
    · obtain ⟨F1, F2, dj2, o2, m2, re2, rvs⟩ := rzs.split n2.ok
      obtain ⟨fr, dj3, kk⟩ := Nxt.frame o1 dj (Nxt.trans (o1.sm fun _ => .inl) n2 m2)
      refine k _ _ _ _ _ _ (Nxt.trans o (Nxt.trans o n n1) fr) ⟨F1, fun a => E2 a ∨ F2 a, fun a h1 h2 => ?_, fun a h => .inl (.inl h), fun a h => h.elim .inr fun z => .inl (.inr z), re2, ?_⟩ ⟨by simp [hms.1], fun j i e => ?_⟩ p
      · exact h2.elim (fun z => dj3 a (.inl h1) z) fun z => dj2 a h1 z
      · exact Rs.cons (fun a h1 h2 => dj3 a (.inr h2) h1) (fun _ => .inl) (fun _ => .inr) (rv.mono fr.fs (fun b ob hb e => kk b ob hb e) fun _ h => h) rvs
      · rcases j with _ | j
        · have e : m = some i := by simpa using e
          exact ⟨v, hmv i e, rfl⟩
        · exact hms.2 j i (by simpa using e)
    · obtain ⟨fr, dj3, kk⟩ := Nxt.frame o1 dj n2
      exact x _ _ _ _ _ _ _ (Nxt.trans o (Nxt.trans o n n1) fr) (re2.mono (.refl _) (fun _ _ _ e => e) fun _ h => .inl h) rx e
  cases hmm : m with
  | none =>
    refine h S D H σ env _ _ Ex o r d (fun S' D' H' env' t v n rz p => ?_) x
    exact main (fun _ => True) _ _ _ _ _ _ n rz trivial p (fun i e => by rw [hmm] at e; cases e)
  | some i =>
    have e := hm2 i hmm
    subst e
    show tVar i σ H fun v H1 => ta σ H1 fun xs H2 => Q (v :: xs) H2
    have h2 : tVar i σ H fun v H1 => (σ[i]? = some (some v)) → ta σ H1 fun xs H2 => Q (v :: xs) H2 := by
      refine h S D H σ env _ _ Ex o r d (fun S' D' H' env' t v n rz p => fun ev => ?_) x
      exact main (fun _ => True) _ _ _ _ _ _ n rz trivial p (fun j e => by rw [hmm] at e; cases e; exact ev)
    obtain ⟨v, ev, q⟩ := h2
    exact ⟨v, ev, q ev⟩
theorem a_nil : TPA X W [] [] dNil := ⟨_, pa_nil, sa_nil⟩
theorem a_cons {e : Expr} {es : List Expr} {de : DE} {da : DA} {ms : List (Option Nat)} (h : TPE X W e de) (ha : TPA X W ms es da) (hs : starEach (e :: es) X.env = (false, eval e X.env) :: starEach es X.env := by rfl) : TPA X W (none :: ms) (e :: es) (dCons de da) :=
  let ⟨te, h1, h2⟩ := h; let ⟨ta, a1, a2⟩ := ha; ⟨_, pa_cons h1 a1 hs, sa_cons none h2 a2 (fun _ h => by cases h) (fun _ h => by cases h)⟩
theorem a_mv {i : Nat} {x : Str} {es : List Expr} {da : DA} {ms : List (Option Nat)} (ha : TPA X W ms es da) (hN : X.N[i]? = some x) (hv : Vis X.env.scope x) (hs : starEach (.Name x pos :: es) X.env = (false, eval (.Name x pos) X.env) :: starEach es X.env := by rfl) (hd : (x == ("__debug__" : Str)) = false := by decide) (hcd : (x == ("__classdict__" : Str)) = false := by decide) : TPA X W (some i :: ms) (.Name x pos :: es) (dCons (dMv i) da) :=
  let ⟨ta, a1, a2⟩ := ha; ⟨_, pa_cons (pe_var hN hv hd hcd) a1 hs, sa_cons (some i) se_Mv a2 (fun j h σ H Q q => by cases h; obtain ⟨v, e, z⟩ := q; exact ⟨v, e, z⟩) (fun j h => by cases h; rfl)⟩
/-! ### new tuples and lists -/
def dNew (k : Kd) (da : DA) : DE := fun env P Ex => da env (fun ts env1 => ts.length ≤ sizeLine ∧ P (.nd true k ts) env1) Ex
theorem new_node {K : PySem.W.Frag} {S H : Hp} {D D1 D2 : AP} {σ : L2.St} {env : Env} {ts : List T} {vs : List V} {k : Kd} {u : HO} {p : Addr} {G : Gm} (o : Ok G S D H) (hp : H p = none) (rz : Rzs K S H env σ ts vs D) (hk : k.is u vs) (hn : k.ln vs.length) :
    ∃ D', Nxt G S D H S D' (upd H p u) ∧ Rz K S (upd H p u) env σ (.nd true k ts) (.ref p) D' := by
  obtain ⟨D1, D2, dj, o1, n1, re, rv⟩ := rz.split o
  have sm : Same H (upd H p u) := Same.new hp
  obtain ⟨n2, dj2⟩ := Nxt.fresh (Dn := fun a => a = p) o1 sm fun a h => by subst h; exact ⟨hp, by rw [upd_same]; simp⟩
  have np : ∀ a, (D1 a ∨ D2 a) → a ≠ p := fun a h z => by subst z; exact (o1.dis _ h).2 hp
  refine ⟨_, Nxt.trans o n1 n2, D1, fun a => D2 a ∨ a = p, fun a h1 h2 => ?_, fun a h => .inl (.inl h), fun a h => h.elim (fun z => .inl (.inr z)) .inr, re.mono (.refl _) (fun a o _ e => sm _ _ e) fun _ h => h, ?_⟩
  · rcases h2 with h2 | h2
    · exact dj a h1 h2
    · exact np a (.inl h1) h2
  · exact R.node (.inr rfl) upd_same hk hn (rv.mono (.refl _) (fun a o _ e => sm _ _ e) fun a h => ⟨.inl h, np a (.inr h)⟩)
theorem t_tup {x1} {es : List Expr} {da : DA} {ms : List (Option Nat)} (h : TPA X W ms es da) : TPE X W (.Tuple es x1 pos) (dNew .tup da) := by
  obtain ⟨ta, h1, h2⟩ := h
  refine ⟨_, pe_tup h1, fun S D H σ env Q P Ex o r d k x => ?_⟩
  refine h2 S D H σ env _ _ Ex o r d (fun S' D' H' env' ts vs n rz _ ⟨hl, p⟩ => ⟨?_, fun a ha => ?_⟩) x
  · obtain ⟨_, _, _, _, _, _, r2⟩ := rz
    rw [← r2.shape]; exact hl
  · obtain ⟨D2, n2, r2⟩ := new_node (D1 := D) (D2 := D) (k := .tup) n.ok ha rz rfl trivial
    exact k _ _ _ _ _ _ (Nxt.trans o n n2) r2 p
theorem t_lst {es : List Expr} {da : DA} {ms : List (Option Nat)} (h : TPA X W ms es da) : TPE X W (.List es pos) (dNew .lst da) := by
  obtain ⟨ta, h1, h2⟩ := h
  refine ⟨_, pe_lst h1, fun S D H σ env Q P Ex o r d k x => ?_⟩
  refine h2 S D H σ env _ _ Ex o r d (fun S' D' H' env' ts vs n rz _ ⟨hl, p⟩ => ⟨?_, fun a ha => ?_⟩) x
  · obtain ⟨_, _, _, _, _, _, r2⟩ := rz
    rw [← r2.shape]; exact hl
  · obtain ⟨D2, n2, r2⟩ := new_node (D1 := D) (D2 := D) (k := .lst) n.ok ha rz rfl trivial
    exact k _ _ _ _ _ _ (Nxt.trans o n n2) r2 p
end
end Tr

set_option Elab.async false
set_option linter.all false
set_option maxRecDepth 100000
set_option maxHeartbeats 1000000
set_option autoImplicit false
namespace Tr
open PySem PySem.Spec PyProof.Rows L2 Cm
/-! ### tests -/
def dT (de : DE) : DB := fun env P Ex => de env (fun t env' => ∃ b, t = .lf (.bl b) ∧ P b env') Ex
theorem SE.test {K : PySem.W.Frag} {W : Wc} {te : TE} {de : DE} (h : SE K W te de) : SB K W (tTest te) (dT de) := fun S D H σ env Q P Ex o r d k x =>
  h S D H σ env _ _ Ex o r d (fun S' D' H' env' t v n rz ⟨b, e, p⟩ => by
    subst e
    obtain ⟨D1, D2, dj, s1, s2, re, rv⟩ := rz
    cases rv
    exact ⟨b, rfl, k _ _ _ _ _ n (re.mono (.refl _) (fun _ _ _ e => e) s1) p⟩) x
/-- a value's truth -/
def T.tru : T → Option Bool
  | .lf .non => some false
  | .lf (.bl b) => some b
  | .lf (.int i) => some (i != 0)
  | .lf (.str x) => if x.length ≤ sizeLine then some ((x.length : Int) != 0) else none
  | .nd _ .lst xs => some (!xs.isEmpty)
  | .nd false .seq xs => some (!xs.isEmpty)
  | .nd _ .tup xs => some (!xs.isEmpty)
  | .nd false .tpk xs => some (!xs.isEmpty)
  | .nd true (.dk ks) xs => some (!xs.isEmpty)
  | _ => none
theorem emp_len {α β : Type} : ∀ {xs : List α} {ys : List β}, xs.length = ys.length → xs.isEmpty = ys.isEmpty
  | [], [], _ => rfl
  | [], _ :: _, h => by simp at h
  | _ :: _, [], h => by simp at h
  | _ :: _, _ :: _, _ => rfl
theorem tru_v {K : PySem.W.Frag} {S H : Hp} {t : T} {v : V} {D : AP} {b : Bool} (s : Same S H) (r : R K S H t v D) (h : t.tru = some b) : TruV K v H b := by
  cases r with
  | lf =>
    cases v <;> simp [T.tru] at h
    · first | exact h | exact h.symm
    · first | exact h | exact h.symm
    · first | exact h | exact h.symm
    · exact ⟨h.1, h.2.symm⟩
  | @own a u k xs vs D Df hD e hk hn hl h1 h2 h3 =>
    cases k with
    | lst => cases hk; simp only [T.tru, Option.some.injEq] at h; subst h; exact .inl ⟨vs, .of e, by rw [emp_len hl]⟩
    | tup => cases hk; simp only [T.tru, Option.some.injEq] at h; subst h; exact .inr (.inl ⟨vs, .of e, by rw [emp_len hl]⟩)
    | dk ks => cases hk; simp only [T.tru, Option.some.injEq] at h; subst h; exact .inr (.inr ⟨_, e, by rw [emp_len (ys := vs) hl, ← emp_len (xs := ks.zip vs) (ys := vs)]; simp [show ks.length = vs.length from hn.1]⟩)
    | _ => simp [T.tru] at h
  | @fz a k xs vs D hk hn hl h3 =>
    cases k with
    | lst => simp only [T.tru, Option.some.injEq] at h; subst h; exact .inl ⟨vs, .of (s _ _ hk), by rw [emp_len hl]⟩
    | seq => simp only [T.tru, Option.some.injEq] at h; subst h; exact .inl ⟨vs, s.seq hk, by rw [emp_len hl]⟩
    | tup => simp only [T.tru, Option.some.injEq] at h; subst h; exact .inr (.inl ⟨vs, .of (s _ _ hk), by rw [emp_len hl]⟩)
    | tpk => simp only [T.tru, Option.some.injEq] at h; subst h; exact .inr (.inl ⟨vs, Same.sqt s hk, by rw [emp_len hl]⟩)
    | _ => simp [T.tru] at h
def dTr (de : DE) : DB := fun env P Ex => de env (fun t env' => ∃ b, t.tru = some b ∧ P b env') Ex
section
variable {X : Cx} {W : Wc} {io : List Nat} {pos : Pos}
theorem b_tr {e : Expr} {de : DE} (h : TPE X W e de) (he : ∀ whole, isTrue e X.env whole = (do let v ← whole; standAt e.pos; holding [v] (truthy v)) := by intro _; rfl) : TPB X W e (dTr de) := by
  obtain ⟨te, h1, h2⟩ := h
  refine ⟨_, pt_truth h1 he, fun S D H σ env Q P Ex o r d k x => h2 S D H σ env _ _ Ex o r d (fun S' D' H' env' t v n rz ⟨b, e, p⟩ => ?_) x⟩
  obtain ⟨D1, D2, dj, s1, s2, re, rv⟩ := rz
  exact ⟨b, tru_v n.ok.sub rv e, k _ _ _ _ _ n (re.mono (.refl _) (fun _ _ _ e => e) s1) p⟩
def dNot (db : DB) : DB := fun env P Ex => db env (fun b env' => P (!b) env') Ex
theorem b_not {e : Expr} {db : DB} (h : TPB X W e db) : TPB X W (.UnaryOp .Not e pos) (dNot db) := by
  obtain ⟨tt, h1, h2⟩ := h
  exact ⟨_, pt_not h1, fun S D H σ env Q P Ex o r d k x => h2 S D H σ env _ _ Ex o r d (fun S' D' H' env' b n re p => k _ _ _ _ _ n re p) x⟩
def dAnd (a b : DB) : DB := fun env P Ex => a env (fun c env' => if c = true then b env' P Ex else P false env') Ex
def dOr (a b : DB) : DB := fun env P Ex => a env (fun c env' => if c = true then P true env' else b env' P Ex) Ex
/-- a test within and, or -/
def TPW (X : Cx) (W : Wc) (e : Expr) (db : DB) : Prop := ∃ tt, PW X e tt ∧ SB X.K W tt db
theorem w_and1 {a : Expr} {db : DB} (h : TPB X W a db) : TPW X W (.BoolOp .And [a] pos) db := let ⟨_, h1, h2⟩ := h; ⟨_, pw_and1 h1, h2⟩
theorem w_or1 {a : Expr} {db : DB} (h : TPB X W a db) : TPW X W (.BoolOp .Or [a] pos) db := let ⟨_, h1, h2⟩ := h; ⟨_, pw_or1 h1, h2⟩
theorem w_and {a b : Expr} {rest : List Expr} {da db : DB} (ha : TPB X W a da) (hb : TPW X W (.BoolOp .And (b :: rest) pos) db) : TPW X W (.BoolOp .And (a :: b :: rest) pos) (dAnd da db) := by
  obtain ⟨ta, a1, a2⟩ := ha
  obtain ⟨tb, b1, b2⟩ := hb
  refine ⟨_, pw_and a1 b1, fun S D H σ env Q P Ex o r d k x => a2 S D H σ env _ _ Ex o r d (fun S' D' H' env' c n re p => ?_) x⟩
  cases c with
  | true => exact b2 S' D' H' σ env' Q P Ex n.ok re p (fun _ _ _ _ _ n2 => k _ _ _ _ _ (Nxt.trans o n n2)) (x.go o n)
  | false => exact k _ _ _ _ _ n re p
theorem w_or {a b : Expr} {rest : List Expr} {da db : DB} (ha : TPB X W a da) (hb : TPW X W (.BoolOp .Or (b :: rest) pos) db) : TPW X W (.BoolOp .Or (a :: b :: rest) pos) (dOr da db) := by
  obtain ⟨ta, a1, a2⟩ := ha
  obtain ⟨tb, b1, b2⟩ := hb
  refine ⟨_, pw_or a1 b1, fun S D H σ env Q P Ex o r d k x => a2 S D H σ env _ _ Ex o r d (fun S' D' H' env' c n re p => ?_) x⟩
  cases c with
  | false => exact b2 S' D' H' σ env' Q P Ex n.ok re p (fun _ _ _ _ _ n2 => k _ _ _ _ _ (Nxt.trans o n n2)) (x.go o n)
  | true => exact k _ _ _ _ _ n re p
theorem b_w {e : Expr} {db : DB} (h : TPW X W e db) : TPB X W e db := let ⟨_, h1, h2⟩ := h; ⟨_, h1.pt, h2⟩
/-- and, or, not as values (of truths) -/
def dAndV (a b : DE) : DE := fun env P Ex => a env (fun t env' => ∃ c, t = .lf (.bl c) ∧ if c = true then b env' P Ex else P (.lf (.bl false)) env') Ex
def dOrV (a b : DE) : DE := fun env P Ex => a env (fun t env' => ∃ c, t = .lf (.bl c) ∧ if c = true then P (.lf (.bl true)) env' else b env' P Ex) Ex
def dNotV (a : DE) : DE := fun env P Ex => a env (fun t env' => ∃ c, t = .lf (.bl c) ∧ P (.lf (.bl (!c))) env') Ex
theorem t_one {op} {a : Expr} {de : DE} (h : TPE X W a de) : TPE X W (.BoolOp op [a] pos) de := let ⟨_, h1, h2⟩ := h; ⟨_, pe_one h1, h2⟩
theorem Rz.bl {K : PySem.W.Frag} {S H : Hp} {env : Env} {σ : L2.St} {c : Bool} {v : V} {D : AP} (rz : Rz K S H env σ (.lf (.bl c)) v D) : v = .bl c ∧ Re K S H env σ D := by
  obtain ⟨D1, D2, dj, s1, s2, re, rv⟩ := rz
  cases rv
  exact ⟨rfl, re.mono (.refl _) (fun _ _ _ e => e) s1⟩
theorem t_and {a b : Expr} {rest : List Expr} {da db : DE} (ha : TPE X W a da) (hb : TPE X W (.BoolOp .And (b :: rest) pos) db) : TPE X W (.BoolOp .And (a :: b :: rest) pos) (dAndV da db) := by
  obtain ⟨ta, a1, a2⟩ := ha
  obtain ⟨tb, b1, b2⟩ := hb
  refine ⟨_, pe_and a1 b1, fun S D H σ env Q P Ex o r d k x => a2 S D H σ env _ _ Ex o r d (fun S' D' H' env' t v n rz ⟨c, e, p⟩ => ?_) x⟩
  subst e
  obtain ⟨rfl, re⟩ := rz.bl
  refine ⟨c, rfl, ?_⟩
  cases c with
  | true => exact b2 S' D' H' σ env' Q P Ex n.ok re p (k.go o n) (x.go o n)
  | false => exact k _ _ _ _ _ _ n (.lf re) p
theorem t_or {a b : Expr} {rest : List Expr} {da db : DE} (ha : TPE X W a da) (hb : TPE X W (.BoolOp .Or (b :: rest) pos) db) : TPE X W (.BoolOp .Or (a :: b :: rest) pos) (dOrV da db) := by
  obtain ⟨ta, a1, a2⟩ := ha
  obtain ⟨tb, b1, b2⟩ := hb
  refine ⟨_, pe_or a1 b1, fun S D H σ env Q P Ex o r d k x => a2 S D H σ env _ _ Ex o r d (fun S' D' H' env' t v n rz ⟨c, e, p⟩ => ?_) x⟩
  subst e
  obtain ⟨rfl, re⟩ := rz.bl
  refine ⟨c, rfl, ?_⟩
  cases c with
  | false => exact b2 S' D' H' σ env' Q P Ex n.ok re p (k.go o n) (x.go o n)
  | true => exact k _ _ _ _ _ _ n (.lf re) p
theorem t_not {a : Expr} {da : DE} (ha : TPE X W a da) : TPE X W (.UnaryOp .Not a pos) (dNotV da) := by
  obtain ⟨ta, a1, a2⟩ := ha
  refine ⟨_, pe_not a1, fun S D H σ env Q P Ex o r d k x => a2 S D H σ env _ _ Ex o r d (fun S' D' H' env' t v n rz ⟨c, e, p⟩ => ?_) x⟩
  subst e
  obtain ⟨rfl, re⟩ := rz.bl
  exact ⟨c, rfl, k _ _ _ _ _ _ n (.lf re) p⟩
def dIfE (c : DB) (a b : DE) : DE := fun env P Ex => c env (fun z env' => if z = true then a env' P Ex else b env' P Ex) Ex
theorem t_if {c a b : Expr} {dc : DB} {da db : DE} (hc : TPB X W c dc) (ha : TPE X W a da) (hb : TPE X W b db) : TPE X W (.IfExp c a b pos) (dIfE dc da db) := by
  obtain ⟨tc, c1, c2⟩ := hc
  obtain ⟨ta, a1, a2⟩ := ha
  obtain ⟨tb, b1, b2⟩ := hb
  refine ⟨_, pe_ifExp c1 a1 b1, fun S D H σ env Q P Ex o r d k x => c2 S D H σ env _ _ Ex o r d (fun S' D' H' env' z n re p => ?_) x⟩
  cases z with
  | true => exact a2 S' D' H' σ env' Q P Ex n.ok re p (k.go o n) (x.go o n)
  | false => exact b2 S' D' H' σ env' Q P Ex n.ok re p (k.go o n) (x.go o n)
/-! ### statements -/
def dSkip : DS := fun DT env => DT.nx env
def dSeq (a b : DS) : DS := fun DT env => a { DT with nx := b DT } env
theorem ss_skip {K : PySem.W.Frag} : SS K W io tNext dSkip := fun S D H σ0 σ env DT DD o r i d l => l.nx _ _ _ _ _ (Nxt.refl o) r i d
theorem ss_seq {K : PySem.W.Frag} {ta tb : TS} {da db : DS} (a : SS K W io ta da) (b : SS K W io tb db) : SS K W io (tSeq ta tb) (dSeq da db) := fun S D H σ0 σ env DT DD o r i d l =>
  a S D H σ0 σ env _ _ o r i d ⟨fun S' D' H' env' σ' n re i' p => b S' D' H' σ0 σ' env' DT DD n.ok re i' p (l.go o n), l.bk, l.ct, l.rt, l.ex⟩
theorem p_nil : TPSs X W io [] dSkip := ⟨_, pss_nil, ss_skip⟩
theorem p_cons {st : Stmt} {rest : List Stmt} {da db : DS} (a : TPS X W io st da) (b : TPSs X W io rest db) : TPSs X W io (st :: rest) (dSeq da db) := let ⟨_, a1, a2⟩ := a; let ⟨_, b1, b2⟩ := b; ⟨_, pss_cons a1 b1, ss_seq a2 b2⟩
theorem p_one {st : Stmt} {da : DS} (a : TPS X W io st da) : TPSs X W io [st] da := let ⟨_, a1, a2⟩ := a; ⟨_, pss_one a1, a2⟩
theorem s_pass : TPS X W io (.Pass pos) dSkip := ⟨_, ps_pass, ss_skip⟩
def dRet (de : DE) : DS := fun DT env => de env DT.rt DT.ex
theorem s_ret {e : Expr} {de : DE} (h : TPE X W e de) : TPS X W io (.Return (some e) pos) (dRet de) := by
  obtain ⟨te, h1, h2⟩ := h
  exact ⟨_, ps_ret h1, fun S D H σ0 σ env DT DD o r i d l => h2 S D H σ env _ _ _ o r d (fun S' D' H' env' t v n rz p => l.rt _ _ _ _ _ _ _ n rz i p) (l.kx i)⟩
def dRetN : DS := fun DT env => DT.rt (.lf .non) env
theorem s_retN : TPS X W io (.Return none pos) dRetN := ⟨_, ps_retN, fun S D H σ0 σ env DT DD o r i d l => l.rt _ _ _ _ _ _ _ (Nxt.refl o) (.lf r) i d⟩
def dExpr (de : DE) : DS := fun DT env => de env (fun _ env' => DT.nx env') DT.ex
theorem s_expr {e : Expr} {de : DE} (h : TPE X W e de) (hs : swapsWith e none pos.line X.env = pure false := by rfl) : TPS X W io (.Expr e pos) (dExpr de) := by
  obtain ⟨te, h1, h2⟩ := h
  refine ⟨_, ps_expr h1 hs, fun S D H σ0 σ env DT DD o r i d l => h2 S D H σ env _ _ _ o r d (fun S' D' H' env' t v n rz p => ?_) (l.kx i)⟩
  obtain ⟨D1, D2, dj, s1, s2, re, rv⟩ := rz
  exact l.nx _ _ _ _ _ n (re.mono (.refl _) (fun _ _ _ e => e) s1) i p
def dIf (c : DB) (a b : DS) : DS := fun DT env => c env (fun z env' => if z = true then a DT env' else b DT env') DT.ex
theorem s_if {c : Expr} {a b : List Stmt} {dc : DB} {da db : DS} (hc : TPB X W c dc) (ha : TPSs X W io a da) (hb : TPSs X W io b db) : TPS X W io (.If c a b pos) (dIf dc da db) := by
  obtain ⟨tc, c1, c2⟩ := hc
  obtain ⟨ta, a1, a2⟩ := ha
  obtain ⟨tb, b1, b2⟩ := hb
  refine ⟨_, ps_if c1 a1 b1, fun S D H σ0 σ env DT DD o r i d l => c2 S D H σ env _ _ _ o r d (fun S' D' H' env' z n re p => ?_) (l.kx i)⟩
  cases z with
  | true => exact a2 S' D' H' σ0 σ env' DT DD n.ok re i p (l.go o n)
  | false => exact b2 S' D' H' σ0 σ env' DT DD n.ok re i p (l.go o n)
/-! ### targets -/
abbrev DG := T → Env → (Env → Prop) → Prop
/-- sl: the slots it may change -/
def SG (K : PySem.W.Frag) (sl : List Nat) (g : TG) (dg : DG) : Prop := ∀ (G : Gm) S D H σ env t v Q P, Ok G S D H → Rz K S H env σ t v D → dg t env P → (∀ S' D' env' σ', Nxt G S D H S' D' H → Re K S' H env' σ' D' → (σ'.length = σ.length ∧ ∀ i, i ∉ sl → σ'[i]? = σ[i]?) → P env' → Q σ' H) → g v σ H Q
def TPG (X : Cx) (sl : List Nat) (e : Expr) (dg : DG) : Prop := ∃ g, PG X e g ∧ SG X.K sl g dg
def gSet (i : Nat) : DG := fun t env P => P (env.set i (some t))
/-- the thing is frozen ahead -/
def gSetF (i : Nat) : DG := fun t env P => P (env.set i (some t.fz))
theorem sg_set {K : PySem.W.Frag} {i : Nat} : SG K [i] (gName i) (gSet i) := fun G S D H σ env t v Q P o rz d k => by
  obtain ⟨D1, D2, dj, s1, s2, re, rv⟩ := rz
  exact k S D _ _ (Nxt.refl o) (Re.put dj s1 s2 re i rv) ⟨by simp, fun j hj => List.getElem?_set_ne (by simpa [eq_comm] using hj)⟩ d
theorem sg_setF {K : PySem.W.Frag} {i : Nat} : SG K [i] (gName i) (gSetF i) := fun G S D H σ env t v Q P o rz d k => by
  obtain ⟨S2, D2, n2, r2, q2⟩ := rz.frz o
  exact k S2 D2 _ _ n2 (Re.put (fun _ _ h => h) (fun _ h => h) (fun _ h => h.elim) r2 i q2) ⟨by simp, fun j hj => List.getElem?_set_ne (by simpa [eq_comm] using hj)⟩ d
theorem g_set {i : Nat} {x : Str} (hN : X.N.Nodup) (hi : X.N[i]? = some x) (hx : Loc X.env.scope x) (hf : X.fn x = true ∨ X.env.scope.names.lookup x = some .local := by first | exact .inl rfl | exact .inr rfl | assumption) : TPG X [i] (.Name x pos) (gSet i) := ⟨_, pg_name hN hi hx hf, sg_set⟩
theorem g_setF {i : Nat} {x : Str} (hN : X.N.Nodup) (hi : X.N[i]? = some x) (hx : Loc X.env.scope x) (hf : X.fn x = true ∨ X.env.scope.names.lookup x = some .local := by first | exact .inl rfl | exact .inr rfl | assumption) : TPG X [i] (.Name x pos) (gSetF i) := ⟨_, pg_name hN hi hx hf, sg_setF⟩
/-- (a, b, ..) -/
abbrev DGs := List T → Env → (Env → Prop) → Prop
def SGs (K : PySem.W.Frag) (sl : List Nat) (g : TGs) (dg : DGs) : Prop := ∀ (G : Gm) S D H σ env ts vs Q P, Ok G S D H → Rzs K S H env σ ts vs D → dg ts env P → (∀ S' D' env' σ', Nxt G S D H S' D' H → Re K S' H env' σ' D' → (σ'.length = σ.length ∧ ∀ i, i ∉ sl → σ'[i]? = σ[i]?) → P env' → Q σ' H) → g vs σ H Q
def TPGs (X : Cx) (sl : List Nat) (es : List Expr) (dg : DGs) : Prop := ∃ g, PGs X es g ∧ SGs X.K sl g dg
def gsNil : DGs := fun ts env P => ts = [] ∧ P env
def gsCons (g : DG) (gs : DGs) : DGs := fun ts env P => match ts with
  | [] => False
  | t :: ts => g t env fun env' => gs ts env' P
theorem gs_nil : TPGs X [] [] gsNil := ⟨_, pgs_nil, fun G S D H σ env ts vs Q P o rz d k => by
  obtain ⟨D1, D2, dj, s1, s2, re, rv⟩ := rz
  obtain ⟨rfl, d⟩ := d
  have : vs = [] := List.length_eq_zero_iff.mp rv.shape.symm
  exact ⟨this, k S D _ _ (Nxt.refl o) (re.mono (.refl _) (fun _ _ _ e => e) s1) ⟨rfl, fun _ _ => rfl⟩ d⟩⟩
theorem gs_cons {e : Expr} {es : List Expr} {s1 s2 : List Nat} {g : DG} {gs : DGs} (h : TPG X s1 e g) (hs : TPGs X s2 es gs) (ha : (assignEach (e :: es) X.env).map (·.2) = assign e X.env :: (assignEach es X.env).map (·.2) := by rfl) : TPGs X (s1 ++ s2) (e :: es) (gsCons g gs) := by
  obtain ⟨g1, a1, a2⟩ := h
  obtain ⟨g2, b1, b2⟩ := hs
  refine ⟨_, pgs_cons a1 b1 ha, fun G S D H σ env ts vs Q P o rz d k => ?_⟩
  obtain ⟨D1, D2, dj, o1, n1, re, rv⟩ := rz.split o
  cases ts with
  | nil => exact d.elim
  | cons t ts =>
    cases vs with
    | nil => exact absurd rv.shape (by simp)
    | cons v vs =>
      obtain ⟨E1, E2, dj2, x1, x2, q1, q2⟩ := rv.uncons
      have oo : Ok G S (fun a => (D1 a ∨ E1 a) ∨ E2 a) H := o1.sm fun a h => h.elim (fun z => z.elim .inl fun y => .inr (x1 a y)) fun z => .inr (x2 a z)
      have dd : Dj (fun a => D1 a ∨ E1 a) E2 := fun a h z => h.elim (fun y => dj a y (x2 a z)) fun y => dj2 a y z
      refine ⟨v, vs, rfl, a2 G S (fun a => D1 a ∨ E1 a) H σ env t v _ _ (oo.sm fun _ => .inl) (Rz.mk (fun a h z => dj a h (x1 a z)) re q1) d fun S2 D2' env2 σ2 n2 re2 hl p => ?_⟩
      obtain ⟨fr, dj3, kk⟩ := Nxt.frame oo dd n2
      have r3 : Rzs _ S2 H env2 σ2 ts vs (fun a => D2' a ∨ E2 a) := ⟨D2', E2, dj3, fun _ => .inl, fun _ => .inr, re2, q2.mono fr.fs (fun a ob h e => e) fun _ h => h⟩
      refine b2 G S2 _ H σ2 env2 ts vs _ _ fr.ok r3 p fun S4 D4 env4 σ4 n4 re4 hl4 p4 => ?_
      refine k _ _ _ _ (Nxt.trans o (Nxt.trans o n1 (Nxt.trans o1 (Nxt.shrink o1 fun a h => h.elim (fun z => z.elim .inl fun y => .inr (x1 a y)) fun z => .inr (x2 a z)) fr)) n4) re4 ⟨hl4.1.trans hl.1, fun i hi => ?_⟩ p4
      rw [List.mem_append, not_or] at hi
      exact (hl4.2 i hi.2).trans (hl.2 i hi.1)
def gTupl (n : Nat) (gs : DGs) : DG := fun t env P => match t with
  | .nd _ .tup ts => ts.length = n ∧ gs ts env P
  | .nd _ .tpk ts => ts.length = n ∧ gs ts env P
  | _ => False
theorem g_tup {es : List Expr} {j : Nat} {gs : DGs} {sl : List Nat} (n : Nat) (hc : X.calm = true) (h : TPGs X sl es gs) (hn : (assignEach es X.env).length = n := by rfl) (hst : (assignEach es X.env).findIdx? (·.1) = none := by rfl) : TPG X sl (.Tuple es j pos) (gTupl n gs) := by
  obtain ⟨g1, a1, a2⟩ := h
  refine ⟨_, pg_tup hc a1 hn hst, fun G S D H σ env t v Q P o rz d k => ?_⟩
  cases t with
  | lf v => exact d.elim
  | nd ow kd ts =>
    cases kd with
    | tup =>
      obtain ⟨hl, d⟩ := d
      obtain ⟨D1, D2, dj, o1, n1, re, rv⟩ := rz.split o
      have fin : ∀ a vs, v = .ref a → SqT X.K H a vs → Rs X.K S H ts vs D2 → gTup X.K n g1 v σ H Q := fun a vs e hq rs => ⟨a, vs, e, hq, by rw [← rs.shape]; exact hl, a2 G S _ H σ env ts vs _ _ o1 (Rzs.mk dj re rs) d fun S' D' env' σ' n2 => k _ _ _ _ (Nxt.trans o n1 n2)⟩
      cases rv with
      | @own a u k xs vs D Df hD e hk hn hl h1 h2 h3 => cases hk; exact fin a vs rfl (.of e) ⟨hl, Df, h1, fun i b h => (h2 i b h).1, h3⟩
      | @fz a k xs vs D hk hn hl h3 => exact fin a vs rfl (.of (o.sub _ _ hk)) (Rs.frozen hl h3)
    | tpk =>
      obtain ⟨hl, d⟩ := d
      obtain ⟨D1, D2, dj, o1, n1, re, rv⟩ := rz.split o
      have fin : ∀ a vs, v = .ref a → SqT X.K H a vs → Rs X.K S H ts vs D2 → gTup X.K n g1 v σ H Q := fun a vs e hq rs => ⟨a, vs, e, hq, by rw [← rs.shape]; exact hl, a2 G S _ H σ env ts vs _ _ o1 (Rzs.mk dj re rs) d fun S' D' env' σ' n2 => k _ _ _ _ (Nxt.trans o n1 n2)⟩
      cases rv with
      | @own a u k xs vs D Df hD e hk hn hl h1 h2 h3 => exact hk.elim
      | @fz a k xs vs D hk hn hl h3 => exact fin a vs rfl (Same.sqt o.sub hk) (Rs.frozen hl h3)
    | _ => exact d.elim
/-! ### assignments -/
def dAsg (de : DE) (dg : DG) : DS := fun DT env => de env (fun t env' => dg t env' DT.nx) DT.ex
theorem io_keep {io sl : List Nat} {σ0 σ σ' : L2.St} (i : IO io σ0 σ) (h : ∀ i, i ∉ sl → σ'[i]? = σ[i]?) (d : ∀ i ∈ io, i ∉ sl) : IO io σ0 σ' := fun j hj => (h j (d j hj)).trans (i j hj)
theorem ss_asg {K : PySem.W.Frag} {te : TE} {g : TG} {de : DE} {dg : DG} {sl : List Nat} (h : SE K W te de) (hg : SG K sl g dg) (d : ∀ i ∈ io, i ∉ sl) : SS K W io (tAsg te g) (dAsg de dg) := fun S D H σ0 σ env DT DD o r i dd l =>
  h S D H σ env _ _ _ o r dd (fun S' D' H' env' t v n rz p => hg _ S' D' H' σ env' t v _ _ n.ok rz p fun S2 D2 env2 σ2 n2 re2 hl p2 => l.nx _ _ _ _ _ (Nxt.trans o n n2) re2 (io_keep i hl.2 d) p2) (l.kx i)
theorem s_asg {tg e : Expr} {de : DE} {dg : DG} {sl : List Nat} (h : TPE X W e de) (hg : TPG X sl tg dg) (d : ∀ i ∈ io, i ∉ sl) (hs : swapsWithSole [tg] e pos.line X.env = pure false := by rfl) (hw : swappedStores [tg] e X.env = pure none := by rfl) (h0 : (assignEach [tg] X.env).map (·.2) = [assign tg X.env] := by rfl) : TPS X W io (.Assign [tg] e pos) (dAsg de dg) := by
  obtain ⟨te, h1, h2⟩ := h
  obtain ⟨g, g1, g2⟩ := hg
  exact ⟨_, ps_asg h1 g1 hs hw h0, ss_asg h2 g2 d⟩
theorem s_set {i : Nat} {x : Str} {e : Expr} {de : DE} {pos' : Pos} (h : TPE X W e de) (hN : X.N.Nodup) (hi : X.N[i]? = some x) (hx : Loc X.env.scope x) (d : ∀ j ∈ io, j ∉ [i]) (hs : swapsWith e (some (.Name x pos')) pos.line X.env = pure false := by rfl) (hf : X.fn x = true ∨ X.env.scope.names.lookup x = some .local := by first | exact .inl rfl | exact .inr rfl | assumption) : TPS X W io (.Assign [.Name x pos'] e pos) (dAsg de (gSet i)) := by
  obtain ⟨te, h1, h2⟩ := h
  exact ⟨_, ps_set hN hi hx h1 hs hf, ss_asg h2 sg_set d⟩
theorem s_setF {i : Nat} {x : Str} {e : Expr} {de : DE} {pos' : Pos} (h : TPE X W e de) (hN : X.N.Nodup) (hi : X.N[i]? = some x) (hx : Loc X.env.scope x) (d : ∀ j ∈ io, j ∉ [i]) (hs : swapsWith e (some (.Name x pos')) pos.line X.env = pure false := by rfl) (hf : X.fn x = true ∨ X.env.scope.names.lookup x = some .local := by first | exact .inl rfl | exact .inr rfl | assumption) : TPS X W io (.Assign [.Name x pos'] e pos) (dAsg de (gSetF i)) := by
  obtain ⟨te, h1, h2⟩ := h
  exact ⟨_, ps_set hN hi hx h1 hs hf, ss_asg h2 sg_setF d⟩
end
end Tr

set_option Elab.async false
set_option linter.all false
set_option maxRecDepth 100000
set_option maxHeartbeats 1000000
set_option autoImplicit false
namespace Tr
open PySem PySem.Spec PyProof.Rows L2 Cm
/-! ### walks -/
abbrev DI := Env → PLs → PT1 → Prop
/-- a walk gives the trees items, whatever comes to the heap meanwhile (S stands) -/
def Wk (K : PySem.W.Frag) (S : Hp) (J : It) (items : List T) : Prop := ∃ (G : Hp → Prop) (Y : Nat → Hp → V → Hp → Prop), Walk J items.length G Y ∧ (∀ S' H, Sle S S' → Same S' H → G H) ∧
  ∀ i H x H' t, items[i]? = some t → Y i H x H' → ∃ Dn : AP, (∀ a, Dn a → H a = none ∧ H' a ≠ none) ∧ Same H H' ∧ ∀ S' : Hp, Sle S S' → Same S' H → R K S' H' t x Dn
def SI (K : PySem.W.Frag) (W : Wc) (wi : TI) (di : DI) : Prop := ∀ S D H σ env (Q : It → Hp → Prop) P Ex, Ok W.g S D H → Re K S H env σ D → di env P Ex →
  (∀ S' D' H' env' items J, Nxt W.g S D H S' D' H' → Re K S' H' env' σ D' → Wk K S' J items → P items env' → Q J H') → KX_ K W S D H σ Ex → wi σ H Q
def TPI (X : Cx) (W : Wc) (tg e : Expr) (di : DI) : Prop := ∃ wi, PI X tg e wi ∧ SI X.K W wi di
/-- over a list, a tuple (frozen) -/
def dItems (de : DE) : DI := fun env P Ex => de env (fun t env' => match t.fz with
  | .nd _ .lst ts => P ts env'
  | _ => False) Ex
def dItemsT (de : DE) : DI := fun env P Ex => de env (fun t env' => match t.fz with
  | .nd _ .tup ts => P ts env'
  | .nd _ .tpk ts => P ts env'
  | _ => False) Ex
theorem seq_le {K : PySem.W.Frag} {S S' : Hp} {a : Addr} {vs : List V} (s : Sle S S') (h : SqL K S a vs) : SqL K S' a vs := Kd.fz_le (k := .seq) s h
theorem sqt_le {K : PySem.W.Frag} {S S' : Hp} {a : Addr} {vs : List V} (s : Sle S S') (h : SqT K S a vs) : SqT K S' a vs := Kd.fz_le (k := .tpk) s h
theorem wk_list {K : PySem.W.Frag} {S : Hp} {a : Addr} {vs : List V} {ts : List T} (h : SqL K S a vs) (hl : ts.length = vs.length) (r : ∀ (i : Nat) (t : T) (v : V), ts[i]? = some t → vs[i]? = some v → R K S S t v no) : Wk K S (Itl K a) ts := by
  refine ⟨_, _, by rw [hl]; exact walk_list (xs := vs), fun S' H s1 s => s.seq (seq_le s1 h), fun i H x H' t e y => ?_⟩
  obtain ⟨rfl, ex⟩ := y
  exact ⟨no, fun _ h => h.elim, Same.refl _, fun S' s1 s2 => (r i t x e ex).mono s1 (fun _ _ h => h.elim) fun _ h => h⟩
theorem wk_tup {K : PySem.W.Frag} {S : Hp} {a : Addr} {vs : List V} {ts : List T} (h : SqT K S a vs) (hl : ts.length = vs.length) (r : ∀ (i : Nat) (t : T) (v : V), ts[i]? = some t → vs[i]? = some v → R K S S t v no) : Wk K S (Itt K a) ts := by
  refine ⟨_, _, by rw [hl]; exact walk_tup (xs := vs), fun S' H s1 s => Same.sqt s (sqt_le s1 h), fun i H x H' t e y => ?_⟩
  obtain ⟨rfl, ex⟩ := y
  exact ⟨no, fun _ h => h.elim, Same.refl _, fun S' s1 s2 => (r i t x e ex).mono s1 (fun _ _ h => h.elim) fun _ h => h⟩
section
variable {X : Cx} {W : Wc} {io : List Nat} {pos : Pos} {tg : Expr}
theorem i_list {e : Expr} {de : DE} (h : TPE X W e de) : TPI X W tg e (dItems de) := by
  obtain ⟨te, h1, h2⟩ := h
  refine ⟨_, pi_list h1, fun S D H σ env Q P Ex o r d k x => h2 S D H σ env _ _ Ex o r d (fun S' D' H' env' t v n rz p => ?_) x⟩
  obtain ⟨S2, D2, n2, r2, q2⟩ := rz.frz n.ok
  cases t with
  | lf v => simp only [T.fz_lf] at p
  | nd ow kd ts =>
    rw [T.fz_nd] at p q2
    cases kd with
    | lst =>
      cases q2 with
      | fz hk hn hl h3 => exact ⟨_, rfl, ⟨_, .of (n2.ok.sub _ _ hk)⟩, k _ _ _ _ _ _ (Nxt.trans o n n2) r2 (wk_list (.of hk) hl fun i t v e1 e2 => (h3 i t v e1 e2).mono (.refl _) (fun _ _ h => h.elim) fun _ h => h) p⟩
    | _ => exact p.elim
theorem i_tup {e : Expr} {de : DE} (h : TPE X W e de) : TPI X W tg e (dItemsT de) := by
  obtain ⟨te, h1, h2⟩ := h
  refine ⟨_, pi_tup h1, fun S D H σ env Q P Ex o r d k x => h2 S D H σ env _ _ Ex o r d (fun S' D' H' env' t v n rz p => ?_) x⟩
  obtain ⟨S2, D2, n2, r2, q2⟩ := rz.frz n.ok
  cases t with
  | lf v => simp only [T.fz_lf] at p
  | nd ow kd ts =>
    rw [T.fz_nd] at p q2
    cases kd with
    | tup =>
      cases q2 with
      | fz hk hn hl h3 => exact ⟨_, rfl, ⟨_, .of (n2.ok.sub _ _ hk)⟩, k _ _ _ _ _ _ (Nxt.trans o n n2) r2 (wk_tup (.of hk) hl fun i t v e1 e2 => (h3 i t v e1 e2).mono (.refl _) (fun _ _ h => h.elim) fun _ h => h) p⟩
    | tpk =>
      cases q2 with
      | fz hk hn hl h3 => exact ⟨_, rfl, ⟨_, Same.sqt n2.ok.sub hk⟩, k _ _ _ _ _ _ (Nxt.trans o n n2) r2 (wk_tup hk hl fun i t v e1 e2 => (h3 i t v e1 e2).mono (.refl _) (fun _ _ h => h.elim) fun _ h => h) p⟩
    | _ => exact p.elim
def irg (lo : Int) (n : Nat) : List T := (List.range n).map fun i => .lf (.int (lo + (i : Nat)))
theorem wk_range {K : PySem.W.Frag} {S : Hp} {lo : Int} {n : Nat} : Wk K S (Itr lo n) (irg lo n) := by
  refine ⟨_, _, by unfold irg; rw [List.length_map, List.length_range]; exact walk_range, fun _ _ _ _ => trivial, fun i H x H' t e y => ?_⟩
  obtain ⟨rfl, rfl⟩ := y
  refine ⟨no, fun _ h => h.elim, Same.refl _, fun S' s1 s2 => ?_⟩
  unfold irg at e
  rw [List.getElem?_map] at e
  cases q : (List.range n)[i]? with
  | none => rw [q] at e; cases e
  | some j =>
    rw [q] at e
    rw [List.getElem?_eq_some_iff] at q
    obtain ⟨_, q⟩ := q
    rw [List.getElem_range] at q
    subst q
    cases e
    exact .lf
def dRng1 (da : DA) : DI := fun env P Ex => da env (fun ts env' => match ts with
  | [.lf (.int j)] => (-(2 ^ 62) ≤ j ∧ j < 2 ^ 62) ∧ P (irg 0 j.toNat) env'
  | _ => False) Ex
def dRng2 (da : DA) : DI := fun env P Ex => da env (fun ts env' => match ts with
  | [.lf (.int i), .lf (.int j)] => (-(2 ^ 62) ≤ i ∧ i < 2 ^ 62 ∧ -(2 ^ 62) ≤ j ∧ j < 2 ^ 62) ∧ P (irg i (j - i).toNat) env'
  | _ => False) Ex
theorem rs_lf {K : PySem.W.Frag} {S H : Hp} {vs : List V} {D : AP} : ∀ {us : List V}, Rs K S H (us.map T.lf) vs D → vs = us := by
  intro us
  induction us generalizing vs D with
  | nil => intro r; exact List.length_eq_zero_iff.mp r.shape.symm
  | cons u us ih =>
    intro r
    cases vs with
    | nil => exact absurd r.shape (by simp)
    | cons v vs =>
      obtain ⟨_, _, _, _, _, q1, q2⟩ := Rs.uncons r
      cases q1
      rw [ih q2]
theorem i_rng1 {a : Expr} {da : DA} {ms : List (Option Nat)} {p : Pos} (hg : Gl X "range") (hm : X.mg "range" = none) (ha : TPA X W ms [a] da) (hs : starEach [a] X.env = [(false, eval a X.env)] := by rfl) : TPI X W tg (.Call (.Name "range" p) [a] [] pos) (dRng1 da) := by
  obtain ⟨ta, h1, h2⟩ := ha
  refine ⟨_, pi_range1 hg hm h1 hs, fun S D H σ env Q P Ex o r d k x => h2 S D H σ env _ _ Ex o r d (fun S' D' H' env' ts vs n rzs _ p => ?_) x⟩
  obtain ⟨D1, D2, dj, o1, n1, re, rv⟩ := rzs.split n.ok
  split at p
  · rename_i j
    obtain ⟨⟨b1, b2⟩, p⟩ := p
    exact ⟨j, rs_lf (us := [.int j]) rv, b1, b2, k _ _ _ _ _ _ (Nxt.trans o n n1) (re.mono (.refl _) (fun _ _ _ e => e) fun _ => .inl) wk_range p⟩
  · exact p.elim
theorem i_rng2 {a b : Expr} {da : DA} {ms : List (Option Nat)} {p : Pos} (hg : Gl X "range") (hm : X.mg "range" = none) (ha : TPA X W ms [a, b] da) (hs : starEach [a, b] X.env = [(false, eval a X.env), (false, eval b X.env)] := by rfl) (hs2 : starEach [b] X.env = [(false, eval b X.env)] := by rfl) : TPI X W tg (.Call (.Name "range" p) [a, b] [] pos) (dRng2 da) := by
  obtain ⟨ta, h1, h2⟩ := ha
  refine ⟨_, pi_range2 hg hm h1 hs hs2, fun S D H σ env Q P Ex o r d k x => h2 S D H σ env _ _ Ex o r d (fun S' D' H' env' ts vs n rzs _ p => ?_) x⟩
  obtain ⟨D1, D2, dj, o1, n1, re, rv⟩ := rzs.split n.ok
  split at p
  · rename_i i j
    obtain ⟨b, p⟩ := p
    exact ⟨i, j, rs_lf (us := [.int i, .int j]) rv, b, k _ _ _ _ _ _ (Nxt.trans o n n1) (re.mono (.refl _) (fun _ _ _ e => e) fun _ => .inl) wk_range p⟩
  · exact p.elim
/-! ### for -/
def dLoop (dg : DG) (db : DS) (DT : DEnds) : List T → Env → Prop
  | [] => DT.nx
  | x :: xs => fun env => dg x env fun env2 => db { DT with nx := dLoop dg db DT xs, ct := dLoop dg db DT xs, bk := DT.nx } env2
def dFor (di : DI) (dg : DG) (db : DS) : DS := fun DT env => di env (fun items env1 => dLoop dg db DT items env1) DT.ex
theorem s_for {iter : Expr} {body : List Stmt} {di : DI} {dg : DG} {db : DS} {sl : List Nat} (hp : PassesOwn (model X.prog X.w) X.A X.env X.xe) (hc : X.calm = true) (hi : TPI X W tg iter di) (hg : TPG X sl tg dg) (hb : TPSs X W io body db) (d : ∀ i ∈ io, i ∉ sl)
    (hs : ∀ x, foldedSetIterable iter X.env x = pure x := by intro _; rfl) : TPS X W io (.For tg iter body [] pos) (dFor di dg db) := by
  obtain ⟨wi, i1, i2⟩ := hi
  obtain ⟨g, g1, g2⟩ := hg
  obtain ⟨tb, b1, b2⟩ := hb
  refine ⟨_, ps_for hp hc i1 g1 b1 hs, fun S D H σ0 σ env DT DD o r i dd l => i2 S D H σ env _ _ _ o r dd (fun S1 D1 H1 env1 items J n re wk p => ?_) (l.kx i)⟩
  obtain ⟨G, Y, w, hG, hY⟩ := wk
  refine for_it w (fun j σ' H' => ∃ S' D' env', Nxt W.g S1 D1 H1 S' D' H' ∧ Re X.K S' H' env' σ' D' ∧ IO io σ0 σ' ∧ dLoop dg db DT (items.drop j) env') ⟨S1, D1, env1, Nxt.refl n.ok, re, i, by simpa using p⟩ ?_ ?_ ?_
  · rintro j σ' H' hj ⟨S', D', env', n', re', i', p'⟩
    exact hG S' H' n'.fs n'.ok.sub
  · rintro j x σ' H' H2 hj ⟨S', D', env', n', re', i', p'⟩ y
    obtain ⟨t, et⟩ : ∃ t, items[j]? = some t := ⟨_, List.getElem?_eq_getElem hj⟩
    obtain ⟨Dn, hn, s2, hr⟩ := hY j H' x H2 t et y
    have rx := hr S' n'.fs n'.ok.sub
    obtain ⟨n2, dj2⟩ := Nxt.fresh n'.ok s2 hn
    have e : items.drop j = t :: items.drop (j + 1) := by
      rw [List.getElem?_eq_some_iff] at et
      obtain ⟨h1, h2⟩ := et
      rw [← h2]
      exact List.drop_eq_getElem_cons h1
    rw [e] at p'
    have no' := Nxt.trans n.ok n' n2
    refine g2 _ S' _ H2 σ' env' t x _ _ n2.ok (Rz.mk dj2 (re'.mono (.refl _) (fun a ob _ e => s2 _ _ e) fun _ h => h) rx) p' fun S3 D3 env3 σ3 n3 re3 hl p3 => ?_
    have n13 := Nxt.trans n.ok no' n3
    have i3 := io_keep i' hl.2 d
    refine b2 S3 D3 H2 σ0 σ3 env3 _ _ n3.ok re3 i3 p3 ⟨fun S4 D4 H4 env4 σ4 n4 re4 i4 p4 => ⟨S4, D4, env4, Nxt.trans n.ok n13 n4, re4, i4, p4⟩, fun S4 D4 H4 env4 σ4 n4 re4 i4 p4 => ?_, fun S4 D4 H4 env4 σ4 n4 re4 i4 p4 => ⟨S4, D4, env4, Nxt.trans n.ok n13 n4, re4, i4, p4⟩, ?_, ?_⟩
    · exact l.nx _ _ _ _ _ (Nxt.trans o n (Nxt.trans n.ok n13 n4)) re4 i4 p4
    · exact fun S4 D4 H4 env4 σ4 t4 v4 n4 => l.rt _ _ _ _ _ _ _ (Nxt.trans o n (Nxt.trans n.ok n13 n4))
    · exact fun S4 D4 H4 env4 σ4 e4 c4 d4 n4 => l.ex _ _ _ _ _ _ _ _ (Nxt.trans o n (Nxt.trans n.ok n13 n4))
  · rintro σ' H' ⟨S', D', env', n', re', i', p'⟩
    rw [List.drop_length] at p'
    exact l.nx _ _ _ _ _ (Nxt.trans o n n') re' i' p'
/-! ### comprehensions -/
def wipeE (env : Env) : List Nat → Env
  | [] => env
  | i :: is => (wipeE env is).set i none
abbrev xno : PT1 := fun _ _ => False
def dCl (own : List Nat) (dg : DG) (dc : DB) (de : DE) (P : PT1) : List T → List T → Env → Prop
  | [], acc, env => P (.nd true .lst acc) env
  | x :: xs, acc, env => dg x env fun env2 => dc env2 (fun b env3 => if b = true then de env3 (fun t env4 => acc.length < sizeLine ∧ dCl own dg dc de P xs (acc ++ [t]) (wipeE env4 own)) xno else dCl own dg dc de P xs acc (wipeE env3 own)) xno
def dComp (own : List Nat) (di : DI) (dg : DG) (dc : DB) (de : DE) : DE := fun env P Ex => di env (fun items env1 => dCl own dg dc de P items [] (wipeE env1 own)) Ex
def dYes : DB := fun env P _ => P true env
/-- the tests of a comprehension -/
def TPTs (X : Cx) (W : Wc) (ifs : List Expr) (db : DB) : Prop := ∃ tt, PTs X ifs tt ∧ SB X.K W tt db
theorem c_yes : TPTs X W [] dYes := ⟨_, pts_nil, fun S D H σ env Q P Ex o r d k x => k _ _ _ _ _ (Nxt.refl o) r d⟩
theorem c_one {c : Expr} {db : DB} (h : TPB X W c db) : TPTs X W [c] db := let ⟨_, h1, h2⟩ := h; ⟨_, pts_one h1, h2⟩
end
theorem Re.wipe {K : PySem.W.Frag} {S H : Hp} {env : Env} {σ : L2.St} {D : AP} (r : Re K S H env σ D) : ∀ is : List Nat, Re K S H (wipeE env is) (L2.wipe σ is) D
  | [] => r
  | i :: is => (Re.wipe r is).drop i
theorem wipe_len (σ : L2.St) (is : List Nat) : (wipe σ is).length = σ.length := wipe_length σ is
theorem wipe_at (σ : L2.St) {is : List Nat} {j : Nat} (h : j ∉ is) : (wipe σ is)[j]? = σ[j]? := by
  induction is with
  | nil => rfl
  | cons i is ih =>
    rw [List.mem_cons, not_or] at h
    show ((wipe σ is).set i none)[j]? = _
    rw [List.getElem?_set_ne (Ne.symm h.1), ih h.2]
theorem wipe_in (σ : L2.St) {is : List Nat} {j : Nat} (h : j ∈ is) (hj : j < σ.length) : (wipe σ is)[j]? = some none := by
  induction is with
  | nil => cases h
  | cons i is ih =>
    show ((wipe σ is).set i none)[j]? = _
    by_cases e : j = i
    · subst e
      rw [List.getElem?_set_self (by rw [wipe_len]; exact hj)]
    · rw [List.getElem?_set_ne (Ne.symm e)]
      rcases List.mem_cons.mp h with h | h
      · exact absurd h e
      · exact ih h
theorem wipe_eq {σ σ' : L2.St} {is : List Nat} (hl : σ'.length = σ.length) (h : ∀ i, i ∉ is → σ'[i]? = σ[i]?) : wipe σ' is = wipe σ is := by
  apply List.ext_getElem?
  intro j
  by_cases hj : j ∈ is
  · by_cases hb : j < σ.length
    · rw [wipe_in σ' hj (by omega), wipe_in σ hj hb]
    · rw [List.getElem?_eq_none (by rw [wipe_len]; omega), List.getElem?_eq_none (by rw [wipe_len]; omega)]
  · rw [wipe_at σ' hj, wipe_at σ hj, h j hj]
theorem wipe_wipe {σ : L2.St} {is : List Nat} : wipe (wipe σ is) is = wipe σ is := wipe_eq (wipe_len σ is) fun i hi => wipe_at σ hi
/-- slots that are unset do not matter -/
theorem Re.unwipe {K : PySem.W.Frag} {S H : Hp} {env : Env} {σ : L2.St} {D : AP} {is : List Nat} (r : Re K S H env (L2.wipe σ is) D) : Re K S H env σ D := by
  obtain ⟨hl, Df, h1, h2, h3⟩ := r
  refine ⟨by rw [hl, wipe_len], Df, h1, h2, fun i t e => ?_⟩
  obtain ⟨v, e2, q⟩ := h3 i t e
  refine ⟨v, ?_, q⟩
  by_cases hi : i ∈ is
  · by_cases hb : i < σ.length
    · rw [wipe_in σ hi hb] at e2; cases e2
    · rw [List.getElem?_eq_none (by rw [wipe_len]; omega)] at e2; cases e2
  · rw [← wipe_at σ hi]; exact e2
/-! one transformer for a family of contexts -/
section
variable {ι : Type} {X : ι → Cx} {K : PySem.W.Frag} {W : Wc} {e tg : Expr} {ifs : List Expr}
theorem uni_e {de : DE} (h : ∀ s, ∃ te, PE (X s) e te ∧ SE K W te de) : ∃ te, (∀ s, PE (X s) e te) ∧ SE K W te de :=
  ⟨fun σ H Q => ∀ s, (h s).choose σ H Q, fun s => ⟨fun pins st σ H Q I q => (h s).choose_spec.1.run pins st σ H Q I (q s)⟩, fun S D H σ env Q P Ex o r d k x s => (h s).choose_spec.2 S D H σ env Q P Ex o r d k x⟩
theorem uni_g {dg : DG} {sl : List Nat} (h : ∀ s, ∃ g, PG (X s) tg g ∧ SG K sl g dg) : ∃ g, (∀ s, PG (X s) tg g) ∧ SG K sl g dg :=
  ⟨fun v σ H Q => ∀ s, (h s).choose v σ H Q, fun s => ⟨fun pins st σ H v u Q I r q => (h s).choose_spec.1.run pins st σ H v u Q I r (q s)⟩, fun G S D H σ env t v Q P o r d k s => (h s).choose_spec.2 G S D H σ env t v Q P o r d k⟩
theorem uni_t {db : DB} (h : ∀ s, ∃ tt, L2.PTs (X s) ifs tt ∧ SB K W tt db) : ∃ tt, (∀ s, PTs (X s) ifs tt) ∧ SB K W tt db :=
  ⟨fun σ H Q => ∀ s, (h s).choose σ H Q, fun s => ⟨fun pins st σ H Q I q => (h s).choose_spec.1.run pins st σ H Q I (q s)⟩, fun S D H σ env Q P Ex o r d k x s => (h s).choose_spec.2 S D H σ env Q P Ex o r d k x⟩
end
abbrev Wno (G : Gm) : Wc := ⟨fun _ _ _ _ => False, G⟩
theorem kx_no {K : PySem.W.Frag} {S : Hp} {D : AP} {H : Hp} {σ : L2.St} {G : Gm} : KX_ K (Wno G) S D H σ xno := fun _ _ _ _ _ _ _ _ _ _ h => h
theorem se_lc {K : PySem.W.Frag} {W : Wc} {wi : TI} {g : TG} {tt : TT} {te : TE} {di : DI} {dg : DG} {dc : DB} {de : DE} {own sl : List Nat} (i2 : SI K W wi di) (g2 : SG K sl g dg) (t2 : SB K (Wno W.g) tt dc) (e2 : SE K (Wno W.g) te de) (d : ∀ i ∈ sl, i ∈ own) :
    SE K W (tLc wi g tt te own) (dComp own di dg dc de) := fun S D H σ env Q P Ex o r dd k x => i2 S D H σ env _ _ _ o r dd (fun S1 D1 H1 env1 items J n re wk p => fun L hL => by
  obtain ⟨G, Y, w, hG, hY⟩ := wk
  refine lc_it w (fun j H' => ∃ S' D' E' env' acc vs, Nxt W.g S1 D1 H1 S' D' H' ∧ (∀ a, D' a → a ≠ L) ∧ (∀ a, S' a ≠ none → a ≠ L) ∧ Dj E' D' ∧ Ok W.g S' (fun a => D' a ∨ (E' a ∨ a = L)) H' ∧ (∀ a, E' a → H1 a = none ∨ D1 a) ∧ (∀ a, E' a → a ≠ L) ∧ Re K S' H' env' (wipe σ own) D' ∧ H' L = some (.lst vs) ∧ Rs K S' H' acc vs E' ∧ dCl own dg dc de P (items.drop j) acc env') ?_ ?_ ?_ ?_
  · have o1 := n.ok
    obtain ⟨n2, _⟩ := Nxt.fresh (Dn := no) o1 (Same.new (o := .lst []) hL) fun _ h => h.elim
    have nL : ∀ a, D1 a → a ≠ L := fun a h z => by subst z; exact (o1.dis _ h).2 hL
    have nS : ∀ a, S1 a ≠ none → a ≠ L := fun a h z => by
      subst z
      cases e : S1 a with
      | none => exact h e
      | some u => rw [o1.sub _ _ e] at hL; cases hL
    refine ⟨S1, D1, no, wipeE env1 own, [], [], Nxt.trans o1 n2 (Nxt.shrink n2.ok fun _ => .inl), nL, nS, fun _ h _ => h, ⟨n2.ok.g, n2.ok.sub, fun a h => ?_⟩, fun _ h => h.elim, fun _ h => h.elim, (re.wipe own).mono (.refl _) (fun a u _ e => old e hL) fun _ h => h, upd_same, Rs.nil, by simpa using p⟩
    rcases h with h | h | h
    · exact n2.ok.dis a (.inl h)
    · exact h.elim
    · subst h
      refine ⟨?_, by rw [upd_same]; simp⟩
      cases e : S1 a with
      | none => rfl
      | some u => exact absurd rfl (nS a (by rw [e]; simp))
  · rintro j H' hj ⟨S', D', E', env', acc, vs, n', _⟩
    exact hG S' H' n'.fs n'.ok.sub
  · rintro j v H' H2 hj ⟨S', D', E', env', acc, vs, n', nL, nS, dj, ok', hE, eL, re', hHL, rs, p'⟩ y
    obtain ⟨t, et⟩ : ∃ t, items[j]? = some t := ⟨_, List.getElem?_eq_getElem hj⟩
    obtain ⟨Dn, hn, s2, hr⟩ := hY j H' v H2 t et y
    have rx := hr S' n'.fs n'.ok.sub
    have e : items.drop j = t :: items.drop (j + 1) := by
      rw [List.getElem?_eq_some_iff] at et
      obtain ⟨h1, h2⟩ := et
      rw [← h2]
      exact List.drop_eq_getElem_cons h1
    rw [e] at p'
    -- all that is set aside: the list and its members
    let F : AP := fun a => E' a ∨ a = L
    have okF : Ok W.g S' (fun a => D' a ∨ F a) H' := ok'
    have djF : Dj D' F := fun a h z => z.elim (fun y => dj a y h) fun y => nL a h y
    obtain ⟨n2, dj2⟩ := Nxt.fresh n'.ok s2 hn
    -- the end of a turn
    have fin : ∀ {S4 : Hp} {D4 : AP} {H4 : Hp} {env4 : Env} {xs' : List T}, Nxt W.g S' D' H' S4 D4 H4 → Re K S4 H4 env4 (wipe σ own) D4 → dCl own dg dc de P (items.drop (j + 1)) acc env4 → ∃ S' D' E' env' acc vs, Nxt W.g S1 D1 H1 S' D' H4 ∧ (∀ a, D' a → a ≠ L) ∧ (∀ a, S' a ≠ none → a ≠ L) ∧ Dj E' D' ∧ Ok W.g S' (fun a => D' a ∨ (E' a ∨ a = L)) H4 ∧ (∀ a, E' a → H1 a = none ∨ D1 a) ∧ (∀ a, E' a → a ≠ L) ∧ Re K S' H4 env' (wipe σ own) D' ∧ H4 L = some (.lst vs) ∧ Rs K S' H4 acc vs E' ∧ dCl own dg dc de P (items.drop (j + 1)) acc env' := by
      intro S4 D4 H4 env4 xs' n4 re4 p4
      obtain ⟨fr, djf, kk⟩ := Nxt.frame okF djF n4
      refine ⟨S4, D4, E', env4, acc, vs, Nxt.trans n.ok n' n4, fun a h z => djf a h (.inr z), fun a h z => ?_, fun a h1 h2 => djf a h2 (.inl h1), fr.ok, hE, eL, re4, kk L _ (.inr rfl) hHL, rs.mono fr.fs (fun a ob h e => kk a ob (.inl h) e) fun _ h => h, p4⟩
      exact h (fr.ok.dis a (.inr (.inr z))).1
    refine g2 _ S' _ H2 _ env' t v _ _ n2.ok (Rz.mk dj2 (re'.mono (.refl _) (fun a ob _ e => s2 _ _ e) fun _ h => h) rx) p' fun S3 D3 env3 σ3 n3 re3 hl p3 => ?_
    have hw : wipe σ3 own = wipe σ own := (wipe_eq hl.1 fun i hi => hl.2 i fun z => hi (d i z)).trans wipe_wipe
    refine ⟨hw, ?_⟩
    have n03 := Nxt.trans n'.ok n2 n3
    refine t2 S3 D3 H2 σ3 env3 _ _ xno n3.ok re3 p3 (fun S4 D4 H4 env4 b n4 re4 p4 => ?_) kx_no
    have n04 := Nxt.trans n'.ok n03 n4
    cases b with
    | false =>
      rw [if_neg (by simp)] at p4 ⊢
      have re5 := re4.wipe own
      rw [hw] at re5
      exact fin (xs' := []) n04 re5 p4
    | true =>
      rw [if_pos rfl] at p4 ⊢
      refine e2 S4 D4 H4 σ3 env4 _ _ xno n4.ok re4 p4 (fun S5 D5 H5 env5 t5 v5 n5 rz5 ⟨hs5, p5⟩ => ?_) kx_no
      obtain ⟨A1, A2, dja, oa, na, rea, rva⟩ := rz5.split n5.ok
      have n06 := Nxt.trans n'.ok (Nxt.trans n'.ok n04 n5) na
      obtain ⟨fr, djf, kk⟩ := Nxt.frame okF djF n06
      have hL5 : H5 L = some (.lst vs) := kk L _ (.inr rfl) hHL
      have rs5 : Rs K S5 H5 acc vs E' := rs.mono fr.fs (fun a ob h e => kk a ob (.inl h) e) fun _ h => h
      have neL : ∀ a, (A1 a ∨ A2 a) → a ≠ L := fun a h z => djf a h (.inr z)
      have nSL : ∀ a, S5 a ≠ none → a ≠ L := fun a h z => h (fr.ok.dis a (.inr (.inr z))).1
      have up : ∀ a (ob : HO), a ≠ L → H5 a = some ob → upd H5 L (.lst (vs ++ [v5])) a = some ob := fun a ob ne e => by rw [upd_ne ne]; exact e
      refine ⟨vs, hL5, by rw [← rs5.shape]; exact hs5, S5, A1, fun a => E' a ∨ A2 a, wipeE env5 own, acc ++ [t5], vs ++ [v5], ?_, fun a h => neL a (.inl h), nSL, fun a h1 h2 => ?_, ⟨fr.ok.g, fun a ob e => up a ob (nSL a (by rw [e]; simp)) (fr.ok.sub _ _ e), fun a h => ?_⟩, fun a h => ?_, fun a h => h.elim (eL a) fun z => neL a (.inr z), ?_, upd_same, ?_, p5⟩
      · have n16 := Nxt.trans n.ok (Nxt.trans n.ok n' n06) (Nxt.shrink oa fun _ => .inl)
        refine ⟨⟨n16.ok.g, fun a ob e => up a ob (nSL a (by rw [e]; simp)) (fr.ok.sub _ _ e), fun a h => ⟨(n16.ok.dis a h).1, ?_⟩⟩, n16.fs, n16.dom, fun a ob e hd hz => up a ob (fun z => by rw [z, hL] at e; cases e) (n16.kp a ob e hd hz), n16.new⟩
        cases e : H5 a with
        | none => exact absurd e (n16.ok.dis a h).2
        | some ob => rw [up a ob (neL a (.inl h)) e]; simp
      · rcases h1 with h1 | h1
        · exact djf a (.inl h2) (.inl h1)
        · exact dja a h2 h1
      · by_cases z : a = L
        · subst z
          exact ⟨(fr.ok.dis a (.inr (.inr rfl))).1, by rw [upd_same]; simp⟩
        · have : (A1 a ∨ A2 a) ∨ F a := by
            rcases h with h | (h | h) | h
            · exact .inl (.inl h)
            · exact .inr (.inl h)
            · exact .inl (.inr h)
            · exact absurd h z
          obtain ⟨q1, q2⟩ := fr.ok.dis a this
          exact ⟨q1, by rw [upd_ne z]; exact q2⟩
      · rcases h with h | h
        · exact hE a h
        · rcases (Nxt.trans n.ok n' n06).dom a (.inr h) with z | z
          · exact .inr z
          · exact .inl z
      · have q := rea.wipe own
        rw [hw] at q
        exact q.mono (.refl _) (fun a ob h e => up a ob (neL a (.inl h)) e) fun _ h => h
      · obtain ⟨l1, Df, x1, x2, x3⟩ := rs5
        refine ⟨by simp [l1], fun i => if i < acc.length then Df i else if i = acc.length then A2 else no, fun i j b hi hj => ?_, fun i b hb => ?_, fun i t v e1 e2 => ?_⟩
        · by_cases c1 : i < acc.length <;> by_cases c2 : j < acc.length <;> simp only [c1, c2, if_true, if_false] at hi hj
          · exact x1 i j b hi hj
          · by_cases c3 : j = acc.length
            · simp only [c3, if_true] at hj
              exact (djf b (.inr hj) (.inl (x2 i b hi))).elim
            · simp only [c3, if_false] at hj
              exact hj.elim
          · by_cases c3 : i = acc.length
            · simp only [c3, if_true] at hi
              exact (djf b (.inr hi) (.inl (x2 j b hj))).elim
            · simp only [c3, if_false] at hi
              exact hi.elim
          · by_cases c3 : i = acc.length <;> by_cases c4 : j = acc.length <;> simp only [c3, c4, if_true, if_false] at hi hj <;> first | omega | exact hi.elim | exact hj.elim
        · by_cases c1 : i < acc.length <;> simp only [c1, if_true, if_false] at hb
          · exact .inl (x2 i b hb)
          · by_cases c3 : i = acc.length <;> simp only [c3, if_true, if_false] at hb <;> first | exact .inr hb | exact hb.elim
        · by_cases c1 : i < acc.length
          · rw [List.getElem?_append_left c1] at e1
            rw [List.getElem?_append_left (by omega)] at e2
            simp only [c1, if_true]
            exact (x3 i t v e1 e2).mono (.refl _) (fun a ob h e => up a ob (eL a (x2 i a h)) e) fun _ h => h
          · have c3 : i = acc.length := by
              rw [List.getElem?_eq_some_iff] at e1
              have := e1.1
              simp at this
              omega
            subst c3
            rw [List.getElem?_append_right (Nat.le_refl _), Nat.sub_self] at e1
            rw [l1, List.getElem?_append_right (Nat.le_refl _), Nat.sub_self] at e2
            cases e1
            cases e2
            simp only [Nat.lt_irrefl, if_true, if_false]
            exact rva.mono (.refl _) (fun a ob h e => up a ob (neL a (.inr h)) e) fun _ h => h
  · rintro H' ⟨S', D', E', env', acc, vs, n', nL, nS, dj, ok', hE, eL, re', hHL, rs, p'⟩
    rw [List.drop_length] at p'
    have nn : Nxt W.g S1 D1 H1 S' (fun a => D' a ∨ (E' a ∨ a = L)) H' := ⟨ok', n'.fs, fun a h => ?_, n'.kp, n'.new⟩
    · refine k _ _ _ _ _ _ (Nxt.trans o n nn) ⟨D', fun a => E' a ∨ a = L, fun a h1 h2 => h2.elim (fun z => dj a z h1) fun z => nL a h1 z, fun _ => .inl, fun _ => .inr, re'.unwipe, R.node (k := .lst) (.inr rfl) hHL rfl trivial (rs.mono (.refl _) (fun _ _ _ e => e) fun a h => ⟨.inl h, eL a h⟩)⟩ p'
    · rcases h with h | h | h
      · exact n'.dom a h
      · exact (hE a h).elim .inr .inl
      · subst h; exact .inr hL) x
end Tr

set_option Elab.async false
set_option linter.all false
set_option maxRecDepth 100000
set_option maxHeartbeats 1000000
set_option autoImplicit false
namespace Tr
open PySem PySem.Spec PyProof.Rows L2 Cm
section
variable {X : Cx} {W : Wc} {io : List Nat} {pos : Pos} {tg : Expr}
theorem t_lc {elt iter : Expr} {ifs : List Expr} {scope : Scope} {own : List (Str × Nat)} {di : DI} {dg : DG} {dc : DB} {de : DE} {sl : List Nat} (hc : X.calm = true) (hN : X.N.Nodup) (hi : TPI X W tg iter di) (ok : BlkOk X.N X.env.scope scope own)
    (hg : ∀ (z : Shared × Hp × Addr × List (Str × Addr) × List Addr), TPG (X.blk z.1 z.2.1 scope (compEnvC scope z.2.2.2.1 z.2.2.1 X.env) z.2.2.2.2) sl tg dg) (ht : ∀ (z : Shared × Hp × Addr × List (Str × Addr) × List Addr), TPTs (X.blk z.1 z.2.1 scope (compEnvC scope z.2.2.2.1 z.2.2.1 X.env) z.2.2.2.2) (Wno W.g) ifs dc)
    (he : ∀ (z : Shared × Hp × Addr × List (Str × Addr) × List Addr), TPE (X.blk z.1 z.2.1 scope (compEnvC scope z.2.2.2.1 z.2.2.1 X.env) z.2.2.2.2) (Wno W.g) elt de) (d : ∀ i ∈ sl, i ∈ own.map (·.2)) (hs : ∀ x, foldedSetIterable iter X.env x = pure x := by intro _; rfl) :
    TPE X W (.ListComp elt [⟨tg, iter, ifs, 0⟩] scope pos) (dComp (own.map (·.2)) di dg dc de) := by
  obtain ⟨wi, i1, i2⟩ := hi
  obtain ⟨g, g1, g2⟩ := uni_g (K := X.K) hg
  obtain ⟨tt, t1, t2⟩ := uni_t (K := X.K) ht
  obtain ⟨te, e1, e2⟩ := uni_e (K := X.K) he
  exact ⟨_, pe_lc hc hN i1 ok (fun s H C cl fp => g1 (s, H, C, cl, fp)) (fun s H C cl fp => t1 (s, H, C, cl, fp)) (fun s H C cl fp => e1 (s, H, C, cl, fp)) hs, se_lc i2 g2 t2 e2 d⟩
theorem s_setLc {i : Nat} {y : Str} {py : Pos} {spos : Pos} {elt iter : Expr} {ifs : List Expr} {scope : Scope} {own : List (Str × Nat)} {di : DI} {dg dt : DG} {dc : DB} {de : DE} {sl : List Nat} (hc : X.calm = true) (hN : X.N.Nodup) (hy : X.N[i]? = some y) (hyl : X.env.scope.names.lookup y = some .local)
    (hsw : swapsWith (.ListComp elt [⟨tg, iter, ifs, 0⟩] scope pos) (some (.Name y py)) spos.line X.env = pure true) (hi : TPI X W tg iter di) (ok : BlkOk X.N X.env.scope scope own)
    (hg : ∀ (z : Shared × Hp × Addr × List (Str × Addr) × List Addr), TPG (X.blk z.1 z.2.1 scope (compEnvC scope z.2.2.2.1 z.2.2.1 X.env) z.2.2.2.2) sl tg dg) (ht : ∀ (z : Shared × Hp × Addr × List (Str × Addr) × List Addr), TPTs (X.blk z.1 z.2.1 scope (compEnvC scope z.2.2.2.1 z.2.2.1 X.env) z.2.2.2.2) (Wno W.g) ifs dc)
    (he : ∀ (z : Shared × Hp × Addr × List (Str × Addr) × List Addr), TPE (X.blk z.1 z.2.1 scope (compEnvC scope z.2.2.2.1 z.2.2.1 X.env) z.2.2.2.2) (Wno W.g) elt de) (d : ∀ i ∈ sl, i ∈ own.map (·.2)) (sg : SG X.K [i] (gName i) dt) (dd : ∀ j ∈ io, j ∉ [i]) (hs : ∀ x, foldedSetIterable iter X.env x = pure x := by intro _; rfl) :
    TPS X W io (.Assign [.Name y py] (.ListComp elt [⟨tg, iter, ifs, 0⟩] scope pos) spos) (dAsg (dComp (own.map (·.2)) di dg dc de) dt) := by
  obtain ⟨wi, i1, i2⟩ := hi
  obtain ⟨g, g1, g2⟩ := uni_g (K := X.K) hg
  obtain ⟨tt, t1, t2⟩ := uni_t (K := X.K) ht
  obtain ⟨te, e1, e2⟩ := uni_e (K := X.K) he
  exact ⟨_, ps_setLc hc hN hy hyl hsw i1 ok (fun s H C cl fp => g1 (s, H, C, cl, fp)) (fun s H C cl fp => t1 (s, H, C, cl, fp)) (fun s H C cl fp => e1 (s, H, C, cl, fp)) hs, ss_asg (se_lc i2 g2 t2 e2 d) sg dd⟩
end
/-! ### defs -/
abbrev Spec := List T → (T → List T → Prop) → (T → List T → Prop) → Prop
def outsOf : List Nat → Env → Option (List T)
  | [], _ => some []
  | i :: is, env => match env[i]? with
    | some (some t) => (outsOf is env).map (t :: ·)
    | _ => none
def endsOf (io : List Nat) (P Ex : T → List T → Prop) : DEnds where
  nx := fun env => ∃ outs, outsOf io env = some outs ∧ P (.lf .non) outs
  rt := fun t env => ∃ outs, outsOf io env = some outs ∧ P t outs
  ex := fun t env => ∃ outs, outsOf io env = some outs ∧ Ex t outs
def env0 (n : Nat) (ts : List T) : Env := ts.map some ++ List.replicate (n - ts.length) none
def specOf (n : Nat) (io : List Nat) (ds : DS) : Spec := fun ts P Ex => ds (endsOf io P Ex) (env0 n ts)
def spOf (K : PySem.W.Frag) (n : Nat) (io : List Nat) (spec : Spec) : Sp := fun vs H Q E => vs.length = n ∧ ∃ S D ts P Ex, Ok G0 S D H ∧ Rs K S H ts vs D ∧ spec ts P Ex ∧
  (∀ S' D' H' t outs v, Nxt G0 S D H S' D' H' → Rs K S' H' (t :: outs) (v :: io.map fun i => vs.getD i .non) D' → P t outs → Q v H') ∧
  (∀ S' D' H' ex outs cls d, Nxt G0 S D H S' D' H' → Rs K S' H' outs (io.map fun i => vs.getD i .non) D' → RX K S' ex cls d → Ex ex outs → E cls d H')
theorem re_start {K : PySem.W.Frag} {S H : Hp} {ts : List T} {vs : List V} {D : AP} {N : List Str} (r : Rs K S H ts vs D) : Re K S H (env0 N.length ts) (L2.start N vs) D := by
  obtain ⟨hl, Df, h1, h2, h3⟩ := r
  refine ⟨by unfold env0 L2.start; simp [hl], Df, h1, h2, fun i t e => ?_⟩
  unfold env0 at e
  by_cases hi : i < ts.length
  · rw [List.getElem?_append_left (by simpa using hi), List.getElem?_map] at e
    cases q : ts[i]? with
    | none => rw [q] at e; cases e
    | some t' =>
      rw [q] at e
      have e : t' = t := by simpa using e
      subst e
      obtain ⟨v, ev⟩ : ∃ v, vs[i]? = some v := ⟨_, List.getElem?_eq_getElem (show i < vs.length by omega)⟩
      refine ⟨v, ?_, h3 i t' v q ev⟩
      unfold L2.start
      rw [List.getElem?_append_left (by simpa using (show i < vs.length by omega)), List.getElem?_map, ev]
      rfl
  · rw [List.getElem?_append_right (by simpa using hi), List.getElem?_replicate] at e
    split at e
    · exact absurd (Option.some.inj e) (by simp)
    · cases e
theorem outs_len : ∀ {is : List Nat} {env : Env} {outs : List T}, outsOf is env = some outs → outs.length = is.length
  | [], _, _, h => by cases h; rfl
  | i :: is, env, outs, h => by
    unfold outsOf at h
    split at h
    · cases q : outsOf is env with
      | none => rw [q] at h; cases h
      | some o => rw [q] at h; cases h; simp [outs_len q]
    · cases h
theorem outs_at : ∀ {is : List Nat} {env : Env} {outs : List T}, outsOf is env = some outs → ∀ (j i : Nat) (t : T), is[j]? = some i → outs[j]? = some t → env[i]? = some (some t)
  | [], _, _, _, j, i, t, e, _ => by simp at e
  | i0 :: is, env, outs, h, j, i, t, e1, e2 => by
    unfold outsOf at h
    split at h
    · rename_i t0 e0
      cases q : outsOf is env with
      | none => rw [q] at h; cases h
      | some o =>
        rw [q] at h
        cases h
        rcases j with _ | j
        · cases e1; cases e2; exact e0
        · exact outs_at q j i t (by simpa using e1) (by simpa using e2)
    · cases h
theorem Re.outs {K : PySem.W.Frag} {S H : Hp} {env : Env} {σ : L2.St} {D : AP} {io : List Nat} {outs : List T} {vs : List V} (r : Re K S H env σ D) (nd : io.Nodup) (ho : outsOf io env = some outs) (h : ∀ i ∈ io, σ[i]? = some (some (vs.getD i .non))) : Rs K S H outs (io.map fun i => vs.getD i .non) D := by
  obtain ⟨hl, Df, h1, h2, h3⟩ := r
  have ol := outs_len ho
  refine ⟨by simp [ol], fun j a => ∃ i, io[j]? = some i ∧ Df i a, fun j k b ⟨i, ei, x⟩ ⟨i', ei', y⟩ => ?_, fun j a ⟨i, _, x⟩ => h2 i a x, fun j t v e1 e2 => ?_⟩
  · have := h1 _ _ b x y
    subst this
    rw [List.getElem?_eq_some_iff] at ei ei'
    obtain ⟨p, ei⟩ := ei
    obtain ⟨p', ei'⟩ := ei'
    exact (List.getElem_inj nd).mp (ei.trans ei'.symm)
  · rw [List.getElem?_map] at e2
    cases q : io[j]? with
    | none => rw [q] at e2; cases e2
    | some i =>
      rw [q] at e2
      obtain ⟨v', e3, rr⟩ := h3 i t (outs_at ho j i t q e1)
      rw [h i (List.mem_of_getElem? q)] at e3
      cases e2
      cases e3
      exact rr.up fun a x => ⟨i, q, x⟩
theorem start_at {N : List Str} {vs : List V} {i : Nat} (h : i < vs.length) : (L2.start N vs)[i]? = some (some (vs.getD i .non)) := by
  unfold L2.start
  rw [List.getElem?_append_left (by simpa using h), List.getElem?_map, List.getElem?_eq_getElem h, List.getD_eq_getElem?_getD, List.getElem?_eq_getElem h]
  rfl
theorem body_ok {K : PySem.W.Frag} {ts : TS} {ds : DS} {io : List Nat} {N : List Str} {n : Nat} {vs : List V} {H : Hp} {Q : VK} {E : XK} (nd : io.Nodup) (hio : ∀ i ∈ io, i < n) (h : SS K ⟨fun cls d _ H => E cls d H, G0⟩ io ts ds) (sp : spOf K n io (specOf N.length io ds) vs H Q E) :
    ts { nx := fun _ H' => Q .non H', rt := Q } (L2.start N vs) H := by
  obtain ⟨hn, S, D, trees, P, Ex, o, r, d, k, x⟩ := sp
  have hv : ∀ {σ' : L2.St}, IO io (L2.start N vs) σ' → ∀ i ∈ io, σ'[i]? = some (some (vs.getD i .non)) := fun i' i hi => (i' i hi).trans (start_at (by rw [hn]; exact hio i hi))
  refine h S D H (L2.start N vs) (L2.start N vs) (env0 N.length trees) (endsOf io P Ex) _ o (re_start r) (fun _ _ => rfl) d ⟨fun S' D' H' env' σ' n' re i p => ?_, fun _ _ _ _ _ _ _ _ p => p.elim, fun _ _ _ _ _ _ _ _ p => p.elim, fun S' D' H' env' σ' t v n' rz i p => ?_, fun S' D' H' env' σ' ex cls dd n' re i rx p => ?_⟩
  · obtain ⟨outs, eo, p⟩ := p
    exact k S' D' H' _ outs _ n' (Rs.cons (D1 := no) (D2 := D') (fun _ h => h.elim) (fun _ h => h.elim) (fun _ h => h) .lf (re.outs nd eo (hv i))) p
  · obtain ⟨outs, eo, p⟩ := p
    obtain ⟨D1, D2, dj, s1, s2, re, rv⟩ := rz
    exact k S' D' H' _ outs _ n' (Rs.cons (D1 := D2) (D2 := D1) (fun a x y => dj a y x) s2 s1 rv (re.outs nd eo (hv i))) p
  · obtain ⟨outs, eo, p⟩ := p
    exact x S' D' H' _ outs _ _ n' (re.outs nd eo (hv i)) rx p
/-- a def, by what it does on trees -/
abbrev Dt (P : Program) (w : World) (K : PySem.W.Frag) (mg : Str → Option Value) (base : Heap) (k : Nat) (x : Str) (ps : List Str) (io : List Nat) (spec : Spec) : Prop := Dn P w K mg base (L2.CX P w) k x ps (spOf K ps.length io spec)
section
variable {P : Program} {w : World} {K : PySem.W.Frag} {mg : Str → Option Value} {base : Heap}
theorem _root_.Cm.At.tok {x : Str} {st : Stmt} {N ps : List Str} {k : Nat} {io : List Nat} {ds : DS} (F : At K mg x st ps) (S : FnScope N ps (defScope st)) (nd : io.Nodup) (hio : ∀ i ∈ io, i < ps.length)
    (hbody : ∀ (f : Addr) (cdv : Value) (A : Around) (outer : List PySem.Env) (s : Shared) (H : Hp) (E : XK), Room k (A.deeper (envOfC x (defScope st) s.heap.objs.size f cdv)) →
      Takes (cxOf (L2.CX P w) P w K mg base N x (defScope st) f cdv A outer s H E) (fun cls d _ H => E cls d H) → PassesOwn (model P w) (A.deeper (envOfC x (defScope st) s.heap.objs.size f cdv)) (envOfC x (defScope st) s.heap.objs.size f cdv) (cxOf (L2.CX P w) P w K mg base N x (defScope st) f cdv A outer s H E).xe →
      TPSs (cxOf (L2.CX P w) P w K mg base N x (defScope st) f cdv A outer s H E) ⟨fun cls d _ H => E cls d H, G0⟩ io (defBody st) ds) : Dt P w K mg base (k + 1) x ps io (specOf N.length io ds) := by
  obtain ⟨f, fd, F, hm, hb⟩ := F
  refine ⟨f, fd, F.ok S (fun vs H Q E h => h.1) fun cdv A outer s H vs Q E hr h => ?_, hm, F.kp, hb, F.look⟩
  obtain ⟨ts, h1, h2⟩ := hbody f cdv A outer s H E hr (takes_of rfl rfl rfl rfl) PassesOwn.leaving
  exact ⟨ts, h1, body_ok nd hio h2 h⟩
theorem _root_.Cm.Dn.tim {x : Str} {ps : List Str} {k : Nat} {io : List Nat} {spec spec' : Spec} (D : Dt P w K mg base k x ps io spec) (h : ∀ ts P Ex, spec' ts P Ex → spec ts P Ex) : Dt P w K mg base k x ps io spec' := by
  obtain ⟨f, fd, F, r⟩ := D
  refine ⟨f, fd, F.imp fun vs H Q E q => ?_, r⟩
  obtain ⟨hn, S, D, ts, P, Ex, o, rs, d, z⟩ := q
  exact ⟨hn, S, D, ts, P, Ex, o, rs, h ts P Ex d, z⟩
theorem _root_.Cm.Dn.mn {CX : CXT} {x : Str} {ps : List Str} {j k : Nat} {sp : Sp} (D : Dn P w K mg base CX j x ps sp) (h : j ≤ k) : Dn P w K mg base CX k x ps sp := by
  obtain ⟨f, fd, F, r⟩ := D
  exact ⟨f, fd, F.mono h, r⟩
end
/-! ### calls -/
/-- what was lent comes back to its slots -/
def wb : List Nat → List T → Env → Env
  | i :: is, t :: ts, env => wb is ts (env.set i (some t))
  | _, _, env => env
def dCall (bs : List Nat) (spec : Spec) (da : DA) : DE := fun env P Ex => da env (fun ts env1 => spec ts (fun t outs => P t (wb bs outs env1)) (fun ex outs => Ex ex (wb bs outs env1))) Ex
theorem Re.wb {K : PySem.W.Frag} {S H : Hp} {σ : L2.St} {D : AP} : ∀ {bs : List Nat} {outs : List T} {ws : List V} {env : Env} {D1 D2 : AP}, Dj D1 D2 → Sub D1 D → Sub D2 D → Re K S H env σ D1 → Rs K S H outs ws D2 → (∀ (j i : Nat), bs[j]? = some i → ∃ v, σ[i]? = some (some v) ∧ ws[j]? = some v) → Re K S H (Tr.wb bs outs env) σ D
  | [], _, _, env, D1, D2, dj, s1, s2, r, q, h => by
    unfold Tr.wb
    exact r.mono (.refl _) (fun _ _ _ e => e) s1
  | i :: is, [], ws, env, D1, D2, dj, s1, s2, r, q, h => by
    unfold Tr.wb
    exact r.mono (.refl _) (fun _ _ _ e => e) s1
  | i :: is, t :: outs, ws, env, D1, D2, dj, s1, s2, r, q, h => by
    cases ws with
    | nil => exact absurd q.shape (by simp)
    | cons v ws =>
      obtain ⟨E1, E2, dj2, x1, x2, q1, q2⟩ := q.uncons
      obtain ⟨v', e1, e2⟩ := h 0 i rfl
      have e2 : v = v' := by simpa using e2
      subst e2
      have r2 := Re.back (D := fun a => D1 a ∨ E1 a) (fun a a1 a2 => dj a a1 (x1 a a2)) (fun _ => .inl) (fun _ => .inr) r i e1 q1
      unfold Tr.wb
      exact Re.wb (fun a a1 a2 => a1.elim (fun z => dj a z (x2 a a2)) fun z => dj2 a z a2) (fun a h => h.elim (s1 a) fun z => s2 a (x1 a z)) (fun a h => s2 a (x2 a h)) r2 q2 fun j i e => h (j + 1) i (by simpa using e)
theorem se_call {K : PySem.W.Frag} {W : Wc} {n : Nat} {io bs : List Nat} {spec : Spec} {ta : TA} {da : DA} {ms : List (Option Nat)} (h : SA K W ms ta da) (hl : ms.length = n) (hb : ∀ (j i : Nat), io[j]? = some i → ∃ s, bs[j]? = some s ∧ ms[i]? = some (some s)) (hbl : bs.length = io.length) : SE K W (tCallS (spOf K n io spec) (WE W.x) ta) (dCall bs spec da) := fun S D H σ env Q P Ex o r d k x =>
  h S D H σ env _ _ Ex o r d (fun S' D' H' env' ts vs n' rzs hm p => by
    obtain ⟨D1, D2, dj, o1, n1, re, rv⟩ := rzs.split n'.ok
    have hw : ∀ (j i : Nat), bs[j]? = some i → ∃ v, σ[i]? = some (some v) ∧ (io.map fun i => vs.getD i V.non)[j]? = some v := fun j s e => by
      have hj : j < io.length := by
        have := (List.getElem?_eq_some_iff.mp e).1
        omega
      obtain ⟨i, ei⟩ : ∃ i, io[j]? = some i := ⟨_, List.getElem?_eq_getElem hj⟩
      obtain ⟨s', e1, e2⟩ := hb j i ei
      rw [e] at e1
      cases e1
      obtain ⟨v, v1, v2⟩ := hm.2 i s e2
      exact ⟨v, v1, by rw [List.getElem?_map, ei]; simp [List.getD_eq_getElem?_getD, v2]⟩
    refine ⟨hm.1.symm.trans hl, S', D2, ts, _, _, (o1.sm fun _ => .inr).cast trivial, rv, p, fun S2 D3 H2 t outs v n20 rs2 p2 => ?_, fun S2 D3 H2 ex outs cls dd n20 rs2 rx p2 => ?_⟩
    · have n2 := n20.cast o1.g
      have o1' : Ok W.g S' (fun a => D2 a ∨ D1 a) H' := o1.sm fun a h => h.elim .inr .inl
      obtain ⟨fr, djf, kk⟩ := Nxt.frame o1' (fun a a1 a2 => dj a a2 a1) n2
      obtain ⟨E1, E2, dj2, x1, x2, q1, q2⟩ := rs2.uncons
      have re2 : Re K S2 H2 env' σ D1 := re.mono fr.fs (fun a ob h e => kk a ob h e) fun _ h => h
      have nn := Nxt.trans o (Nxt.trans o (Nxt.trans o n' n1) (Nxt.shrink o1 fun a (h : D2 a ∨ D1 a) => h.elim .inr .inl)) fr
      refine k _ _ _ _ _ _ nn ⟨fun a => D1 a ∨ E2 a, E1, fun a a1 a2 => a1.elim (fun z => djf a (x1 a a2) z) fun z => dj2 a a2 z, fun a h => h.elim .inr fun z => .inl (x2 a z), fun a h => .inl (x1 a h), ?_, q1⟩ p2
      exact Re.wb (fun a a1 a2 => djf a (x2 a a2) a1) (fun _ => .inl) (fun _ => .inr) re2 q2 hw
    · have n2 := n20.cast o1.g
      have o1' : Ok W.g S' (fun a => D2 a ∨ D1 a) H' := o1.sm fun a h => h.elim .inr .inl
      obtain ⟨fr, djf, kk⟩ := Nxt.frame o1' (fun a a1 a2 => dj a a2 a1) n2
      have re2 : Re K S2 H2 env' σ D1 := re.mono fr.fs (fun a ob h e => kk a ob h e) fun _ h => h
      have nn := Nxt.trans o (Nxt.trans o (Nxt.trans o n' n1) (Nxt.shrink o1 fun a (h : D2 a ∨ D1 a) => h.elim .inr .inl)) fr
      exact x _ _ _ _ _ _ _ nn (Re.wb (D := fun a => D3 a ∨ D1 a) (fun a a1 a2 => djf a a2 a1) (fun _ => .inr) (fun _ => .inl) re2 rs2 hw) rx p2) x
section
variable {X : Cx} {W : Wc} {io bs : List Nat} {p pos : Pos} {k : Nat} {x : Str} {ps : List Str} {spec : Spec} {e : Expr} {es : List Expr} {da : DA} {ms : List (Option Nat)}
theorem t_call (D : Dt X.prog X.w X.K X.mg X.base k x ps io spec) (hr : Room k X.A) (tk : Takes X W.x) (ha : TPA X W ms (e :: es) da) (hl : ms.length = ps.length) (bs : List Nat) (hb : ∀ (j i : Nat), io[j]? = some i → ∃ s, bs[j]? = some s ∧ ms[i]? = some (some s)) (hbl : bs.length = io.length) (hg : Gl X x := by rfl) (hdb : (x == ("__debug__" : Str)) = false := by decide)
    (he : starEach (e :: es) X.env = (false, eval e X.env) :: starEach es X.env := by rfl) (hpl : (backTo pos (starEach es X.env)).any (·.1) = false := by rfl) : TPE X W (.Call (.Name x p) (e :: es) [] pos) (dCall bs spec da) := by
  obtain ⟨ta, a1, a2⟩ := ha
  exact ⟨_, pe_callX D hr tk a1 hg hdb he hpl, se_call a2 hl hb hbl⟩
/-- f() -/
theorem t_call0 (D : Dt X.prog X.w X.K X.mg X.base k x [] [] spec) (hr : Room k X.A) (tk : Takes X W.x) (hg : Gl X x := by rfl) (hdb : (x == ("__debug__" : Str)) = false := by decide) : TPE X W (.Call (.Name x p) [] [] pos) (dCall [] spec dNil) := by
  obtain ⟨f, fd, F, hm, hk, hb, _⟩ := D
  refine ⟨tCallS (spOf X.K 0 [] spec) (WE W.x) tNil, ⟨fun pins s σ H Q I h => ?_⟩, se_call sa_nil rfl (fun j i e => by simp at e) rfl⟩
  refine wpAny_Call_Name_kw (ld_glob I hg hm ?_ hdb)
  exact PySem.W.callWith_K0 I.kIn hk (run_fnS F hr hb (passAt tk σ) I .nil h)
end
end Tr

set_option Elab.async false
set_option linter.all false
set_option maxRecDepth 100000
set_option maxHeartbeats 1000000
set_option autoImplicit false
namespace Tr
open PySem PySem.Spec PyProof.Rows L2 Cm
/-! ### operands: a value (frozen), or a slot that is looked at -/
inductive Od where | v (de : DE) | pk (i : Nat)
abbrev Rdr := T ⊕ Nat
def rdT (env : Env) : Rdr → Option T
  | .inl t => some t
  | .inr i => env[i]?.join
def rdAll (env : Env) : List Rdr → Option (List T)
  | [] => some []
  | r :: rs => match rdT env r, rdAll env rs with
    | some t, some ts => some (t :: ts)
    | _, _ => none
abbrev DL := Env → (List Rdr → Env → Prop) → PT1 → Prop
def dLs : List Od → DL
  | [] => fun env P _ => P [] env
  | .v de :: os => fun env P Ex => de env (fun t env1 => dLs os env1 (fun rs env2 => P (.inl t.fz :: rs) env2) Ex) Ex
  | .pk i :: os => fun env P Ex => (∃ t, env[i]? = some (some t)) ∧ dLs os env (fun rs env2 => P (.inr i :: rs) env2) Ex
def Rdl (K : PySem.W.Frag) (S H : Hp) (σ : L2.St) (rs : List Rdr) (vs : List V) : Prop := rs.length = vs.length ∧ ∀ (i : Nat) (v : V), vs[i]? = some v → (∀ t, rs[i]? = some (.inl t) → R K S H t v no) ∧ ∀ j, rs[i]? = some (.inr j) → σ[j]? = some (some v)
def SO (K : PySem.W.Frag) (W : Wc) (te : TE) : Od → Prop
  | .v de => SE K W te de
  | .pk i => te = tVar i
def SL (K : PySem.W.Frag) (W : Wc) (ta : TA) (dl : DL) : Prop := ∀ S D H σ env Q P Ex, Ok W.g S D H → Re K S H env σ D → dl env P Ex →
  (∀ S' D' H' env' rs vs, Nxt W.g S D H S' D' H' → Re K S' H' env' σ D' → Rdl K S' H' σ rs vs → P rs env' → Q vs H') → KX_ K W S D H σ Ex → ta σ H Q
/-- read somewhere -/
def Rd1 (K : PySem.W.Frag) (S H : Hp) (t : T) (v : V) : Prop := ∃ D, R K S H t v D
def Rd1s (K : PySem.W.Frag) (S H : Hp) : List T → List V → Prop
  | [], vs => vs = []
  | t :: ts, vs => ∃ v vr, vs = v :: vr ∧ Rd1 K S H t v ∧ Rd1s K S H ts vr
structure Frs (S H S' H' : Hp) (Dn : AP) : Prop where
  s1 : Sle S S'
  new : ∀ a, S' a ≠ none → S a ≠ none ∨ H a = none
  s2 : Same S' H'
  s : Same H H'
  dn : ∀ a, Dn a → H a = none ∧ H' a ≠ none ∧ S' a = none
theorem Nxt.frs {G : Gm} {S H S' H' : Hp} {D Dn : AP} (o : Ok G S D H) (f : Frs S H S' H' Dn) : Nxt G S D H S' (fun a => D a ∨ Dn a) H' ∧ Dj D Dn := by
  refine ⟨⟨⟨G.mono _ _ f.s1 o.g, f.s2, fun a h => ?_⟩, f.s1, fun a h => h.elim .inl fun z => .inr (f.dn a z).1, fun a u e _ _ => f.s _ _ e, fun a h => (f.new a h).elim .inl fun z => .inr (.inr z)⟩, fun a h1 h2 => (o.dis a h1).2 (f.dn a h2).1⟩
  rcases h with h | h
  · obtain ⟨h1, h2⟩ := o.dis a h
    refine ⟨?_, ?_⟩
    · cases e : S' a with
      | none => rfl
      | some u =>
        rcases f.new a (by rw [e]; simp) with z | z
        · exact absurd h1 z
        · exact absurd z h2
    · cases e : H a with
      | none => exact absurd e h2
      | some u => rw [f.s _ _ e]; simp
  · exact ⟨(f.dn a h).2.2, (f.dn a h).2.1⟩
def OpS (K : PySem.W.Frag) (f : List T → (T → Prop) → Prop) (r : List V → Hp → VK → Prop) : Prop := ∀ S H ts vs (P : T → Prop) (Q : VK), Same S H → Rd1s K S H ts vs → f ts P →
  (∀ t v S' H' Dn, Frs S H S' H' Dn → R K S' H' t v Dn → P t → Q v H') → r vs H Q
def dOp (f : List T → (T → Prop) → Prop) (os : List Od) : DE := fun env P Ex => dLs os env (fun rs env' => ∃ ts, rdAll env' rs = some ts ∧ f ts fun t => P t env') Ex
section
variable {K : PySem.W.Frag} {W : Wc}
theorem sl_nil : SL K W tNil (dLs []) := fun S D H σ env Q P Ex o r d k x => k _ _ _ _ _ _ (Nxt.refl o) r ⟨rfl, fun i v e => by simp at e⟩ d
theorem sl_cons {te : TE} {ta : TA} {od : Od} {os : List Od} (h : SO K W te od) (ha : SL K W ta (dLs os)) : SL K W (tCons te ta) (dLs (od :: os)) := fun S D H σ env Q P Ex o r d k x => by
  cases od with
  | v de =>
    refine (show SE K W te de from h) S D H σ env _ (fun t env1 => dLs os env1 (fun rs env2 => P (.inl t.fz :: rs) env2) Ex) Ex o r d (fun S1 D1 H1 env1 t v n rz p => ?_) x
    obtain ⟨S1', D1', n1, r1, q1⟩ := rz.frz n.ok
    refine ha S1' D1' H1 σ env1 _ _ Ex n1.ok r1 p (fun S2 D2 H2 env2 rs vs n2 r2 rd p2 => k _ _ _ _ _ _ (Nxt.trans o (Nxt.trans o n n1) n2) r2 ⟨by simp [rd.1], fun i v' e => ?_⟩ p2) (x.go o (Nxt.trans o n n1))
    rcases i with _ | i
    · cases e
      refine ⟨fun t' e => ?_, fun j e => by simp at e⟩
      have e : t.fz = t' := by simpa using e
      subst e
      exact q1.mono n2.fs (fun _ _ h => h.elim) fun _ h => h
    · exact rd.2 i v' (by simpa using e) |>.imp (fun z t e => z t (by simpa using e)) fun z j e => z j (by simpa using e)
  | pk i =>
    have e : te = tVar i := h
    subst e
    obtain ⟨⟨t, et⟩, d⟩ := d
    obtain ⟨v, ev, q⟩ := r.get et
    refine ⟨v, ev, ha S D H σ env _ _ Ex o r d (fun S2 D2 H2 env2 rs vs n2 r2 rd p2 => k _ _ _ _ _ _ n2 r2 ⟨by simp [rd.1], fun j v' e => ?_⟩ p2) x⟩
    rcases j with _ | j
    · cases e
      exact ⟨fun t' e => by simp at e, fun j e => by cases e; exact ev⟩
    · exact rd.2 j v' (by simpa using e) |>.imp (fun z t e => z t (by simpa using e)) fun z j e => z j (by simpa using e)
theorem rdAll_ok {S H : Hp} {env : Env} {σ : L2.St} {D : AP} (r : Re K S H env σ D) : ∀ {rs : List Rdr} {ts : List T} {vs : List V}, Rdl K S H σ rs vs → rdAll env rs = some ts → Rd1s K S H ts vs
  | [], ts, vs, rd, h => by
    cases h
    exact List.length_eq_zero_iff.mp rd.1.symm
  | c :: rs, ts, [], rd, h => by
    have := rd.1
    simp at this
  | c :: rs, ts, v :: vs, rd, h => by
    unfold rdAll at h
    split at h
    · rename_i t ts' e1 e2
      cases h
      have rd' : Rdl K S H σ rs vs := ⟨by simpa using rd.1, fun i v e => rd.2 (i + 1) v (by simpa using e) |>.imp (fun z t e => z t (by simpa using e)) fun z j e => z j (by simpa using e)⟩
      refine ⟨v, vs, rfl, ?_, rdAll_ok r rd' e2⟩
      cases c with
      | inl t' => cases e1; exact ⟨_, (rd.2 0 v rfl).1 t rfl⟩
      | inr j =>
        have e3 := (rd.2 0 v rfl).2 j rfl
        have e4 : env[j]? = some (some t) := by
          have e1 : env[j]?.join = some t := e1
          cases q : env[j]? with
          | none => rw [q] at e1; cases e1
          | some z => rw [q] at e1; simp at e1; rw [e1]
        obtain ⟨v', e5, q⟩ := r.get e4
        rw [e3] at e5
        cases e5
        exact ⟨_, q⟩
    · cases h
theorem se_op {f : List T → (T → Prop) → Prop} {r : List V → Hp → VK → Prop} {ta : TA} {os : List Od} (hl : SL K W ta (dLs os)) (ho : OpS K f r) : SE K W (fun σ H Q => ta σ H fun vs H1 => r vs H1 Q) (dOp f os) := fun S D H σ env Q P Ex o re d k x =>
  hl S D H σ env _ _ Ex o re d (fun S' D' H' env' rs vs n r' rd ⟨ts, e, p⟩ => ho S' H' ts vs _ Q n.ok.sub (rdAll_ok r' rd e) p fun t v S2 H2 Dn f rt p2 => by
    obtain ⟨n2, dj⟩ := Nxt.frs n.ok f
    exact k _ _ _ _ _ _ (Nxt.trans o n n2) (Rz.mk dj (r'.mono f.s1 (fun a ob _ e => f.s _ _ e) fun _ h => h) rt) p2) x
end
/-! ### operands of expressions -/
def TPO (X : Cx) (W : Wc) (e : Expr) (od : Od) : Prop := ∃ te, PE X e te ∧ SO X.K W te od
def TPL (X : Cx) (W : Wc) (es : List Expr) (os : List Od) : Prop := ∃ ta, PA X es ta ∧ SL X.K W ta (dLs os)
def r1 (r : V → Hp → VK → Prop) : List V → Hp → VK → Prop
  | [x], H, Q => r x H Q
  | _, _, _ => False
def r2 (r : R2) : List V → Hp → VK → Prop
  | [x, y], H, Q => r x y H Q
  | _, _, _ => False
section
variable {X : Cx} {W : Wc} {io : List Nat} {pos : Pos}
theorem o_v {e : Expr} {de : DE} (h : TPE X W e de) : TPO X W e (.v de) := h
theorem o_pk {i : Nat} {x : Str} (hN : X.N[i]? = some x) (hv : Vis X.env.scope x) (hd : (x == ("__debug__" : Str)) = false := by decide) (hcd : (x == ("__classdict__" : Str)) = false := by decide) : TPO X W (.Name x pos) (.pk i) := ⟨_, pe_var hN hv hd hcd, rfl⟩
theorem l_nil : TPL X W [] [] := ⟨_, pa_nil, sl_nil⟩
theorem l_cons {e : Expr} {es : List Expr} {od : Od} {os : List Od} (h : TPO X W e od) (ha : TPL X W es os) (hs : starEach (e :: es) X.env = (false, eval e X.env) :: starEach es X.env := by rfl) : TPL X W (e :: es) (od :: os) :=
  let ⟨te, h1, h2⟩ := h; let ⟨ta, a1, a2⟩ := ha; ⟨_, pa_cons h1 a1 hs, sl_cons h2 a2⟩
variable {a b : Expr} {o1 o2 : Od} {f : List T → (T → Prop) → Prop}
theorem t_op {op : Operator} {r : R2} (ho : OpR X (binaryOp op) r) (hf : OpS X.K f (r2 r)) (ha : TPO X W a o1) (hb : TPO X W b o2) : TPE X W (.BinOp a op b pos) (dOp f [o1, o2]) :=
  let ⟨_, a1, a2⟩ := ha; let ⟨_, b1, b2⟩ := hb; ⟨_, pe_op ho a1 b1, se_op (r := r2 r) (sl_cons a2 (sl_cons b2 sl_nil)) hf⟩
theorem t_un {op : UnaryOp} {r : V → Hp → VK → Prop} (ho : UnR X (unaryOp op) r) (hf : OpS X.K f (r1 r)) (ha : TPO X W a o1) : TPE X W (.UnaryOp op a pos) (dOp f [o1]) :=
  let ⟨_, a1, a2⟩ := ha; ⟨_, pe_un ho a1, se_op (r := r1 r) (sl_cons a2 sl_nil) hf⟩
theorem t_cmp {op : CmpOp} {r : R2} (ho : OpR X (compareOp op) r) (hf : OpS X.K f (r2 r)) (ha : TPO X W a o1) (hb : TPO X W b o2) (hm : behindInMarks op b = false) : TPE X W (.Compare a [op] [b] pos) (dOp f [o1, o2]) :=
  let ⟨_, a1, a2⟩ := ha; let ⟨_, b1, b2⟩ := hb; ⟨_, pe_cmpR ho a1 b1 hm, se_op (r := r2 r) (sl_cons a2 (sl_cons b2 sl_nil)) hf⟩
theorem b_cmp {op : CmpOp} {r : R2} (ho : OpR X (compareOp op) r) (hf : OpS X.K f (r2 r)) (ha : TPO X W a o1) (hb : TPO X W b o2) (hm : behindInMarks op b = false) : TPB X W (.Compare a [op] [b] pos) (dT (dOp f [o1, o2])) :=
  let ⟨_, a1, a2⟩ := ha; let ⟨_, b1, b2⟩ := hb; ⟨_, pt_cmpR ho a1 b1 hm, (se_op (r := r2 r) (sl_cons a2 (sl_cons b2 sl_nil)) hf).test⟩
theorem t_ix {r : R2} (hr : IxR X r) (hf : OpS X.K f (r2 r)) (ha : TPO X W a o1) (hb : TPO X W b o2) (hs : PlainIx b := by exact fun _ _ => rfl) : TPE X W (.Subscript a b pos) (dOp f [o1, o2]) :=
  let ⟨_, a1, a2⟩ := ha; let ⟨_, b1, b2⟩ := hb; ⟨_, pe_ix hr a1 b1 hs, se_op (r := r2 r) (sl_cons a2 (sl_cons b2 sl_nil)) hf⟩
end
/-! ### what operations do -/
theorem Rd1.lf {K : PySem.W.Frag} {S H : Hp} {x v : V} (r : Rd1 K S H (.lf x) v) : v = x := by obtain ⟨D, r⟩ := r; cases r; rfl
abbrev KO (K : PySem.W.Frag) (S H : Hp) (P : T → Prop) (Q : VK) : Prop := ∀ t v S' H' Dn, Frs S H S' H' Dn → R K S' H' t v Dn → P t → Q v H'
theorem Frs.refl {S H : Hp} (s : Same S H) : Frs S H S H no := ⟨.refl _, fun _ h => .inl h, s, fun _ _ h => h, fun _ h => h.elim⟩
/-- a result that is a plain value -/
theorem fin_lf {K : PySem.W.Frag} {S H : Hp} {P : T → Prop} {Q : VK} {x : V} (s : Same S H) (k : KO K S H P Q) (p : P (.lf x)) : Q x H :=
  k (.lf x) x S H no (.refl s) .lf p
theorem free_S {S H : Hp} {p : Addr} (s : Same S H) (hp : H p = none) : S p = none := by
  cases e : S p with
  | none => rfl
  | some u => rw [s _ _ e] at hp; cases hp
/-- .. a new node of frozen children -/
theorem fin_new {K : PySem.W.Frag} {S H : Hp} {P : T → Prop} {Q : VK} {kd : Kd} {xs : List T} {vs : List V} {u : HO} {p : Addr} (s : Same S H) (k : KO K S H P Q) (hp : H p = none) (hk : kd.is u vs) (hn : kd.ln vs.length)
    (hl : xs.length = vs.length) (h : ∀ (i : Nat) (t : T) (v : V), xs[i]? = some t → vs[i]? = some v → R K S H t v no) (q : P (.nd true kd xs)) : Q (.ref p) (upd H p u) :=
  k (.nd true kd xs) (.ref p) S _ (fun a => a = p) ⟨.refl _, fun _ h => .inl h, Same.trans s (Same.new hp), Same.new hp, fun a e => by subst e; exact ⟨hp, by rw [upd_same]; simp, free_S s hp⟩⟩ (.own (fun _ => no) rfl upd_same hk hn hl (fun _ _ _ h => h.elim) (fun _ _ h => h.elim) fun i t v e1 e2 => (h i t v e1 e2).same (Same.new hp)) q
/-- .. that is frozen at once -/
theorem fin_newz {K : PySem.W.Frag} {S H H' : Hp} {P : T → Prop} {Q : VK} {kd : Kd} {xs : List T} {vs : List V} {u : HO} {p : Addr} (s : Same S H) (k : KO K S H P Q) (hp : H p = none) (s2 : Same H H') (e : H' p = some u) (hk : kd.is u vs) (hn : kd.ln vs.length)
    (hl : xs.length = vs.length) (h : ∀ (i : Nat) (t : T) (v : V), xs[i]? = some t → vs[i]? = some v → R K S H t v no) (q : P (.nd false kd xs)) (hu : kd.unl = kd := by rfl) : Q (.ref p) H' :=
  k (.nd false kd xs) (.ref p) (upd S p u) _ no ⟨.of (Same.new (free_S s hp)), fun a h => by
      by_cases z : a = p
      · subst z; exact .inr hp
      · rw [upd_ne z] at h; exact .inl h, fun a ob z => by
      by_cases za : a = p
      · subst za; rw [upd_same] at z; cases z; exact e
      · rw [upd_ne za] at z; exact s2 _ _ (s _ _ z), s2, fun _ h => h.elim⟩
    (.fz (by rw [← hu]; exact Kd.fz_of upd_same hk) hn hl fun i t v e1 e2 => (h i t v e1 e2).mono (.of (Same.new (free_S s hp))) (fun _ _ h => h.elim) fun _ h => h) q
/-- .. a thing that is there -/
theorem fin_old {K : PySem.W.Frag} {S H : Hp} {P : T → Prop} {Q : VK} {t : T} {v : V} (s : Same S H) (k : KO K S H P Q) (r : R K S H t v no) (q : P t) : Q v H :=
  k t v S H no (.refl s) r q
section
variable {K : PySem.W.Frag}
def fII (g : Int → Int → V) : List T → (T → Prop) → Prop
  | [.lf (.int i), .lf (.int j)], P => P (.lf (g i j))
  | _, _ => False
def fIC (C : Int → Int → Prop) (g : Int → Int → V) : List T → (T → Prop) → Prop
  | [.lf (.int i), .lf (.int j)], P => C i j ∧ P (.lf (g i j))
  | _, _ => False
theorem os_II {g : Int → Int → V} : OpS K (fII g) (r2 (rI0 g)) := by
  intro S H ts vs P Q s r d k
  unfold fII at d
  split at d
  · obtain ⟨x, _, rfl, rx, y, _, rfl, ry, rfl⟩ := r
    cases rx.lf
    cases ry.lf
    exact ⟨_, _, rfl, rfl, fin_lf s k d⟩
  · exact d.elim
theorem os_IC {C : Int → Int → Prop} {g : Int → Int → V} : OpS K (fIC C g) (r2 (rI C g)) := by
  intro S H ts vs P Q s r d k
  unfold fIC at d
  split at d
  · obtain ⟨x, _, rfl, rx, y, _, rfl, ry, rfl⟩ := r
    cases rx.lf
    cases ry.lf
    exact ⟨_, _, rfl, rfl, d.1, fin_lf s k d.2⟩
  · exact d.elim
end
end Tr

set_option Elab.async false
set_option linter.all false
set_option maxRecDepth 100000
set_option maxHeartbeats 1000000
set_option autoImplicit false
namespace Tr
open PySem PySem.Spec PyProof.Rows L2 Cm
section
variable {K : PySem.W.Frag} {S H : Hp} {o : Bool} {xs : List T} {v : V} {t : T}
/-- its children may be handed on -/
def ko (o : Bool) (xs : List T) : Prop := o = true → xs.all T.fzd = true
@[simp] theorem ko_false (xs : List T) : ko false xs := fun h => by cases h
@[simp] theorem ko_nil (o : Bool) : ko o [] := fun _ => rfl
structure Kids (K : PySem.W.Frag) (S H : Hp) (o : Bool) (xs : List T) (vs : List V) : Prop where
  len : xs.length = vs.length
  fz : ko o xs → ∀ (i : Nat) (t : T) (v : V), xs[i]? = some t → vs[i]? = some v → R K S H t v no
  rd : ∀ (i : Nat) (t : T) (v : V), xs[i]? = some t → vs[i]? = some v → Rd1 K S H t v
theorem kids_own {vs : List V} {Df : Nat → AP} (hl : xs.length = vs.length) (h : ∀ (i : Nat) (t : T) (v : V), xs[i]? = some t → vs[i]? = some v → R K S H t v (Df i)) : Kids K S H true xs vs :=
  ⟨hl, fun k i t v e1 e2 => (h i t v e1 e2).fzd (List.all_eq_true.mp (k rfl) t (List.mem_of_getElem? e1)), fun i t v e1 e2 => ⟨_, h i t v e1 e2⟩⟩
theorem kids_fz {vs : List V} (hl : xs.length = vs.length) (h : ∀ (i : Nat) (t : T) (v : V), xs[i]? = some t → vs[i]? = some v → R K S H t v no) : Kids K S H false xs vs :=
  ⟨hl, fun _ => h, fun i t v e1 e2 => ⟨_, h i t v e1 e2⟩⟩
theorem Rd1.lst (s : Same S H) (r : Rd1 K S H (.nd o .lst xs) v) : ∃ a vs, v = .ref a ∧ H a = some (.lst vs) ∧ Kids K S H o xs vs := by
  obtain ⟨D, r⟩ := r
  cases r with
  | own Df hD e hk hn hl h1 h2 h3 => cases hk; exact ⟨_, _, rfl, e, kids_own hl h3⟩
  | fz hk hn hl h3 => exact ⟨_, _, rfl, s _ _ hk, kids_fz hl h3⟩
theorem Rd1.seq (s : Same S H) (r : Rd1 K S H (.nd o .seq xs) v) : ∃ a vs, v = .ref a ∧ SqL K H a vs ∧ Kids K S H o xs vs := by
  obtain ⟨D, r⟩ := r
  cases r with
  | own Df hD e hk hn hl h1 h2 h3 => exact hk.elim
  | fz hk hn hl h3 => exact ⟨_, _, rfl, s.seq hk, kids_fz hl h3⟩
theorem Rd1.tup (s : Same S H) (r : Rd1 K S H (.nd o .tup xs) v) : ∃ a vs, v = .ref a ∧ H a = some (.tup vs) ∧ Kids K S H o xs vs := by
  obtain ⟨D, r⟩ := r
  cases r with
  | own Df hD e hk hn hl h1 h2 h3 => cases hk; exact ⟨_, _, rfl, e, kids_own hl h3⟩
  | fz hk hn hl h3 => exact ⟨_, _, rfl, s _ _ hk, kids_fz hl h3⟩
theorem Rd1.tpk (s : Same S H) (r : Rd1 K S H (.nd o .tpk xs) v) : ∃ a vs, v = .ref a ∧ SqT K H a vs ∧ Kids K S H o xs vs := by
  obtain ⟨D, r⟩ := r
  cases r with
  | own Df hD e hk hn hl h1 h2 h3 => exact hk.elim
  | fz hk hn hl h3 => exact ⟨_, _, rfl, Same.sqt s hk, kids_fz hl h3⟩
theorem Rd1.dk {ks : List Key} (s : Same S H) (r : Rd1 K S H (.nd o (.dk ks) xs) v) : ∃ a vs, v = .ref a ∧ Rd H a (.dK (ks.zip vs)) ∧ ks.length = vs.length ∧ ks.Nodup ∧ Kids K S H o xs vs := by
  obtain ⟨D, r⟩ := r
  cases r with
  | own Df hD e hk hn hl h1 h2 h3 => cases hk; exact ⟨_, _, rfl, .inl e, hn.1, hn.2, kids_own hl h3⟩
  | fz hk hn hl h3 => exact ⟨_, _, rfl, Rd.same s hk, hn.1, hn.2, kids_fz hl h3⟩
theorem Rd1.dt {ks : List (List Key)} (s : Same S H) (r : Rd1 K S H (.nd o (.dt ks) xs) v) : ∃ a vs, v = .ref a ∧ Rd H a (.dT (ks.zip vs)) ∧ ks.length = vs.length ∧ ks.Nodup ∧ Kids K S H o xs vs := by
  obtain ⟨D, r⟩ := r
  cases r with
  | own Df hD e hk hn hl h1 h2 h3 => cases hk; exact ⟨_, _, rfl, .inl e, hn.1, hn.2, kids_own hl h3⟩
  | fz hk hn hl h3 => exact ⟨_, _, rfl, Rd.same s hk, hn.1, hn.2, kids_fz hl h3⟩
theorem Rd1.ins {C : Addr} {fs : List Str} (s : Same S H) (r : Rd1 K S H (.nd o (.ins C fs) xs) v) : ∃ a dx vs, v = .ref a ∧ H a = some (.ins C dx (fs.zip vs)) ∧ fs.length = vs.length ∧ Kids K S H o xs vs := by
  obtain ⟨D, r⟩ := r
  cases r with
  | own Df hD e hk hn hl h1 h2 h3 => obtain ⟨dx, hk⟩ := hk; subst hk; exact ⟨_, dx, _, rfl, e, hn, kids_own hl h3⟩
  | fz hk hn hl h3 => obtain ⟨u, e, dx, hk⟩ := hk; subst hk; exact ⟨_, dx, _, rfl, s _ _ e, hn, kids_fz hl h3⟩
theorem Rd1.exc {C : Addr} {fs : List Str} (s : Same S H) (r : Rd1 K S H (.nd o (.exc C fs) xs) v) : ∃ a d vs, v = .ref a ∧ H a = some (exh a (.ref C) (some d)) ∧ H d = some (.xd (fs.zip vs)) ∧ fs.length = vs.length ∧ Kids K S H o xs vs := by
  obtain ⟨D, r⟩ := r
  cases r with
  | own Df hD e hk hn hl h1 h2 h3 => exact hk.elim
  | fz hk hn hl h3 => obtain ⟨d, e1, e2⟩ := hk; exact ⟨_, d, _, rfl, s _ _ e1, s _ _ e2, hn, kids_fz hl h3⟩
/-! a child of a list of frozen ones, where the values are cut, put together -/
theorem get_app {α β : Type} {xs ys : List α} {vs ws : List β} (hl : xs.length = vs.length) {i : Nat} {t : α} {v : β} (e1 : (xs ++ ys)[i]? = some t) (e2 : (vs ++ ws)[i]? = some v) : (xs[i]? = some t ∧ vs[i]? = some v) ∨ (ys[i - xs.length]? = some t ∧ ws[i - xs.length]? = some v) := by
  by_cases h : i < xs.length
  · rw [List.getElem?_append_left h] at e1
    rw [List.getElem?_append_left (by omega)] at e2
    exact .inl ⟨e1, e2⟩
  · rw [List.getElem?_append_right (by omega)] at e1
    rw [List.getElem?_append_right (by omega), ← hl] at e2
    exact .inr ⟨e1, e2⟩
theorem get_at {α : Type} {xs : List α} {ys : List V} (hl : xs.length = ys.length) {i : Int} {t : α} (h : atI xs i = some t) : ∃ (j : Nat) (v : V), xs[j]? = some t ∧ ys[j]? = some v ∧ atI ys i = some v := by
  unfold atI at h ⊢
  rw [← hl]
  cases e : ixN xs.length i with
  | none => rw [e] at h; cases h
  | some j =>
    rw [e] at h
    have h : xs[j]? = some t := h
    have hj := (List.getElem?_eq_some_iff.mp h).1
    exact ⟨j, ys[j], h, List.getElem?_eq_getElem (by omega), by simp [List.getElem?_eq_getElem (show j < ys.length by omega)]⟩
end
/-! ### + -/
def fAdd : List T → (T → Prop) → Prop
  | [.lf (.int i), .lf (.int j)], P => P (.lf (.int (i + j)))
  | [.lf (.str a), .lf (.str b)], P => a.length + b.length ≤ sizeLine ∧ P (.lf (.str (a ++ b)))
  | [.nd o .lst xs, .nd o' .lst ys], P => xs.length + ys.length ≤ sizeLine ∧ ko o xs ∧ ko o' ys ∧ P (.nd true .lst (xs ++ ys))
  | [.nd false .tup xs, .nd false .tup ys], P => xs.length + ys.length ≤ sizeLine ∧ P (.nd false .tup (xs ++ ys))
  | _, _ => False
def rAddA (K : PySem.W.Frag) : R2 := fun x y H Q => (rI0 (fun i j => .int (i + j))) x y H Q ∨ (fun x y H Q => ∃ i j, x = .str i ∧ y = .str j ∧ i.length + j.length ≤ sizeLine ∧ Q (.str (i ++ j)) H) x y H Q ∨ rCat x y H Q ∨ rCatA K x y H Q
theorem op_addA {X : Cx} : OpR X (binaryOp .Add) (rAddA X.K) := op_add.or (op_add_str.or (op_cat.or op_catA))
section
variable {K : PySem.W.Frag}
theorem os_add : OpS K fAdd (r2 (rAddA K)) := by
  intro S H ts vs P Q s r d k
  unfold fAdd at d
  split at d
  · obtain ⟨x, _, rfl, rx, y, _, rfl, ry, rfl⟩ := r
    cases rx.lf
    cases ry.lf
    exact .inl ⟨_, _, rfl, rfl, fin_lf s k d⟩
  · obtain ⟨x, _, rfl, rx, y, _, rfl, ry, rfl⟩ := r
    cases rx.lf
    cases ry.lf
    exact .inr (.inl ⟨_, _, rfl, rfl, d.1, fin_lf s k d.2⟩)
  · rename_i o xs o' ys
    obtain ⟨x, _, rfl, rx, y, _, rfl, ry, rfl⟩ := r
    obtain ⟨hs, k1, k2, d⟩ := d
    obtain ⟨a, vs, rfl, ea, ka⟩ := rx.lst s
    obtain ⟨b, ws, rfl, eb, kb⟩ := ry.lst s
    refine .inr (.inr (.inl ⟨a, b, vs, ws, rfl, rfl, ea, eb, by rw [← ka.len, ← kb.len]; exact hs, fun p hp => fin_new (kd := .lst) s k hp rfl trivial (by simp [ka.len, kb.len]) (fun i t v e1 e2 => ?_) d⟩))
    rcases get_app ka.len e1 e2 with ⟨h1, h2⟩ | ⟨h1, h2⟩
    · exact ka.fz k1 _ _ _ h1 h2
    · exact kb.fz k2 _ _ _ h1 h2
  · rename_i xs ys
    obtain ⟨x, _, rfl, ⟨_, rx⟩, y, _, rfl, ⟨_, ry⟩, rfl⟩ := r
    obtain ⟨hs, d⟩ := d
    cases rx with
    | @fz a _ _ vs _ ha _ hla h3 =>
      cases ry with
      | @fz b _ _ ws _ hb _ hlb h4 =>
        have kids : ∀ (i : Nat) (t : T) (v : V), (xs ++ ys)[i]? = some t → (vs ++ ws)[i]? = some v → R K S H t v no := fun i t v e1 e2 => by
          rcases get_app hla e1 e2 with ⟨h1, h2⟩ | ⟨h1, h2⟩
          · exact h3 _ _ _ h1 h2
          · exact h4 _ _ _ h1 h2
        refine .inr (.inr (.inr ⟨a, b, vs, ws, rfl, rfl, .of (s _ _ ha), .of (s _ _ hb), by rw [← hla, ← hlb]; exact hs, fun e => ?_, fun _ e => ?_, fun _ _ p hp => fin_newz (kd := .tup) s k hp (Same.new hp) upd_same rfl trivial (by simp [hla, hlb]) kids d⟩))
        · subst e
          have e : xs = [] := List.length_eq_zero_iff.mp hla
          subst e
          exact fin_old s k (.fz (k := .tup) hb trivial hlb h4) d
        · subst e
          have e : ys = [] := List.length_eq_zero_iff.mp hlb
          subst e
          rw [List.append_nil] at d
          exact fin_old s k (.fz (k := .tup) ha trivial hla h3) d
  · exact d.elim
end
/-! ### ints -/
def fMul : List T → (T → Prop) → Prop
  | [.lf (.int i), .lf (.int j)], P => CMulW i j ∧ P (.lf (.int (i * j)))
  | [.nd o .lst xs, .lf (.int j)], P => (-(2 ^ 63) ≤ j ∧ j < 2 ^ 63 ∧ xs.length * j.toNat ≤ sizeLine) ∧ ko o xs ∧ P (.nd true .lst (List.replicate j.toNat xs).flatten)
  | _, _ => False
def rMulA : R2 := fun x y H Q => (rI CMulW fun i j => .int (i * j)) x y H Q ∨ rRep x y H Q
theorem op_mulA {X : Cx} : OpR X (binaryOp .Mult) rMulA := op_mulW.or op_rep
def fStrStr (g : Str → Str → V) : List T → (T → Prop) → Prop
  | [.lf (.str a), .lf (.str b)], P => P (.lf (g a b))
  | _, _ => False
/-- a comparison of two ints, of two texts -/
def fCmp (g : Int → Int → Bool) (h : Str → Str → Bool) : List T → (T → Prop) → Prop
  | [.lf (.int i), .lf (.int j)], P => P (.lf (.bl (g i j)))
  | [.lf (.str a), .lf (.str b)], P => P (.lf (.bl (h a b)))
  | _, _ => False
def rCmpA (g : Int → Int → Bool) (h : Str → Str → Bool) : R2 := fun x y H Q => rI0 (fun i j => .bl (g i j)) x y H Q ∨ ∃ i j, x = .str i ∧ y = .str j ∧ Q (.bl (h i j)) H
def strLt (a b : Str) : Bool := decide (a.cps.toList < b.cps.toList)
abbrev fLt := fCmp (fun i j => decide (i < j)) strLt
abbrev fLe := fCmp (fun i j => decide (i ≤ j)) fun a b => !strLt b a
abbrev fGt := fCmp (fun i j => decide (j < i)) fun a b => strLt b a
abbrev fGe := fCmp (fun i j => decide (j ≤ i)) fun a b => !strLt a b
theorem op_ltA {X : Cx} : OpR X (compareOp .Lt) (rCmpA (fun i j => decide (i < j)) strLt) := op_lt.or op_lt_str
theorem op_leA {X : Cx} : OpR X (compareOp .LtE) (rCmpA (fun i j => decide (i ≤ j)) fun a b => !strLt b a) := op_le.or op_le_str
theorem op_gtA {X : Cx} : OpR X (compareOp .Gt) (rCmpA (fun i j => decide (j < i)) fun a b => strLt b a) := op_gt.or op_gt_str
theorem op_geA {X : Cx} : OpR X (compareOp .GtE) (rCmpA (fun i j => decide (j ≤ i)) fun a b => !strLt a b) := op_ge.or op_ge_str
section
variable {K : PySem.W.Frag}
theorem get_rep {α β : Type} {xs : List α} {vs : List β} (hl : xs.length = vs.length) : ∀ (n i : Nat) (t : α) (v : β), (List.replicate n xs).flatten[i]? = some t → (List.replicate n vs).flatten[i]? = some v → ∃ j : Nat, xs[j]? = some t ∧ vs[j]? = some v
  | 0, i, t, v, e, _ => by simp at e
  | n + 1, i, t, v, e1, e2 => by
    rw [List.replicate_succ, List.flatten_cons] at e1 e2
    rcases get_app hl e1 e2 with h | ⟨h1, h2⟩
    · exact ⟨_, h⟩
    · exact get_rep hl n _ t v h1 h2
theorem os_mul : OpS K fMul (r2 rMulA) := by
  intro S H ts vs P Q s r d k
  unfold fMul at d
  split at d
  · obtain ⟨x, _, rfl, rx, y, _, rfl, ry, rfl⟩ := r
    cases rx.lf
    cases ry.lf
    exact .inl ⟨_, _, rfl, rfl, d.1, fin_lf s k d.2⟩
  · obtain ⟨x, _, rfl, rx, y, _, rfl, ry, rfl⟩ := r
    obtain ⟨⟨b1, b2, b3⟩, ko', d⟩ := d
    obtain ⟨a, vs, rfl, ea, ka⟩ := rx.lst s
    cases ry.lf
    refine .inr ⟨a, _, vs, rfl, rfl, ea, b1, b2, by rw [← ka.len]; exact b3, fun p hp => fin_new (kd := .lst) s k hp rfl trivial (by simp [ka.len]) (fun i t v e1 e2 => ?_) d⟩
    obtain ⟨j, h1, h2⟩ := get_rep ka.len _ _ _ _ e1 e2
    exact ka.fz ko' _ _ _ h1 h2
  · exact d.elim
theorem os_cmp {g : Int → Int → Bool} {h : Str → Str → Bool} : OpS K (fCmp g h) (r2 (rCmpA g h)) := by
  intro S H ts vs P Q s r d k
  unfold fCmp at d
  split at d
  · obtain ⟨x, _, rfl, rx, y, _, rfl, ry, rfl⟩ := r
    cases rx.lf
    cases ry.lf
    exact .inl ⟨_, _, rfl, rfl, fin_lf s k d⟩
  · obtain ⟨x, _, rfl, rx, y, _, rfl, ry, rfl⟩ := r
    cases rx.lf
    cases ry.lf
    exact .inr ⟨_, _, rfl, rfl, fin_lf s k d⟩
  · exact d.elim
def fNeg : List T → (T → Prop) → Prop
  | [.lf (.int i)], P => P (.lf (.int (-i)))
  | _, _ => False
theorem os_neg : OpS K fNeg (r1 (rU fun i => .int (-i))) := by
  intro S H ts vs P Q s r d k
  unfold fNeg at d
  split at d
  · obtain ⟨x, _, rfl, rx, rfl⟩ := r
    cases rx.lf
    exact ⟨_, rfl, fin_lf s k d⟩
  · exact d.elim
end
/-! ### is -/
def T.isN : T → Bool
  | .lf .non => true
  | _ => false
def fIsN : List T → (T → Prop) → Prop
  | [t, .lf .non], P => P (.lf (.bl t.isN))
  | _, _ => False
def fNotN : List T → (T → Prop) → Prop
  | [t, .lf .non], P => P (.lf (.bl (!t.isN)))
  | _, _ => False
section
variable {K : PySem.W.Frag}
theorem isN_v {S H : Hp} {t : T} {v : V} (r : Rd1 K S H t v) : decide (v = .non) = t.isN := by
  obtain ⟨D, r⟩ := r
  cases r with
  | lf => cases v <;> simp [T.isN]
  | own => simp [T.isN]
  | fz => simp [T.isN]
theorem os_isN : OpS K fIsN (r2 (fun x y H Q => y = .non ∧ Q (.bl (decide (x = .non))) H)) := by
  intro S H ts vs P Q s r d k
  unfold fIsN at d
  split at d
  · obtain ⟨x, _, rfl, rx, y, _, rfl, ry, rfl⟩ := r
    cases ry.lf
    exact ⟨rfl, by rw [isN_v rx]; exact fin_lf s k d⟩
  · exact d.elim
theorem os_notN : OpS K fNotN (r2 (fun x y H Q => y = .non ∧ Q (.bl (!decide (x = .non))) H)) := by
  intro S H ts vs P Q s r d k
  unfold fNotN at d
  split at d
  · obtain ⟨x, _, rfl, rx, y, _, rfl, ry, rfl⟩ := r
    cases ry.lf
    exact ⟨rfl, by rw [isN_v rx]; exact fin_lf s k d⟩
  · exact d.elim
end
/-! ### == of data at any depth -/
mutual
def T.py : T → Option PyData
  | .lf .non => some .none
  | .lf (.bl b) => some (.bool b)
  | .lf (.int i) => some (.int i)
  | .lf (.str x) => some (.str x)
  | .nd _ .lst xs => (pys xs).map .list
  | .nd _ .seq xs => (pys xs).map .list
  | .nd _ .tup xs => (pys xs).map .tuple
  | .nd _ .tpk xs => (pys xs).map .tuple
  | _ => none
def pys : List T → Option (List PyData)
  | [] => some []
  | t :: ts => match t.py, pys ts with
    | some d, some ds => some (d :: ds)
    | _, _ => none
end
section
variable {K : PySem.W.Frag}
mutual
theorem dp_of {S H : Hp} (s : Same S H) : ∀ (t : T) (v : V) (d : PyData), Rd1 K S H t v → t.py = some d → L2.Dp K H v d
  | .lf x, v, d, r, e => by
    cases r.lf
    cases x <;> simp [T.py] at e <;> subst e
    · exact .non
    · exact .bl _
    · exact .int _
    · exact .str _
  | .nd o k xs, v, d, r, e => by
    cases k with
    | lst =>
      obtain ⟨a, vs, rfl, ea, ka⟩ := r.lst s
      simp only [T.py] at e
      cases q : pys xs with
      | none => rw [q] at e; cases e
      | some ds => rw [q] at e; cases e; exact .lst (.of ea) (dps_of s xs vs ds ka.len ka.rd q)
    | seq =>
      obtain ⟨a, vs, rfl, ea, ka⟩ := r.seq s
      simp only [T.py] at e
      cases q : pys xs with
      | none => rw [q] at e; cases e
      | some ds => rw [q] at e; cases e; exact .lst ea (dps_of s xs vs ds ka.len ka.rd q)
    | tup =>
      obtain ⟨a, vs, rfl, ea, ka⟩ := r.tup s
      simp only [T.py] at e
      cases q : pys xs with
      | none => rw [q] at e; cases e
      | some ds => rw [q] at e; cases e; exact .tup (.of ea) (dps_of s xs vs ds ka.len ka.rd q)
    | tpk =>
      obtain ⟨a, vs, rfl, ea, ka⟩ := r.tpk s
      simp only [T.py] at e
      cases q : pys xs with
      | none => rw [q] at e; cases e
      | some ds => rw [q] at e; cases e; exact .tup ea (dps_of s xs vs ds ka.len ka.rd q)
    | _ => simp [T.py] at e
theorem dps_of {S H : Hp} (s : Same S H) : ∀ (ts : List T) (vs : List V) (ds : List PyData), ts.length = vs.length → (∀ (i : Nat) (t : T) (v : V), ts[i]? = some t → vs[i]? = some v → Rd1 K S H t v) → pys ts = some ds → L2.DpAll K H vs ds
  | [], vs, ds, hl, _, e => by
    cases e
    cases List.length_eq_zero_iff.mp hl.symm
    exact .nil
  | t :: ts, [], ds, hl, _, _ => by simp at hl
  | t :: ts, v :: vs, ds, hl, h, e => by
    simp only [pys] at e
    cases q1 : t.py with
    | none => rw [q1] at e; cases e
    | some d1 =>
      cases q2 : pys ts with
      | none => rw [q1, q2] at e; cases e
      | some d2 =>
        rw [q1, q2] at e
        cases e
        exact .cons (dp_of s t v d1 (h 0 t v rfl rfl) q1) (dps_of s ts vs d2 (by simpa using hl) (fun i t v e1 e2 => h (i + 1) t v (by simpa using e1) (by simpa using e2)) q2)
end
def fEq : List T → (T → Prop) → Prop
  | [t, u], P => ∃ d e, t.py = some d ∧ u.py = some e ∧ SeqAt.shaped d = true ∧ SeqAt.shaped e = true ∧ P (.lf (.bl (PyData.eqv d e)))
  | _, _ => False
def fNe : List T → (T → Prop) → Prop
  | [t, u], P => ∃ d e, t.py = some d ∧ u.py = some e ∧ SeqAt.shaped d = true ∧ SeqAt.shaped e = true ∧ P (.lf (.bl (!PyData.eqv d e)))
  | _, _ => False
theorem os_eq : OpS K fEq (r2 (rEqD K)) := by
  intro S H ts vs P Q s r d k
  unfold fEq at d
  split at d
  · obtain ⟨x, _, rfl, rx, y, _, rfl, ry, rfl⟩ := r
    obtain ⟨d1, d2, e1, e2, s1, s2, d⟩ := d
    exact ⟨d1, d2, dp_of s _ _ _ rx e1, dp_of s _ _ _ ry e2, s1, s2, fin_lf s k d⟩
  · exact d.elim
theorem os_ne : OpS K fNe (r2 (rNeD K)) := by
  intro S H ts vs P Q s r d k
  unfold fNe at d
  split at d
  · obtain ⟨x, _, rfl, rx, y, _, rfl, ry, rfl⟩ := r
    obtain ⟨d1, d2, e1, e2, s1, s2, d⟩ := d
    exact ⟨d1, d2, dp_of s _ _ _ rx e1, dp_of s _ _ _ ry e2, s1, s2, fin_lf s k d⟩
  · exact d.elim
/-! ### in -/
def leafs : List T → Option (List V)
  | [] => some []
  | .lf v :: ts => if flatV v = true then (leafs ts).map (v :: ·) else none
  | _ :: _ => none
theorem leafs_ok {S H : Hp} : ∀ {ts : List T} {vs us : List V}, ts.length = vs.length → (∀ (i : Nat) (t : T) (v : V), ts[i]? = some t → vs[i]? = some v → Rd1 K S H t v) → leafs ts = some us → vs = us ∧ us.all flatV = true
  | [], vs, us, hl, _, e => by cases e; exact ⟨List.length_eq_zero_iff.mp hl.symm, rfl⟩
  | t :: ts, [], us, hl, _, _ => by simp at hl
  | t :: ts, v :: vs, us, hl, h, e => by
    cases t with
    | nd o k xs => simp [leafs] at e
    | lf x =>
      simp only [leafs] at e
      split at e
      · rename_i hf
        cases q : leafs ts with
        | none => rw [q] at e; cases e
        | some us' =>
          rw [q] at e
          cases e
          obtain ⟨e1, e2⟩ := leafs_ok (by simpa using hl) (fun i t v e1 e2 => h (i + 1) t v (by simpa using e1) (by simpa using e2)) q
          cases (h 0 (.lf x) v rfl rfl).lf
          exact ⟨by rw [e1], by simp [hf, e2]⟩
      · cases e
/-- in a list of data; in a tuple of plain values; a sign in a text; an int in a range is not here -/
def fIn (n : Bool) : List T → (T → Prop) → Prop
  | [.lf (.str a), .lf (.str z)], P => ∃ c, a = ⟨#[c]⟩ ∧ P (.lf (.bl (n ^^ decide (c ∈ z.cps.toList))))
  | [t, .nd _ .lst xs], P => ∃ d ds, t.py = some d ∧ pys xs = some ds ∧ SeqAt.shaped d = true ∧ SeqAt.shaped (.list ds) = true ∧ P (.lf (.bl (n ^^ (ds.any fun z => PyData.eqv z d))))
  | [.lf x, .nd _ .tup xs], P => flatV x = true ∧ ∃ us, leafs xs = some us ∧ P (.lf (.bl (n ^^ inV x us)))
  | _, _ => False
def rInA (K : PySem.W.Frag) (n : Bool) : R2 := fun x y H Q => (∃ (c : Nat) (z : Str), x = .str ⟨#[c]⟩ ∧ y = .str z ∧ Q (.bl (n ^^ decide (c ∈ z.cps.toList))) H) ∨
  (∃ d ds, L2.Dp K H x d ∧ L2.Dp K H y (.list ds) ∧ SeqAt.shaped d = true ∧ SeqAt.shaped (.list ds) = true ∧ Q (.bl (n ^^ ds.any fun z => PyData.eqv z d)) H) ∨
  (∃ p xs, y = .ref p ∧ (SqL K H p xs ∨ SqT K H p xs) ∧ flatV x = true ∧ xs.all flatV = true ∧ Q (.bl (n ^^ inV x xs)) H)
theorem op_inA {X : Cx} (hu : X.A.units + 65 < cLine) : OpR X (compareOp .In) (rInA X.K false) := by
  intro pins s σ H x y v u Q I rx ry h
  rcases h with ⟨c, z, h1, h2, q⟩ | ⟨d, ds, h1, h2, h3, h4, q⟩ | ⟨p, xs, h1, h2, h3, h4, q⟩
  · exact op_in_sign pins s σ H x y v u Q I rx ry ⟨c, z, h1, h2, by simpa using q⟩
  · exact op_inD hu pins s σ H x y v u Q I rx ry ⟨d, ds, h1, h2, h3, h4, by simpa using q⟩
  · exact op_in_seq pins s σ H x y v u Q I rx ry ⟨p, xs, h1, h2, h3, h4, by simpa using q⟩
theorem op_notInA {X : Cx} (hu : X.A.units + 65 < cLine) : OpR X (compareOp .NotIn) (rInA X.K true) := by
  intro pins s σ H x y v u Q I rx ry h
  rcases h with ⟨c, z, h1, h2, q⟩ | ⟨d, ds, h1, h2, h3, h4, q⟩ | ⟨p, xs, h1, h2, h3, h4, q⟩
  · exact op_notIn_sign pins s σ H x y v u Q I rx ry ⟨c, z, h1, h2, by simpa using q⟩
  · exact op_notInD hu pins s σ H x y v u Q I rx ry ⟨d, ds, h1, h2, h3, h4, by simpa using q⟩
  · exact op_notIn_seq pins s σ H x y v u Q I rx ry ⟨p, xs, h1, h2, h3, h4, by simpa using q⟩
theorem os_in {n : Bool} : OpS K (fIn n) (r2 (rInA K n)) := by
  intro S H ts vs P Q s r d k
  unfold fIn at d
  split at d
  · obtain ⟨x, _, rfl, rx, y, _, rfl, ry, rfl⟩ := r
    obtain ⟨c, rfl, d⟩ := d
    cases rx.lf
    cases ry.lf
    exact .inl ⟨_, _, rfl, rfl, fin_lf s k d⟩
  · obtain ⟨x, _, rfl, rx, y, _, rfl, ry, rfl⟩ := r
    obtain ⟨d1, ds, e1, e2, s1, s2, d⟩ := d
    exact .inr (.inl ⟨d1, ds, dp_of s _ _ _ rx e1, dp_of s _ _ _ ry (by simp [T.py, e2]), s1, s2, fin_lf s k d⟩)
  · obtain ⟨x, _, rfl, rx, y, _, rfl, ry, rfl⟩ := r
    obtain ⟨f, us, e, d⟩ := d
    cases rx.lf
    obtain ⟨a, vs, rfl, ea, ka⟩ := ry.tup s
    obtain ⟨rfl, f2⟩ := leafs_ok ka.len ka.rd e
    exact .inr (.inr ⟨a, _, rfl, .inr (.of ea), f, f2, fin_lf s k d⟩)
  · exact d.elim
/-! ### [ ] -/
def strAt (c : Nat) : T := .lf (.str ⟨#[c]⟩)
def fIx : List T → (T → Prop) → Prop
  | [.nd _ .lst xs, .lf (.int i)], P => ∃ t, atI xs i = some t ∧ t.fzd = true ∧ P t
  | [.nd _ .seq xs, .lf (.int i)], P => ∃ t, atI xs i = some t ∧ t.fzd = true ∧ P t
  | [.nd _ .tup xs, .lf (.int i)], P => ∃ t, atI xs i = some t ∧ t.fzd = true ∧ P t
  | [.nd _ .tpk xs, .lf (.int i)], P => ∃ t, atI xs i = some t ∧ t.fzd = true ∧ P t
  | [.lf (.str z), .lf (.int i)], P => z.length ≤ sizeLine ∧ ∃ c, atI z.cps.toList i = some c ∧ P (strAt c)
  | _, _ => False
theorem os_ix : OpS K fIx (r2 (rIx K)) := by
  intro S H ts vs P Q s r d k
  unfold fIx at d
  split at d
  · obtain ⟨x, _, rfl, rx, y, _, rfl, ry, rfl⟩ := r
    obtain ⟨t, e, f, d⟩ := d
    obtain ⟨a, vs, rfl, ea, ka⟩ := rx.lst s
    cases ry.lf
    obtain ⟨j, v, h1, h2, h3⟩ := get_at ka.len e
    obtain ⟨_, q⟩ := ka.rd _ _ _ h1 h2
    exact .inl ⟨a, vs, _, v, rfl, rfl, .of ea, h3, fin_old s k (q.fzd f) d⟩
  · obtain ⟨x, _, rfl, rx, y, _, rfl, ry, rfl⟩ := r
    obtain ⟨t, e, f, d⟩ := d
    obtain ⟨a, vs, rfl, ea, ka⟩ := rx.seq s
    cases ry.lf
    obtain ⟨j, v, h1, h2, h3⟩ := get_at ka.len e
    obtain ⟨_, q⟩ := ka.rd _ _ _ h1 h2
    exact .inl ⟨a, vs, _, v, rfl, rfl, ea, h3, fin_old s k (q.fzd f) d⟩
  · obtain ⟨x, _, rfl, rx, y, _, rfl, ry, rfl⟩ := r
    obtain ⟨t, e, f, d⟩ := d
    obtain ⟨a, vs, rfl, ea, ka⟩ := rx.tup s
    cases ry.lf
    obtain ⟨j, v, h1, h2, h3⟩ := get_at ka.len e
    obtain ⟨_, q⟩ := ka.rd _ _ _ h1 h2
    exact .inr (.inl ⟨a, vs, _, v, rfl, rfl, .of ea, h3, fin_old s k (q.fzd f) d⟩)
  · obtain ⟨x, _, rfl, rx, y, _, rfl, ry, rfl⟩ := r
    obtain ⟨t, e, f, d⟩ := d
    obtain ⟨a, vs, rfl, ea, ka⟩ := rx.tpk s
    cases ry.lf
    obtain ⟨j, v, h1, h2, h3⟩ := get_at ka.len e
    obtain ⟨_, q⟩ := ka.rd _ _ _ h1 h2
    exact .inr (.inl ⟨a, vs, _, v, rfl, rfl, ea, h3, fin_old s k (q.fzd f) d⟩)
  · obtain ⟨x, _, rfl, rx, y, _, rfl, ry, rfl⟩ := r
    obtain ⟨hz, c, e, d⟩ := d
    cases rx.lf
    cases ry.lf
    exact .inr (.inr ⟨_, _, c, rfl, rfl, hz, e, fin_lf s k d⟩)
  · exact d.elim
/-! ### len -/
def fLen : List T → (T → Prop) → Prop
  | [.nd _ .lst xs], P => P (.lf (.int (xs.length : Nat)))
  | [.nd _ .seq xs], P => P (.lf (.int (xs.length : Nat)))
  | [.nd _ .tup xs], P => P (.lf (.int (xs.length : Nat)))
  | [.nd _ .tpk xs], P => P (.lf (.int (xs.length : Nat)))
  | [.lf (.str z)], P => z.length ≤ sizeLine ∧ P (.lf (.int (z.length : Nat)))
  | _, _ => False
abbrev rLenA (K : PySem.W.Frag) : List V → Hp → VK → Prop := fun xs H Q => ∃ x n, xs = [x] ∧ LenV K x H n ∧ Q (.int (n : Nat)) H
theorem os_len : OpS K fLen (rLenA K) := by
  intro S H ts vs P Q s r d k
  unfold fLen at d
  split at d
  · obtain ⟨x, _, rfl, rx, rfl⟩ := r
    obtain ⟨a, vs, rfl, ea, ka⟩ := rx.lst s
    rw [ka.len] at d
    exact ⟨_, _, rfl, .inl ⟨_, .of ea, rfl⟩, fin_lf s k d⟩
  · obtain ⟨x, _, rfl, rx, rfl⟩ := r
    obtain ⟨a, vs, rfl, ea, ka⟩ := rx.seq s
    rw [ka.len] at d
    exact ⟨_, _, rfl, .inl ⟨_, ea, rfl⟩, fin_lf s k d⟩
  · obtain ⟨x, _, rfl, rx, rfl⟩ := r
    obtain ⟨a, vs, rfl, ea, ka⟩ := rx.tup s
    rw [ka.len] at d
    exact ⟨_, _, rfl, .inr ⟨_, .of ea, rfl⟩, fin_lf s k d⟩
  · obtain ⟨x, _, rfl, rx, rfl⟩ := r
    obtain ⟨a, vs, rfl, ea, ka⟩ := rx.tpk s
    rw [ka.len] at d
    exact ⟨_, _, rfl, .inr ⟨_, ea, rfl⟩, fin_lf s k d⟩
  · obtain ⟨x, _, rfl, rx, rfl⟩ := r
    cases rx.lf
    exact ⟨_, _, rfl, ⟨d.1, rfl⟩, fin_lf s k d.2⟩
  · exact d.elim
end
end Tr

set_option Elab.async false
set_option linter.all false
set_option maxRecDepth 100000
set_option maxHeartbeats 1000000
set_option autoImplicit false
namespace Tr
open PySem PySem.Spec PyProof.Rows L2 Cm
/-! ### calls of built-ins -/
section
variable {X : Cx} {W : Wc} {io : List Nat} {pos p : Pos} {e : Expr} {es : List Expr} {os : List Od} {f : List T → (T → Prop) → Prop} {r : List V → Hp → VK → Prop} {x : Str} {id T' : String}
theorem t_B (hc : CallR X (.builtin id) r) (hf : OpS X.K f r) (hg : Gl X x) (hm : X.mg x = none) (hv : bootBuiltins x = some (.builtin id)) (ha : TPL X W (e :: es) os) (hn : x ≠ "__name__" := by decide) (hdb : (x == ("__debug__" : Str)) = false := by decide)
    (he : starEach (e :: es) X.env = (false, eval e X.env) :: starEach es X.env := by rfl) (hpl : (backTo pos (starEach es X.env)).any (·.1) = false := by rfl) : TPE X W (.Call (.Name x p) (e :: es) [] pos) (dOp f os) :=
  let ⟨_, a1, a2⟩ := ha; ⟨_, pe_callB hc hg hm hv a1 hn hdb he hpl, se_op a2 hf⟩
theorem t_Ty (hc : CallR X (.type T') r) (hf : OpS X.K f r) (hg : Gl X x) (hm : X.mg x = none) (hv : bootBuiltins x = some (.type T')) (ha : TPL X W (e :: es) os) (hn : x ≠ "__name__" := by decide) (hdb : (x == ("__debug__" : Str)) = false := by decide)
    (he : starEach (e :: es) X.env = (false, eval e X.env) :: starEach es X.env := by rfl) (hpl : (backTo pos (starEach es X.env)).any (·.1) = false := by rfl) : TPE X W (.Call (.Name x p) (e :: es) [] pos) (dOp f os) :=
  let ⟨_, a1, a2⟩ := ha; ⟨_, pe_callTy hc hg hm hv a1 hn hdb he hpl, se_op a2 hf⟩
end
/-! what they tell -/
def fMM (g : Int → Int → Int) : List T → (T → Prop) → Prop
  | [.lf (.int i), .lf (.int j)], P => P (.lf (.int (g i j)))
  | _, _ => False
/-- max, min of two ints, or of a list of some ints -/
def fMax : List T → (T → Prop) → Prop
  | [.lf (.int i), .lf (.int j)], P => P (.lf (.int (if j > i then j else i)))
  | [.nd _ .lst xs], P => ∃ ns : List Int, xs = ns.map (fun i => T.lf (.int i)) ∧ 0 < ns.length ∧ ∀ m, m ∈ ns → (∀ y, y ∈ ns → y ≤ m) → P (.lf (.int m))
  | _, _ => False
def fMin : List T → (T → Prop) → Prop
  | [.lf (.int i), .lf (.int j)], P => P (.lf (.int (if j < i then j else i)))
  | [.nd _ .lst xs], P => ∃ ns : List Int, xs = ns.map (fun i => T.lf (.int i)) ∧ 0 < ns.length ∧ ∀ m, m ∈ ns → (∀ y, y ∈ ns → m ≤ y) → P (.lf (.int m))
  | _, _ => False
def rMaxA (K : PySem.W.Frag) : List V → Hp → VK → Prop := fun xs H Q => (∃ i j, xs = [.int i, .int j] ∧ Q (.int (if j > i then j else i)) H) ∨ rMax K xs H Q
def rMinA (K : PySem.W.Frag) : List V → Hp → VK → Prop := fun xs H Q => (∃ i j, xs = [.int i, .int j] ∧ Q (.int (if j < i then j else i)) H) ∨ rMin K xs H Q
theorem cr_maxA {X : Cx} (hc : X.calm = true) : CallR X (.builtin "max") (rMaxA X.K) := (call_max2 hc).or (cr_max hc)
theorem cr_minA {X : Cx} (hc : X.calm = true) : CallR X (.builtin "min") (rMinA X.K) := (call_min2 hc).or (cr_min hc)
section
variable {K : PySem.W.Frag}
theorem kids_map {S H : Hp} {o : Bool} {vs us : List V} (k : Kids K S H o (us.map T.lf) vs) : vs = us := by
  apply List.ext_getElem?
  intro i
  have hl := k.len
  rw [List.length_map] at hl
  by_cases h : i < us.length
  · have h2 : i < vs.length := by omega
    have := k.rd i (.lf us[i]) vs[i] (by simp [h]) (by simp [h2])
    rw [List.getElem?_eq_getElem h, List.getElem?_eq_getElem h2, this.lf]
  · rw [List.getElem?_eq_none (by omega), List.getElem?_eq_none (by omega)]
theorem kids_ints {S H : Hp} {o : Bool} {vs : List V} {ns : List Int} (k : Kids K S H o (ns.map fun i => T.lf (.int i)) vs) : vs = ns.map V.int :=
  kids_map (us := ns.map V.int) (by rw [List.map_map]; exact k)
theorem kids_bls {S H : Hp} {o : Bool} {vs : List V} {ns : List Bool} (k : Kids K S H o (ns.map fun i => T.lf (.bl i)) vs) : vs = ns.map V.bl :=
  kids_map (us := ns.map V.bl) (by rw [List.map_map]; exact k)
theorem kids_strs {S H : Hp} {o : Bool} {vs : List V} {ns : List Str} (k : Kids K S H o (ns.map fun i => T.lf (.str i)) vs) : vs = ns.map V.str :=
  kids_map (us := ns.map V.str) (by rw [List.map_map]; exact k)
theorem os_max : OpS K fMax (rMaxA K) := by
  intro S H ts vs P Q s r d k
  unfold fMax at d
  split at d
  · obtain ⟨x, _, rfl, rx, y, _, rfl, ry, rfl⟩ := r
    cases rx.lf
    cases ry.lf
    exact .inl ⟨_, _, rfl, fin_lf s k d⟩
  · obtain ⟨x, _, rfl, rx, rfl⟩ := r
    obtain ⟨ns, rfl, h0, d⟩ := d
    obtain ⟨a, vs, rfl, ea, ka⟩ := rx.lst s
    cases kids_ints ka
    exact .inr ⟨a, ns, rfl, .of ea, h0, fun m h1 h2 => fin_lf s k (d m h1 h2)⟩
  · exact d.elim
theorem os_min : OpS K fMin (rMinA K) := by
  intro S H ts vs P Q s r d k
  unfold fMin at d
  split at d
  · obtain ⟨x, _, rfl, rx, y, _, rfl, ry, rfl⟩ := r
    cases rx.lf
    cases ry.lf
    exact .inl ⟨_, _, rfl, fin_lf s k d⟩
  · obtain ⟨x, _, rfl, rx, rfl⟩ := r
    obtain ⟨ns, rfl, h0, d⟩ := d
    obtain ⟨a, vs, rfl, ea, ka⟩ := rx.lst s
    cases kids_ints ka
    exact .inr ⟨a, ns, rfl, .of ea, h0, fun m h1 h2 => fin_lf s k (d m h1 h2)⟩
  · exact d.elim
def fSum : List T → (T → Prop) → Prop
  | [.nd _ .lst xs], P => ∃ ns : List Int, xs = ns.map (fun i => T.lf (.int i)) ∧ P (.lf (.int ns.sum))
  | _, _ => False
theorem os_sum : OpS K fSum (rSum K) := by
  intro S H ts vs P Q s r d k
  unfold fSum at d
  split at d
  · obtain ⟨x, _, rfl, rx, rfl⟩ := r
    obtain ⟨ns, rfl, d⟩ := d
    obtain ⟨a, vs, rfl, ea, ka⟩ := rx.lst s
    cases kids_ints ka
    exact ⟨a, ns, rfl, .of ea, fin_lf s k d⟩
  · exact d.elim
def fAll : List T → (T → Prop) → Prop
  | [.nd _ .lst xs], P => ∃ ns : List Bool, xs = ns.map (fun i => T.lf (.bl i)) ∧ P (.lf (.bl (ns.all id)))
  | _, _ => False
def fAny : List T → (T → Prop) → Prop
  | [.nd _ .lst xs], P => ∃ ns : List Bool, xs = ns.map (fun i => T.lf (.bl i)) ∧ P (.lf (.bl (ns.any id)))
  | _, _ => False
theorem os_all : OpS K fAll (rAll K) := by
  intro S H ts vs P Q s r d k
  unfold fAll at d
  split at d
  · obtain ⟨x, _, rfl, rx, rfl⟩ := r
    obtain ⟨ns, rfl, d⟩ := d
    obtain ⟨a, vs, rfl, ea, ka⟩ := rx.lst s
    cases kids_bls ka
    exact ⟨a, ns, rfl, .of ea, fin_lf s k d⟩
  · exact d.elim
theorem os_any : OpS K fAny (rAny K) := by
  intro S H ts vs P Q s r d k
  unfold fAny at d
  split at d
  · obtain ⟨x, _, rfl, rx, rfl⟩ := r
    obtain ⟨ns, rfl, d⟩ := d
    obtain ⟨a, vs, rfl, ea, ka⟩ := rx.lst s
    cases kids_bls ka
    exact ⟨a, ns, rfl, .of ea, fin_lf s k d⟩
  · exact d.elim
/-- list(a list, a tuple); tuple(a list) -/
def fList : List T → (T → Prop) → Prop
  | [.nd o .lst xs], P => ko o xs ∧ P (.nd true .lst xs)
  | [.nd o .tup xs], P => ko o xs ∧ P (.nd true .lst xs)
  | [.nd o .tpk xs], P => ko o xs ∧ P (.nd true .lst xs)
  | _, _ => False
abbrev rListA (K : PySem.W.Frag) : List V → Hp → VK → Prop := fun xs H Q => ∃ p ys, xs = [.ref p] ∧ (SqL K H p ys ∨ SqT K H p ys) ∧ ∀ l, H l = none → Q (.ref l) (upd H l (.lst ys))
theorem os_list : OpS K fList (rListA K) := by
  intro S H ts vs P Q s r d k
  unfold fList at d
  split at d
  · obtain ⟨x, _, rfl, rx, rfl⟩ := r
    obtain ⟨a, vs, rfl, ea, ka⟩ := rx.lst s
    exact ⟨a, vs, rfl, .inl (.of ea), fun p hp => fin_new (kd := .lst) s k hp rfl trivial ka.len (ka.fz d.1) d.2⟩
  · obtain ⟨x, _, rfl, rx, rfl⟩ := r
    obtain ⟨a, vs, rfl, ea, ka⟩ := rx.tup s
    exact ⟨a, vs, rfl, .inr (.of ea), fun p hp => fin_new (kd := .lst) s k hp rfl trivial ka.len (ka.fz d.1) d.2⟩
  · obtain ⟨x, _, rfl, rx, rfl⟩ := r
    obtain ⟨a, vs, rfl, ea, ka⟩ := rx.tpk s
    exact ⟨a, vs, rfl, .inr ea, fun p hp => fin_new (kd := .lst) s k hp rfl trivial ka.len (ka.fz d.1) d.2⟩
  · exact d.elim
def fTuple : List T → (T → Prop) → Prop
  | [.nd o .lst xs], P => ko o xs ∧ P (.nd false .tup xs)
  | [.nd false .tup xs], P => P (.nd false .tup xs)
  | _, _ => False
abbrev rTupleA (K : PySem.W.Frag) : List V → Hp → VK → Prop := fun xs H Q => ∃ p ys, xs = [.ref p] ∧ ((SqL K H p ys ∧ ∀ l, H l = none → Q (.ref l) (upd H l (.tup ys))) ∨ (SqT K H p ys ∧ Q (.ref p) H))
theorem os_tuple : OpS K fTuple (rTupleA K) := by
  intro S H ts vs P Q s r d k
  unfold fTuple at d
  split at d
  · obtain ⟨x, _, rfl, rx, rfl⟩ := r
    obtain ⟨a, vs, rfl, ea, ka⟩ := rx.lst s
    exact ⟨a, vs, rfl, .inl ⟨.of ea, fun p hp => fin_newz (kd := .tup) s k hp (Same.new hp) upd_same rfl trivial ka.len (ka.fz d.1) d.2⟩⟩
  · obtain ⟨x, _, rfl, ⟨_, rx⟩, rfl⟩ := r
    cases rx with
    | @fz a _ _ vs _ ha _ hla h3 => exact ⟨a, vs, rfl, .inr ⟨.of (s _ _ ha), fin_old s k (.fz (k := .tup) ha trivial hla h3) d⟩⟩
  · exact d.elim
def fInt1 : List T → (T → Prop) → Prop
  | [.lf (.int i)], P => P (.lf (.int i))
  | [.lf (.bl b)], P => P (.lf (.int (if b then 1 else 0)))
  | _, _ => False
abbrev rInt1 : List V → Hp → VK → Prop := fun xs H Q => (∃ i, xs = [.int i] ∧ Q (.int i) H) ∨ ∃ k, xs = [.bl k] ∧ Q (.int (if k then 1 else 0)) H
theorem os_int1 : OpS K fInt1 rInt1 := by
  intro S H ts vs P Q s r d k
  unfold fInt1 at d
  split at d
  · obtain ⟨x, _, rfl, rx, rfl⟩ := r
    cases rx.lf
    exact .inl ⟨_, rfl, fin_lf s k d⟩
  · obtain ⟨x, _, rfl, rx, rfl⟩ := r
    cases rx.lf
    exact .inr ⟨_, rfl, fin_lf s k d⟩
  · exact d.elim
def fDivmod : List T → (T → Prop) → Prop
  | [.lf (.int i), .lf (.int j)], P => CDiv i j ∧ P (.nd false .tup [.lf (.int (i / j)), .lf (.int (i % j))])
  | _, _ => False
abbrev rDivmod : List V → Hp → VK → Prop := fun xs H Q => ∃ i j, xs = [.int i, .int j] ∧ CDiv i j ∧ ∀ p, H p = none → Q (.ref p) (upd H p (.tup [.int (i / j), .int (i % j)]))
theorem os_divmod : OpS K fDivmod rDivmod := by
  intro S H ts vs P Q s r d k
  unfold fDivmod at d
  split at d
  · obtain ⟨x, _, rfl, rx, y, _, rfl, ry, rfl⟩ := r
    cases rx.lf
    cases ry.lf
    exact ⟨_, _, rfl, d.1, fun p hp => fin_newz (kd := .tup) s k hp (Same.new hp) upd_same rfl trivial rfl (fun i t v e1 e2 => by
      rcases i with _ | _ | i
      · cases e1; cases e2; exact .lf
      · cases e1; cases e2; exact .lf
      · simp at e1) d.2⟩
  · exact d.elim
/-! ### isinstance -/
def T.tyn : T → Option String
  | .lf .non => some "NoneType"
  | .lf (.bl _) => some "bool"
  | .lf (.int _) => some "int"
  | .lf (.str _) => some "str"
  | .nd _ .lst _ => some "list"
  | .nd _ .tup _ => some "tuple"
  | .nd _ .tpk _ => some "tuple"
  | .nd _ (.dk _) _ => some "dict"
  | _ => none
theorem tyn_ok {S H : Hp} {t : T} {v : V} {n : String} (s : Same S H) (r : Rd1 K S H t v) (e : t.tyn = some n) : TyX K H v (.type n) := by
  cases t with
  | lf x =>
    have e0 := r.lf
    subst e0
    cases v <;> simp [T.tyn] at e <;> subst e
    · exact (Ty.non (K := K) (H := H)).x
    · exact (Ty.bl (K := K) (H := H) _).x
    · exact (Ty.int (K := K) (H := H) _).x
    · exact (Ty.str (K := K) (H := H) _).x
  | nd o k xs =>
    cases k with
    | lst => simp [T.tyn] at e; subst e; obtain ⟨a, vs, rfl, ea, _⟩ := r.lst s; exact (Ty.lst (.of ea)).x
    | tup => simp [T.tyn] at e; subst e; obtain ⟨a, vs, rfl, ea, _⟩ := r.tup s; exact (Ty.tup (.of ea)).x
    | tpk => simp [T.tyn] at e; subst e; obtain ⟨a, vs, rfl, ea, _⟩ := r.tpk s; exact (Ty.tup ea).x
    | dk ks =>
      simp [T.tyn] at e
      subst e
      obtain ⟨a, vs, rfl, ea, _⟩ := r.dk s
      rcases ea with ea | ⟨od, ea⟩
      · exact (Ty.dK ea).x
      · exact .fDict ea
    | _ => simp [T.tyn] at e
theorem tyn_names {t : T} {n : String} (e : t.tyn = some n) : n ∈ ["NoneType", "bool", "int", "str", "list", "tuple", "dict"] := by
  unfold T.tyn at e
  split at e <;> simp at e <;> subst e <;> decide
def kitN (n c : String) : Bool := n == c || (n == "bool" && c == "int")
def fIsi : List T → (T → Prop) → Prop
  | [t, .lf (.ty c)], P => c ∈ ["bool", "int", "str", "list", "tuple", "dict"] ∧ ∃ n, t.tyn = some n ∧ P (.lf (.bl (kitN n c)))
  | _, _ => False
theorem os_isi : OpS K fIsi (rIsi K) := by
  intro S H ts vs P Q s r d k
  unfold fIsi at d
  split at d
  · obtain ⟨x, _, rfl, rx, y, _, rfl, ry, rfl⟩ := r
    obtain ⟨hc, n, e, d⟩ := d
    cases ry.lf
    exact ⟨x, _, _, _, _, rfl, .ty _, tyn_ok s rx e, kit_ty (kit_names hc (tyn_names e)), fin_lf s k d⟩
  · exact d.elim
/-- isinstance(x, (list, tuple)) and the like -/
def tys : List T → Option (List String)
  | [] => some []
  | .lf (.ty c) :: ts => (tys ts).map (c :: ·)
  | _ :: _ => none
end
end Tr

set_option Elab.async false
set_option linter.all false
set_option maxRecDepth 100000
set_option maxHeartbeats 1000000
set_option autoImplicit false
namespace Tr
open PySem PySem.Spec PyProof.Rows L2 Cm
/-! ### try: several clauses, with or without a name; behind a suite the thing that was caught stands at its place -/
abbrev HdT := Value × Option Nat × (Addr → Value → Option Addr → TS)
def clr (oi : Option Nat) (σ : L2.St) : L2.St := match oi with
  | some i => σ.set i none
  | none => σ
def nam (oi : Option Nat) (a : Addr) (σ : L2.St) : L2.St := match oi with
  | some i => σ.set i (some (.ref a))
  | none => σ
def trE (a : Addr) (cls : Value) (d : Option Addr) (oi : Option Nat) (D : Ends) : Ends where
  nx := fun σ H => H a = none → D.nx (clr oi σ) (upd H a (exh a cls d))
  rt := fun v H => H a = none → D.rt v (upd H a (exh a cls d))
  bk := fun σ H => H a = none → D.bk (clr oi σ) (upd H a (exh a cls d))
  ct := fun σ H => H a = none → D.ct (clr oi σ) (upd H a (exh a cls d))
def wGen (K : PySem.W.Frag) (Wout : WX) (D : Ends) : List HdT → WX
  | [] => Wout
  | (c, oi, ts) :: r => fun cls d σ H => ∃ b, PySem.W.exmOne K cls c = some b ∧ (b = true → ∀ a, H a = none → ts a cls d (trE a cls d oi D) (nam oi a σ) H) ∧ (b = false → wGen K Wout D r cls d σ H)
inductive HdsG (X : Cx) : List ExceptHandler → List HdT → Prop
  | nil : HdsG X [] []
  | no {x : Str} {c : Value} {ts : Addr → Value → Option Addr → TS} {b₀ : Stmt} {suite : List Stmt} {np pos' : Pos} {hds : List ExceptHandler} {l : List HdT} (hc : Names X x c)
      (hsu : ∀ (a : Addr) (oe : Obj) (cls : Value) (d : Option Addr) (pn : List (Addr × Obj)), Zc cls d oe → (∃ vs, oe.data = .fields vs) → PSs (X.suite a ((a, oe) :: pn)) (b₀ :: suite) (ts a cls d)) (r : HdsG X hds l) :
      HdsG X (.ExceptHandler (some (.Name x np)) none (b₀ :: suite) pos' :: hds) ((c, none, ts) :: l)
  | as {x n : Str} {i : Nat} {c : Value} {ts : Addr → Value → Option Addr → TS} {b₀ : Stmt} {suite : List Stmt} {np pos' : Pos} {hds : List ExceptHandler} {l : List HdT} (hc : Names X x c) (hi : X.N[i]? = some n) (hln : X.env.kindOf n = some .local)
      (hsu : ∀ (a : Addr) (oe : Obj) (cls : Value) (d : Option Addr) (pn : List (Addr × Obj)), Zc cls d oe → (∃ vs, oe.data = .fields vs) → PSs (X.suite a ((a, oe) :: pn)) (b₀ :: suite) (ts a cls d)) (r : HdsG X hds l) :
      HdsG X (.ExceptHandler (some (.Name x np)) (some n) (b₀ :: suite) pos' :: hds) ((c, some i, ts) :: l)
section
variable {X : Cx} {body : List Stmt} {h₀ : ExceptHandler} {hds : List ExceptHandler} {l : List HdT} {pos : Pos} {tb : WX → TS} {Wout : WX}
theorem ps_try_gen (hs : X.stack = X.env :: X.outer) (hf : X.env.frame = some X.env.locals) (hx : X.ex = []) (hN : X.N.Nodup) (tk : Takes X Wout)
    (hb : ∀ (W : WX) (pn : List (Addr × Obj)) (xe : Value → Shared → Prop), Takes (X.tr pn xe) W → PassesOwn (model X.prog X.w) X.A X.env xe → PSs (X.tr pn xe) body (tb W))
    (hh : HdsG X (h₀ :: hds) l) : PS X (.Try body (h₀ :: hds) [] [] pos) (fun D σ H => tb (wGen X.K Wout D l) D σ H) := by
  refine ⟨fun pins s σ H D I h => ?_⟩
  have ok := I.ok
  have hfr : X.A.frames = some (X.env :: X.outer) := by rw [ok.frames, hs]
  refine wpAny_Try_except ?_
  refine wpAny_mono ((hb (wGen X.K Wout D l) (X.pn ++ pins) (fun e s₁ => wpAny (model X.prog X.w) X.A (noteFrame e X.env) (fun _ s₂ => wpAny (model X.prog X.w) X.A (setFlight e none) (fun _ s₃ =>
    wpAny (model X.prog X.w) X.A (handleBy e X.env (h₀ :: hds)) (SP X pins D) X.xe s₃) X.xe s₂) X.xe s₁) (fun u s' xx => ?_) PassesOwn.looking).run [] s σ H D (I.toTry _) h) (fun f s1 hsp => ?_) (fun e s1 he => he)
  · obtain ⟨a, B, sI, pins', σ', H', cls, d, rfl, J', nb, up, sky, na, os, ag, w⟩ := xx
    have J : Inv X pins σ' H' sI := J'.ofTry ok
    have sky' : Sky B (X.env :: X.outer) a (Zc cls d) X.env.locals s'.heap := by rw [← hs]; exact sky
    show wpAny (model X.prog X.w) X.A (noteFrame (.ref a) X.env) _ _ _
    refine Sky.land Zc.steady hfr hf sky' fun h3 fl3 up3 => ?_
    have J3 : Inv X pins σ' H' { s' with heap := h3 } := J.landed nb fl3.1 (up.trans up3) os ag
    obtain ⟨oe3, vs3, he3, hz3, hd3⟩ := fl3.there
    have notFr : ∀ {h : Heap} {o : Obj} {vs : Array Value}, h.FunFrames B (X.env :: X.outer) → h.get? a = some o → o.data = .fields vs → a ∉ frs (X.env :: X.outer) := fun {h o vs} ff e dd hm => by
      obtain ⟨_, o', e', hnf⟩ := ff.mem hm
      rw [e] at e'; cases e'
      exact hnf _ dd
    have nfr := notFr fl3.2.2.1 he3 hd3
    have nL : a ≠ X.env.locals := fun z => nfr (List.mem_filterMap.mpr ⟨X.env, List.mem_cons_self, by rw [hf, z]⟩)
    have nF : a ∉ X.fs := fun hm => by
      obtain ⟨e, he, q⟩ := List.mem_filterMap.mp hm
      exact nfr (List.mem_filterMap.mpr ⟨e, List.mem_cons_of_mem _ he, q⟩)
    have aB : B.get? a = none := fl3.2.1
    have inB : ∀ b o, sI.heap.get? b = some o → b ∉ frs (X.env :: X.outer) → B.get? b = some o := hs ▸ nb
    have frOf : ∀ b, b ≠ X.env.locals → b ∉ X.fs → b ∉ frs (X.env :: X.outer) := fun b h1 h2 hm => by
      obtain ⟨ev, h3, h4⟩ := List.mem_filterMap.mp hm
      rcases List.mem_cons.mp h3 with rfl | h3
      · rw [hf] at h4
        exact h1 (Option.some.inj h4).symm
      · exact h2 (List.mem_filterMap.mpr ⟨ev, h3, h4⟩)
    have nP : ∀ p ∈ X.pn ++ pins, p.1 ≠ a := fun p hp z => by
      obtain ⟨q1, _, q3, q4, _⟩ := J.pin p hp
      have := inB _ _ q1 (frOf _ q3 q4)
      rw [z, aB] at this
      cases this
    have n0 : X.s_0.heap.get? a = none := by
      cases e : X.s_0.heap.get? a with
      | none => rfl
      | some o =>
        obtain ⟨o', e'⟩ := J.base.there a o e (by rw [hx]; simp)
        have := inB _ _ e' nfr
        rw [aB] at this
        cases this
    have S3 := J3.suite he3 hd3 na nL nF
    -- behind a suite
    have behind : ∀ {oe4 : Obj} {vs4 : Array Value} {σ6 : L2.St} {H6 : Hp} {s6 : Shared}, Zc cls d oe4 → oe4.data = .fields vs4 → Inv (X.suite a ((a, oe4) :: (X.pn ++ pins))) [] σ6 H6 s6 → H6 a = none ∧ Inv X pins σ6 (upd H6 a (exh a cls d)) s6 := fun {oe4 vs4 σ6 H6 s6} hz4 hd4 S6 => by
      obtain ⟨e6, n6, _⟩ := S6.pin (a, oe4) (List.mem_append_left _ List.mem_cons_self)
      exact ⟨n6, track (S6.unsuite ok) e6 n6 nL (fun v z => by rw [hd4] at z; cases z) nP n0 (exh_ok e6 hz4 hd4)⟩
    have go : ∀ {hds' : List ExceptHandler} {l' : List HdT}, HdsG X hds' l' → wGen X.K Wout D l' cls d σ' H' →
        wpAny (model X.prog X.w) X.A (handleBy (.ref a) X.env hds') (SP X pins D) X.xe { s' with heap := h3 } := by
      intro hds' l' hk
      induction hk with
      | nil =>
        intro w
        refine wpAny_handleBy_nil ?_
        obtain ⟨k1, k2, k3, oe, vs, T, oT, ts', he, hz, hd, h1, hr⟩ := id fl3
        unfold PySem.passOn
        refine wpAny_bind (wpAny_field he hd h1 ?_)
        rw [if_neg (show ¬ ((Value.ref T == Value.none) = true) from by simp)]
        have fin : wpAny (model X.prog X.w) X.A (setFlight (.ref a) X.env.frame) (fun _ s4 => wpAny (model X.prog X.w) X.A (throw (.ref a) : Sem Flow) (SP X pins D) X.xe s4) X.xe { s' with heap := h3 } := by
          rw [hf]
          refine HandSPX.setFlight_upZ fl3 fun h4 hh4 up4 => wpAny_throw (tk _ _ ?_)
          exact ⟨a, B, sI, pins, σ', H', cls, d, rfl, J, nb, (up.trans up3).trans up4, .inr (.inr (by rw [hs]; exact hh4)), na, os, ag, w⟩
        first
          | exact wpAny_bind (wpAny_pure (wpAny_bind fin))
          | exact wpAny_bind fin
      | @no x c ts b₀ suite np pos' hds2 l2 hc hsu r ih =>
        intro w
        obtain ⟨b, hb1, hyes, hno⟩ := w
        refine wpAny_handleBy_cons (codeAny_handlers_test ?_) (by intro q; cases q)
        have LT : PySem.W.Looks (model X.prog X.w) h3 (typeOf (.ref a)) cls := fun A Q E s k q => wpAny_typeOf_ref (k _ _ he3) (by rw [hz3.1]; exact q)
        have LM := PySem.W.exm_one (M := model X.prog X.w) (J3.kIn) LT hb1
        have test : ∀ {Q : Value → Shared → Prop} {E : Value → Shared → Prop}, Q c { s' with heap := h3 } → wpAny (model X.prog X.w) (X.A.mark (some (.ref a))) (eval (.Name x np) X.env) Q E { s' with heap := h3 } := fun {Q E} q => by
          obtain ⟨hg, hdbg, hm | ⟨hm, hv, hnn⟩⟩ := hc
          · exact ld_glob (X := X.suite a ((a, oe3) :: (X.pn ++ pins))) S3 hg hm q hdbg
          · exact ld_blt (X := X.suite a ((a, oe3) :: (X.pn ++ pins))) S3 hg hm hv q hnn hdbg
        refine test (LM.here ?_)
        cases b with
        | true =>
          refine codeAny_handlers_suite ?_
          refine HandSPX.lands_againZ fl3 fun h4 fl4 up4 => ?_
          have J4 : Inv X pins σ' H' { s' with heap := h4 } := J.landed nb fl4.1 ((up.trans up3).trans up4) os ag
          obtain ⟨oe4, vs4, he4, hz4, hd4⟩ := fl4.there
          have S4 := J4.suite he4 hd4 na nL nF
          refine wpAny_mono ((hsu a oe4 cls d (X.pn ++ pins) hz4 ⟨_, hd4⟩).run [] _ _ H' _ S4 (hyes rfl a na)) (fun f s6 hsp => ?_) (fun _ _ z => False.elim z)
          cases f with
          | next =>
            obtain ⟨σ6, H6, S6, q6⟩ := hsp
            obtain ⟨n6, I6⟩ := behind hz4 hd4 S6
            exact ⟨_, _, I6, q6 n6⟩
          | brk =>
            obtain ⟨σ6, H6, S6, q6⟩ := hsp
            obtain ⟨n6, I6⟩ := behind hz4 hd4 S6
            exact ⟨_, _, I6, q6 n6⟩
          | cont =>
            obtain ⟨σ6, H6, S6, q6⟩ := hsp
            obtain ⟨n6, I6⟩ := behind hz4 hd4 S6
            exact ⟨_, _, I6, q6 n6⟩
          | ret u =>
            obtain ⟨v6, σ6, H6, S6, r6, q6⟩ := hsp
            obtain ⟨n6, I6⟩ := behind hz4 hd4 S6
            exact ⟨_, _, _, I6, r6, q6 n6⟩
        | false =>
          show wpAny _ X.A (handleBy (.ref a) X.env hds2) _ _ _
          exact ih (hno rfl)
      | @as x n i c ts b₀ suite np pos' hds2 l2 hc hi hln hsu r ih =>
        intro w
        obtain ⟨b, hb1, hyes, hno⟩ := w
        refine wpAny_handleBy_cons (codeAny_handlers_test ?_) (by intro q; cases q)
        have LT : PySem.W.Looks (model X.prog X.w) h3 (typeOf (.ref a)) cls := fun A Q E s k q => wpAny_typeOf_ref (k _ _ he3) (by rw [hz3.1]; exact q)
        have LM := PySem.W.exm_one (M := model X.prog X.w) (J3.kIn) LT hb1
        have test : ∀ {Q : Value → Shared → Prop} {E : Value → Shared → Prop}, Q c { s' with heap := h3 } → wpAny (model X.prog X.w) (X.A.mark (some (.ref a))) (eval (.Name x np) X.env) Q E { s' with heap := h3 } := fun {Q E} q => by
          obtain ⟨hg, hdbg, hm | ⟨hm, hv, hnn⟩⟩ := hc
          · exact ld_glob (X := X.suite a ((a, oe3) :: (X.pn ++ pins))) S3 hg hm q hdbg
          · exact ld_blt (X := X.suite a ((a, oe3) :: (X.pn ++ pins))) S3 hg hm hv q hnn hdbg
        refine test (LM.here ?_)
        cases b with
        | true =>
          refine codeAny_handlers_suite_as ?_
          refine HandSPX.lands_againZ fl3 fun h4 fl4 up4 => ?_
          have J4 : Inv X pins σ' H' { s' with heap := h4 } := J.landed nb fl4.1 ((up.trans up3).trans up4) os ag
          obtain ⟨oe4, vs4, he4, hz4, hd4⟩ := fl4.there
          have S4 := J4.suite he4 hd4 na nL nF
          refine store_ok (X := X.suite a ((a, oe4) :: (X.pn ++ pins))) (v := .ref a) S4 hN hi (.inl hln) rfl (fun s5 S5 => ?_) (.inr hln)
          refine wpAny_mono ((hsu a oe4 cls d (X.pn ++ pins) hz4 ⟨_, hd4⟩).run [] s5 _ H' _ S5 (hyes rfl a na)) (fun f s6 hsp => ?_) (fun _ _ z => False.elim z)
          cases f with
          | next =>
            obtain ⟨σ6, H6, S6, q6⟩ := hsp
            obtain ⟨n6, I6⟩ := behind hz4 hd4 S6
            exact gone_ok I6 hN hi hln fun s7 J7 => ⟨_, _, J7, q6 n6⟩
          | brk =>
            obtain ⟨σ6, H6, S6, q6⟩ := hsp
            obtain ⟨n6, I6⟩ := behind hz4 hd4 S6
            exact gone_ok I6 hN hi hln fun s7 J7 => ⟨_, _, J7, q6 n6⟩
          | cont =>
            obtain ⟨σ6, H6, S6, q6⟩ := hsp
            obtain ⟨n6, I6⟩ := behind hz4 hd4 S6
            exact gone_ok I6 hN hi hln fun s7 J7 => ⟨_, _, J7, q6 n6⟩
          | ret u =>
            obtain ⟨v6, σ6, H6, S6, r6, q6⟩ := hsp
            obtain ⟨n6, I6⟩ := behind hz4 hd4 S6
            exact gone_ok I6 hN hi hln fun s7 J7 => ⟨_, _, _, J7, r6, q6 n6⟩
        | false =>
          show wpAny _ X.A (handleBy (.ref a) X.env hds2) _ _ _
          exact ih (hno rfl)
    exact go hh w
  · cases f with
    | next =>
      obtain ⟨σ', H', J', q⟩ := hsp
      exact wpAny_execs_nil ⟨σ', H', J'.ofTry ok, q⟩
    | brk =>
      obtain ⟨σ', H', J', q⟩ := hsp
      exact ⟨σ', H', J'.ofTry ok, q⟩
    | cont =>
      obtain ⟨σ', H', J', q⟩ := hsp
      exact ⟨σ', H', J'.ofTry ok, q⟩
    | ret u =>
      obtain ⟨v, σ', H', J', r, q⟩ := hsp
      exact ⟨v, σ', H', J'.ofTry ok, r, q⟩
end
/-! ### .. on trees -/
abbrev DHd := Value × Option Nat × (Addr → T → DS)
def unt (a : Addr) (ex : T) (env : Env) : Env := env.map fun o => match o with
  | some (.lf (.ref b)) => if b = a then some ex else some (.lf (.ref b))
  | o => o
def clrE (oi : Option Nat) (env : Env) : Env := match oi with
  | some i => env.set i none
  | none => env
def namE (oi : Option Nat) (a : Addr) (env : Env) : Env := match oi with
  | some i => env.set i (some (.lf (.ref a)))
  | none => env
def endS (a : Addr) (ex : T) (oi : Option Nat) (DT : DEnds) : DEnds where
  nx := fun env => DT.nx (clrE oi (unt a ex env))
  bk := fun env => DT.bk (clrE oi (unt a ex env))
  ct := fun env => DT.ct (clrE oi (unt a ex env))
  rt := fun t env => DT.rt t (unt a ex env)
  ex := fun _ _ => False
def dHds (K : PySem.W.Frag) (DT : DEnds) : List DHd → T → Env → Prop
  | [], ex, env => DT.ex ex env
  | (c, oi, ds) :: r, ex, env => match ex with
    | .nd _ (.exc C _) _ => ∃ b, PySem.W.exmOne K (.ref C) c = some b ∧ (b = true → ∀ a : Addr, ds a ex (endS a ex oi DT) (namE oi a env)) ∧ (b = false → dHds K DT r ex env)
    | _ => False
def dTry (K : PySem.W.Frag) (db : DS) (l : List DHd) : DS := fun DT env => db { DT with ex := fun ex env' => dHds K DT l ex env' } env
theorem RX.mono {K : PySem.W.Frag} {S S' : Hp} {ex : T} {cls : Value} {d : Option Addr} (s : Sle S S') (r : RX K S ex cls d) : RX K S' ex cls d := by
  obtain ⟨C, fs, ts, vs, dd, e1, e2, e3, e4, e5, e6, e7⟩ := r
  exact ⟨C, fs, ts, vs, dd, e1, e2, e3, s.at e4 fun z => z, e5, e6, fun i t v a b => (e7 i t v a b).mono s (fun _ _ h => h.elim) fun _ h => h⟩
def gx (K : PySem.W.Frag) (G : Gm) (ex : T) (cls : Value) (d : Option Addr) : Gm := ⟨fun S => G.p S ∧ RX K S ex cls d, fun S S' s h => ⟨G.mono S S' s h.1, h.2.mono s⟩⟩
abbrev suW (K : PySem.W.Frag) (W : Wc) (ex : T) (cls : Value) (d : Option Addr) : Wc := ⟨fun _ _ _ _ => False, gx K W.g ex cls d⟩
inductive THds (X : Cx) (W : Wc) (io : List Nat) : List ExceptHandler → List DHd → Prop
  | nil : THds X W io [] []
  | no {x : Str} {c : Value} {ds : Addr → T → DS} {b₀ : Stmt} {suite : List Stmt} {np pos' : Pos} {hds : List ExceptHandler} {l : List DHd} (hc : Names X x c)
      (hsu : ∀ (a C dd : Addr) (fs : List Str) (ts : List T) (oe : Obj) (pn : List (Addr × Obj)), Zc (.ref C) (some dd) oe → (∃ vs, oe.data = .fields vs) → TPSs (X.suite a ((a, oe) :: pn)) (suW X.K W (.nd false (.exc C fs) ts) (.ref C) (some dd)) io (b₀ :: suite) (ds a (.nd false (.exc C fs) ts))) (r : THds X W io hds l) :
      THds X W io (.ExceptHandler (some (.Name x np)) none (b₀ :: suite) pos' :: hds) ((c, none, ds) :: l)
  | as {x n : Str} {i : Nat} {c : Value} {ds : Addr → T → DS} {b₀ : Stmt} {suite : List Stmt} {np pos' : Pos} {hds : List ExceptHandler} {l : List DHd} (hc : Names X x c) (hi : X.N[i]? = some n) (hln : X.env.kindOf n = some .local) (hio : i ∉ io)
      (hsu : ∀ (a C dd : Addr) (fs : List Str) (ts : List T) (oe : Obj) (pn : List (Addr × Obj)), Zc (.ref C) (some dd) oe → (∃ vs, oe.data = .fields vs) → TPSs (X.suite a ((a, oe) :: pn)) (suW X.K W (.nd false (.exc C fs) ts) (.ref C) (some dd)) io (b₀ :: suite) (ds a (.nd false (.exc C fs) ts))) (r : THds X W io hds l) :
      THds X W io (.ExceptHandler (some (.Name x np)) (some n) (b₀ :: suite) pos' :: hds) ((c, some i, ds) :: l)
/-- its reading fits what is done on trees -/
inductive SHds (K : PySem.W.Frag) (W : Wc) (io : List Nat) : List HdT → List DHd → Prop
  | nil : SHds K W io [] []
  | cons {c : Value} {oi : Option Nat} {ts : Addr → Value → Option Addr → TS} {ds : Addr → T → DS} {l : List HdT} {l' : List DHd} (hio : ∀ i, oi = some i → i ∉ io)
      (h : ∀ (a C dd : Addr) (fs : List Str) (tr : List T), SS K (suW K W (.nd false (.exc C fs) tr) (.ref C) (some dd)) io (ts a (.ref C) (some dd)) (ds a (.nd false (.exc C fs) tr))) (r : SHds K W io l l') : SHds K W io ((c, oi, ts) :: l) ((c, oi, ds) :: l')
section
variable {X : Cx} {W : Wc} {io : List Nat}
theorem suite_uni {b₀ : Stmt} {suite : List Stmt} {ds : Addr → T → DS} (hsu : ∀ (a C dd : Addr) (fs : List Str) (ts : List T) (oe : Obj) (pn : List (Addr × Obj)), Zc (.ref C) (some dd) oe → (∃ vs, oe.data = .fields vs) → TPSs (X.suite a ((a, oe) :: pn)) (suW X.K W (.nd false (.exc C fs) ts) (.ref C) (some dd)) io (b₀ :: suite) (ds a (.nd false (.exc C fs) ts))) :
    ∃ ts : Addr → Value → Option Addr → TS, (∀ (a : Addr) (oe : Obj) (cls : Value) (d : Option Addr) (pn : List (Addr × Obj)), Zc cls d oe → (∃ vs, oe.data = .fields vs) → PSs (X.suite a ((a, oe) :: pn)) (b₀ :: suite) (ts a cls d)) ∧
      ∀ (a C dd : Addr) (fs : List Str) (tr : List T), SS X.K (suW X.K W (.nd false (.exc C fs) tr) (.ref C) (some dd)) io (ts a (.ref C) (some dd)) (ds a (.nd false (.exc C fs) tr)) := by
  refine ⟨fun a cls d D σ H => ∃ (C dd : Addr) (fs : List Str) (tr : List T), cls = .ref C ∧ d = some dd ∧ ∀ (oe : Obj) (pn : List (Addr × Obj)) (hz : Zc (.ref C) (some dd) oe) (hf : ∃ vs, oe.data = .fields vs), (hsu a C dd fs tr oe pn hz hf).choose D σ H, fun a oe cls d pn hz hf => ⟨fun pins s σ H D I h => ?_⟩, fun a C dd fs tr => ?_⟩
  · obtain ⟨C, dd, fs, tr, rfl, rfl, h⟩ := h
    exact (hsu a C dd fs tr oe pn hz hf).choose_spec.1.run pins s σ H D I (h oe pn hz hf)
  · intro S D H σ0 σ env DT DD o r i d l
    exact ⟨C, dd, fs, tr, rfl, rfl, fun oe pn hz hf => (hsu a C dd fs tr oe pn hz hf).choose_spec.2 S D H σ0 σ env DT DD o r i d l⟩
theorem hds_of {hds : List ExceptHandler} {l : List DHd} (h : THds X W io hds l) : ∃ l', HdsG X hds l' ∧ SHds X.K W io l' l := by
  induction h with
  | nil => exact ⟨[], .nil, .nil⟩
  | no hc hsu r ih =>
    obtain ⟨l', h1, h2⟩ := ih
    obtain ⟨ts, a1, a2⟩ := suite_uni hsu
    exact ⟨_, .no hc a1 h1, .cons (fun _ h => by cases h) a2 h2⟩
  | as hc hi hln hio hsu r ih =>
    obtain ⟨l', h1, h2⟩ := ih
    obtain ⟨ts, a1, a2⟩ := suite_uni hsu
    exact ⟨_, .as hc hi hln a1 h1, .cons (fun _ h => by cases h; exact hio) a2 h2⟩
theorem Re.unt {K : PySem.W.Frag} {S H : Hp} {env : Env} {σ : L2.St} {D : AP} {a : Addr} {ex : T} (r : Re K S H env σ D) (h : R K S H ex (.ref a) no) : Re K S H (unt a ex env) σ D := by
  obtain ⟨hl, Df, h1, h2, h3⟩ := r
  refine ⟨by unfold Tr.unt; simpa using hl, Df, h1, h2, fun i t e => ?_⟩
  unfold Tr.unt at e
  rw [List.getElem?_map] at e
  cases q : env[i]? with
  | none => rw [q] at e; cases e
  | some ot =>
    rw [q] at e
    have e := Option.some.inj e
    dsimp only at e
    split at e
    · rename_i b
      obtain ⟨v, e2, rv⟩ := h3 i _ q
      split at e
      · rename_i hb
        cases e
        cases rv
        exact ⟨_, by rw [e2, hb], h.up fun _ z => z.elim⟩
      · cases e
        exact ⟨v, e2, rv⟩
    · subst e
      exact h3 i t q
theorem Re.clr {K : PySem.W.Frag} {S H : Hp} {env : Env} {σ : L2.St} {D : AP} (r : Re K S H env σ D) (oi : Option Nat) : Re K S H (clrE oi env) (clr oi σ) D := by
  cases oi with
  | none => exact r
  | some i => exact r.drop i
theorem t_try {body : List Stmt} {h₀ : ExceptHandler} {hds : List ExceptHandler} {l : List DHd} {pos : Pos} {db : DS} (hs : X.stack = X.env :: X.outer) (hf : X.env.frame = some X.env.locals) (hx : X.ex = []) (hN : X.N.Nodup) (tk : Takes X W.x)
    (hb : ∀ (W' : WX) (pn : List (Addr × Obj)) (xe : Value → Shared → Prop), Takes (X.tr pn xe) W' → PassesOwn (model X.prog X.w) X.A X.env xe → TPSs (X.tr pn xe) ⟨W', W.g⟩ io body db)
    (hh : THds X W io (h₀ :: hds) l) : TPS X W io (.Try body (h₀ :: hds) [] [] pos) (dTry X.K db l) := by
  obtain ⟨l', g1, g2⟩ := hds_of hh
  let tb : WX → TS := fun W' D σ H => ∀ (pn : List (Addr × Obj)) (xe : Value → Shared → Prop) (h1 : Takes (X.tr pn xe) W') (h2 : PassesOwn (model X.prog X.w) X.A X.env xe), (hb W' pn xe h1 h2).choose D σ H
  refine ⟨_, ps_try_gen (tb := tb) (Wout := W.x) hs hf hx hN tk (fun W' pn xe h1 h2 => ⟨fun pins s σ H D I h => (hb W' pn xe h1 h2).choose_spec.1.run pins s σ H D I (h pn xe h1 h2)⟩) g1, fun S D H σ0 σ env DT DD o r i d lf => ?_⟩
  intro pn xe h1 h2
  refine (hb _ pn xe h1 h2).choose_spec.2 S D H σ0 σ env _ _ o r i d ⟨lf.nx, lf.bk, lf.ct, lf.rt, ?_⟩
  intro S1 D1 H1 env1 σ1 ex cls dd n1 re1 i1 rx p
  -- the clauses, one after another
  have key : ∀ {l1 : List HdT} {l2 : List DHd}, SHds X.K W io l1 l2 → dHds X.K DT l2 ex env1 → wGen X.K W.x DD l1 cls dd σ1 H1 := by
    intro l1 l2 sh
    induction sh with
    | nil => exact fun p => lf.ex _ _ _ _ _ _ _ _ n1 re1 i1 rx p
    | @cons c oi ts ds l l' hio h r ih =>
      intro p
      obtain ⟨C, fs, tr, vs, d0, e1, e2, e3, e4, e5, e6, e7⟩ := id rx
      subst e1 e2 e3
      obtain ⟨b, hb1, hyes, hno⟩ := p
      refine ⟨b, hb1, fun hbt a na => ?_, fun hbf => ih (hno hbf)⟩
      have hio' : IO io σ0 (nam oi a σ1) := by
        cases oi with
        | none => exact i1
        | some k => exact io_keep (sl := [k]) i1 (fun j hj => List.getElem?_set_ne (by simpa [eq_comm] using hj)) fun j hj hk => hio k rfl (by rw [List.mem_singleton.mp hk] at hj; exact hj)
      have re1' : Re X.K S1 H1 (namE oi a env1) (nam oi a σ1) D1 := by
        cases oi with
        | none => exact re1
        | some k => exact Re.put (fun _ _ h => h) (fun _ h => h) (fun _ h => h.elim) re1 k .lf
      have o1 : Ok (gx X.K W.g (.nd false (.exc C fs) tr) (.ref C) (some d0)) S1 D1 H1 := n1.ok.cast ⟨n1.ok.g, rx⟩
      -- behind the suite
      have fin : ∀ {S2 : Hp} {D2 : AP} {H2 : Hp}, Nxt (gx X.K W.g (.nd false (.exc C fs) tr) (.ref C) (some d0)) S1 D1 H1 S2 D2 H2 → H2 a = none →
          Nxt W.g S D H (upd S2 a (exh a (.ref C) (some d0))) D2 (upd H2 a (exh a (.ref C) (some d0))) ∧ Sle S2 (upd S2 a (exh a (.ref C) (some d0))) ∧ Same H2 (upd H2 a (exh a (.ref C) (some d0))) ∧ R X.K (upd S2 a (exh a (.ref C) (some d0))) (upd H2 a (exh a (.ref C) (some d0))) (.nd false (.exc C fs) tr) (.ref a) no := fun {S2 D2 H2} n2 h0 => by
        have sa : S2 a = none := free_S n2.ok.sub h0
        have rx2 : RX X.K S2 (.nd false (.exc C fs) tr) (.ref C) (some d0) := n2.ok.g.2
        have le := Sle.of (Same.new (o := exh a (.ref C) (some d0)) sa)
        have n3 : Nxt W.g S2 D2 H2 (upd S2 a (exh a (.ref C) (some d0))) D2 (upd H2 a (exh a (.ref C) (some d0))) := by
          obtain ⟨q, _⟩ := Nxt.frs (Dn := no) (n2.cast n1.ok.g).ok (S' := upd S2 a (exh a (.ref C) (some d0))) (H' := upd H2 a (exh a (.ref C) (some d0))) ⟨le, fun b hb => by
            by_cases z : b = a
            · subst z; exact .inr h0
            · rw [upd_ne z] at hb; exact .inl hb, fun b ob e => by
            by_cases z : b = a
            · subst z; rw [upd_same] at e ⊢; exact e
            · rw [upd_ne z] at e ⊢; exact n2.ok.sub _ _ e, Same.new h0, fun _ h => h.elim⟩
          exact Nxt.trans (n2.cast n1.ok.g).ok q (Nxt.shrink q.ok fun _ => .inl)
        refine ⟨Nxt.trans o (Nxt.trans o n1 (n2.cast n1.ok.g)) n3, le, Same.new h0, ?_⟩
        obtain ⟨C', fs', ts', vs', dd', f1, f2, f3, f4, f5, f6, f7⟩ := rx2
        cases f1
        cases f2
        cases f3
        exact .fz ⟨_, upd_same, le.at f4 fun z => z⟩ f5 f6 fun i t v a1 a2 => (f7 i t v a1 a2).mono le (fun _ _ h => h.elim) fun _ h => h
      have iov : ∀ {σ2 : L2.St}, IO io σ0 σ2 → IO io σ0 (clr oi σ2) := fun {σ2} i2 => by
        cases oi with
        | none => exact i2
        | some k => exact io_keep (sl := [k]) i2 (fun j hj => List.getElem?_set_ne (by simpa [eq_comm] using hj)) fun j hj hk => hio k rfl (by rw [List.mem_singleton.mp hk] at hj; exact hj)
      refine h a C d0 fs tr S1 D1 H1 σ0 (nam oi a σ1) (namE oi a env1) _ _ o1 re1' hio' (hyes hbt a) ⟨fun S2 D2 H2 env2 σ2 n2 re2 i2 p2 h0 => ?_, fun S2 D2 H2 env2 σ2 n2 re2 i2 p2 h0 => ?_, fun S2 D2 H2 env2 σ2 n2 re2 i2 p2 h0 => ?_, fun S2 D2 H2 env2 σ2 t2 v2 n2 rz2 i2 p2 h0 => ?_, fun _ _ _ _ _ _ _ _ _ _ _ _ p => p.elim⟩
      · obtain ⟨nn, le, sm, rr⟩ := fin n2 h0
        exact lf.nx _ _ _ _ _ nn (((re2.mono le (fun b ob _ e => sm _ _ e) fun _ h => h).unt rr).clr oi) (iov i2) p2
      · obtain ⟨nn, le, sm, rr⟩ := fin n2 h0
        exact lf.bk _ _ _ _ _ nn (((re2.mono le (fun b ob _ e => sm _ _ e) fun _ h => h).unt rr).clr oi) (iov i2) p2
      · obtain ⟨nn, le, sm, rr⟩ := fin n2 h0
        exact lf.ct _ _ _ _ _ nn (((re2.mono le (fun b ob _ e => sm _ _ e) fun _ h => h).unt rr).clr oi) (iov i2) p2
      · obtain ⟨nn, le, sm, rr⟩ := fin n2 h0
        obtain ⟨E1, E2, dj, x1, x2, q1, q2⟩ := rz2
        exact lf.rt _ _ _ _ _ _ _ nn ⟨E1, E2, dj, x1, x2, (q1.mono le (fun b ob _ e => sm _ _ e) fun _ h => h).unt rr, q2.mono le (fun b ob _ e => sm _ _ e) fun _ h => h⟩ i2 p2
  exact key g2 p
/-! ### the fields of the thing that is caught -/
def dXf (a : Addr) (ex : T) (f : Str) (de : DE) : DE := fun env P Ex => de env (fun t env' => t = .lf (.ref a) ∧ match ex with
  | .nd _ (.exc _ fs) ts => ∃ t', (fs.zip ts).lookup f = some t' ∧ P t' env'
  | _ => False) Ex
theorem lookup_zip {α : Type} : ∀ {fs : List Str} {ts : List α} {vs : List V} {f : Str} {t : α}, fs.length = vs.length → ts.length = vs.length → (fs.zip ts).lookup f = some t → ∃ (i : Nat) (v : V), ts[i]? = some t ∧ vs[i]? = some v ∧ (fs.zip vs).lookup f = some v
  | [], ts, vs, f, t, _, _, e => by simp at e
  | g :: fs, [], vs, f, t, _, _, e => by simp at e
  | g :: fs, t0 :: ts, [], f, t, _, h, _ => by simp at h
  | g :: fs, t0 :: ts, v0 :: vs, f, t, h1, h2, e => by
    simp only [List.zip_cons_cons, List.lookup_cons] at e ⊢
    cases q : f == g with
    | true => rw [q] at e; cases e; exact ⟨0, v0, rfl, rfl, rfl⟩
    | false =>
      rw [q] at e
      obtain ⟨i, v, a1, a2, a3⟩ := lookup_zip (by simpa using h1) (by simpa using h2) e
      exact ⟨i + 1, v, a1, a2, a3⟩
theorem t_xf {a C dd : Addr} {fs : List Str} {ts : List T} {oe : Obj} {pn : List (Addr × Obj)} {e : Expr} {de : DE} {pos : Pos} {n : Str} (hT : XfC X.K C) (hno : PySem.W.findIn X.K (.ref C) n = some none)
    (hz : Zc (.ref C) (some dd) oe) (hf : ∃ vs, oe.data = .fields vs) (he : TPE (X.suite a ((a, oe) :: pn)) (suW X.K W (.nd false (.exc C fs) ts) (.ref C) (some dd)) e de) (hb : attributeBase e n X.env (eval e X.env) = eval e X.env := by rfl) :
    TPE (X.suite a ((a, oe) :: pn)) (suW X.K W (.nd false (.exc C fs) ts) (.ref C) (some dd)) (.Attribute e n pos) (dXf a (.nd false (.exc C fs) ts) n de) := by
  obtain ⟨te, h1, h2⟩ := he
  refine ⟨_, pe_xf hT hno hz hf h1 hb, fun S D H σ env Q P Ex o r d k x => h2 S D H σ env _ _ Ex o r d (fun S' D' H' env' t v n' rz p => ?_) x⟩
  obtain ⟨e1, t', e2, p⟩ := p
  subst e1
  obtain ⟨D1, D2, dj, s1, s2, re, rv⟩ := rz
  cases rv
  obtain ⟨C', fs', ts', vs', dd', f1, f2, f3, f4, f5, f6, f7⟩ := n'.ok.g.2
  cases f1
  cases f2
  cases f3
  obtain ⟨i, v, a1, a2, a3⟩ := lookup_zip f5 f6 e2
  exact ⟨rfl, rfl, dd, _, v, rfl, n'.ok.sub _ _ f4, a3, k _ _ _ _ _ _ n' (.fr (re.mono (.refl _) (fun _ _ _ e => e) s1) ((f7 i _ v a1 a2).mono (.refl _) (fun _ _ h => h.elim) fun _ h => h)) p⟩
end
end Tr

set_option Elab.async false
set_option linter.all false
set_option maxRecDepth 100000
set_option maxHeartbeats 1000000
set_option autoImplicit false
namespace Tr
open PySem PySem.Spec PyProof.Rows L2 Cm
/-! ### raise -/
def dRaise (C : Addr) (fs : List Str) (da : DA) : DS := fun DT env => da env (fun ts env' => ts.length = fs.length ∧ DT.ex (.nd false (.exc C fs.reverse) (ts.map T.fz).reverse) env') DT.ex
section
variable {X : Cx} {W : Wc} {io : List Nat} {pos p rpos : Pos}
theorem Rs.frz {G : Gm} {K : PySem.W.Frag} {S H : Hp} {xs : List T} {vs : List V} {D D1 D2 : AP} (o : Ok G S D H) (s1 : Sub D1 D) (s2 : Sub D2 D) (dj : Dj D1 D2) (r : Rs K S H xs vs D2) : ∃ S', Nxt G S D H S' D1 H ∧ (∀ (i : Nat) (t : T) (v : V), (xs.map T.fz)[i]? = some t → vs[i]? = some v → R K S' H t v no) := by
  obtain ⟨hl, Df, h1, h2, h3⟩ := r
  refine ⟨_, Nxt.freeze o s1 s2 fun a x y => dj a y x, fun i t v e1 e2 => ?_⟩
  rw [List.getElem?_map] at e1
  cases q : xs[i]? with
  | none => rw [q] at e1; cases e1
  | some t' =>
    rw [q] at e1
    cases e1
    refine ((h3 i t' v q e2).frz fun a h => (o.dis a (s2 a (h2 i a h))).1).mono (.of fun b ob e => ?_) (fun _ _ h => h.elim) fun _ h => h
    by_cases hb : Df i b
    · rw [join_in hb] at e; rw [join_in (h2 i b hb)]; exact e
    · rw [join_out hb] at e; rw [join_out fun z => by rw [(o.dis b (s2 b z)).1] at e; cases e]; exact e
theorem s_raise {x : Str} {fs : List Str} {e : Expr} {es : List Expr} {da : DA} {ms : List (Option Nat)} (hc : X.calm = true) (tk : Takes X W.x) (Rr : Cm.Rd X.prog X.w X.K X.mg X.base x fs) (hr : Room 2 X.A) (ha : TPA X W ms (e :: es) da) (hf : fs.length ≤ 900) (hg : Gl X x := by rfl) (hdb : (x == ("__debug__" : Str)) = false := by decide) (he : starEach (e :: es) X.env = (false, eval e X.env) :: starEach es X.env := by rfl)
    (hpl : (backTo pos (starEach es X.env)).any (·.1) = false := by rfl) : TPS X W io (.Raise (some (.Call (.Name x p) (e :: es) [] pos)) none rpos) (dRaise (He.ga X.K x) fs da) := by
  obtain ⟨ta, a1, a2⟩ := ha
  refine ⟨_, ps_raise hc tk (pmk_rd Rr hr a1 hg hdb he hpl), fun S D H σ0 σ env DT DD o r i d l => ?_⟩
  refine a2 S D H σ env _ _ _ o r d (fun S' D' H' env' ts vs n rzs _ ⟨hl, q⟩ => ?_) (l.kx i)
  obtain ⟨D1, D2, dj, o1, n1, re, rv⟩ := rzs.split n.ok
  have hlv : vs.length = fs.length := by rw [← rv.shape]; exact hl
  refine rf_use (fs := fs) (H1 := H') (C := He.ga X.K x) (Q := fun cls d H2 => W.x cls d σ H2) hlv hf fun dd nd => ?_
  obtain ⟨S2, n2, kids⟩ := rv.frz o1 (fun _ => .inl) (fun _ => .inr) dj
  have sd : S2 dd = none := free_S n2.ok.sub nd
  have le := Sle.of (Same.new (o := .xd (fs.zip vs).reverse) sd)
  obtain ⟨n3, _⟩ := Nxt.frs (Dn := no) n2.ok (S' := upd S2 dd (.xd (fs.zip vs).reverse)) (H' := upd H' dd (.xd (fs.zip vs).reverse)) ⟨le, fun b hb => by
    by_cases z : b = dd
    · subst z; exact .inr nd
    · rw [upd_ne z] at hb; exact .inl hb, fun b ob e => by
    by_cases z : b = dd
    · subst z; rw [upd_same] at e ⊢; exact e
    · rw [upd_ne z] at e ⊢; exact n2.ok.sub _ _ e, Same.new nd, fun _ h => h.elim⟩
  have re3 := (re.mono n2.fs (fun _ _ _ e => e) fun _ h => h).mono le (H' := upd H' dd (.xd (fs.zip vs).reverse)) (D' := D1) (fun b ob _ e => old e nd) fun _ h => h
  refine l.ex _ _ _ _ _ _ _ _ (Nxt.trans o n (Nxt.trans n.ok n1 (Nxt.trans o1 n2 n3))) (re3.mono (.refl _) (fun _ _ _ e => e) fun _ => .inl) i ⟨_, fs.reverse, (ts.map T.fz).reverse, vs.reverse, dd, rfl, rfl, rfl, ?_, by simp [hlv], by simp [hl, hlv], fun j t v e1 e2 => ?_⟩ q
  · rw [upd_same, List.zip, ← List.reverse_zipWith (by rw [hlv])]
  · have hj : j < vs.length := by
      have := (List.getElem?_eq_some_iff.mp e2).1
      rwa [List.length_reverse] at this
    rw [List.getElem?_reverse hj] at e2
    rw [List.getElem?_reverse (by rw [List.length_map, hl, ← hlv]; exact hj), List.length_map, hl, ← hlv] at e1
    exact (kids _ t v e1 e2).mono le (fun _ _ h => h.elim) fun _ h => h
end
/-! ### one argument more, by its name -/
def tSnoc (ta : TA) (te : TE) : TA := fun σ H Q => ta σ H fun vs H1 => te σ H1 fun z H2 => Q (vs ++ [z]) H2
def dSnoc (da : DA) (de : DE) : DA := fun env P Ex => da env (fun ts env1 => de env1 (fun t env2 => P (ts ++ [t]) env2) Ex) Ex
theorem Rs.snoc {K : PySem.W.Frag} {S H : Hp} {xs : List T} {vs : List V} {t : T} {v : V} {D D1 D2 : AP} (dj : Dj D1 D2) (s1 : Sub D1 D) (s2 : Sub D2 D) (rs : Rs K S H xs vs D1) (r : R K S H t v D2) : Rs K S H (xs ++ [t]) (vs ++ [v]) D := by
  obtain ⟨hl, Df, h1, h2, h3⟩ := rs
  refine ⟨by simp [hl], fun i a => (i < xs.length ∧ Df i a) ∨ (i = xs.length ∧ D2 a), fun i j b hi hj => ?_, fun i a h => h.elim (fun z => s1 a (h2 i a z.2)) fun z => s2 a z.2, fun i t' v' e1 e2 => ?_⟩
  · rcases hi with ⟨a1, a2⟩ | ⟨a1, a2⟩ <;> rcases hj with ⟨b1, b2⟩ | ⟨b1, b2⟩
    · exact h1 i j b a2 b2
    · exact (dj b (h2 i b a2) b2).elim
    · exact (dj b (h2 j b b2) a2).elim
    · omega
  · by_cases c : i < xs.length
    · rw [List.getElem?_append_left c] at e1
      rw [List.getElem?_append_left (by omega)] at e2
      exact (h3 i t' v' e1 e2).up fun a x => .inl ⟨c, x⟩
    · have c3 : i = xs.length := by
        have := (List.getElem?_eq_some_iff.mp e1).1
        simp at this
        omega
      subst c3
      rw [List.getElem?_append_right (Nat.le_refl _), Nat.sub_self] at e1
      rw [hl, List.getElem?_append_right (Nat.le_refl _), Nat.sub_self] at e2
      cases e1
      cases e2
      exact r.up fun a x => .inr ⟨rfl, x⟩
theorem sa_snoc {K : PySem.W.Frag} {W : Wc} {ta : TA} {te : TE} {da : DA} {de : DE} {ms : List (Option Nat)} (ha : SA K W ms ta da) (h : SE K W te de) : SA K W (ms ++ [none]) (tSnoc ta te) (dSnoc da de) := fun S D H σ env Q P Ex o r d k x => by
  refine ha S D H σ env _ _ Ex o r d (fun S1 D1 H1 env1 ts vs n rzs hms p => ?_) x
  obtain ⟨E1, E2, dj, o1, n1, re, rv⟩ := rzs.split n.ok
  refine h S1 E1 H1 σ env1 _ _ Ex (o1.sm fun _ => .inl) re p (fun S2 D2 H2 env2 t v n2 rz2 p2 => ?_) fun S2 D2 H2 env2 ex cls dd n2 re2 rx e => ?_
  · obtain ⟨F1, F2, dj2, o2, m2, re2, rv2⟩ := rz2.split n2.ok
    obtain ⟨fr, dj3, kk⟩ := Nxt.frame o1 dj (Nxt.trans (o1.sm fun _ => .inl) n2 m2)
    refine k _ _ _ _ _ _ (Nxt.trans o (Nxt.trans o n n1) fr) ⟨F1, fun a => E2 a ∨ F2 a, fun a h1 h2 => ?_, fun a h => .inl (.inl h), fun a h => h.elim .inr fun z => .inl (.inr z), re2, ?_⟩ ⟨by simp [hms.1], fun j i e => ?_⟩ p2
    · exact h2.elim (fun z => dj3 a (.inl h1) z) fun z => dj2 a h1 z
    · exact Rs.snoc (fun a h1 h2 => dj3 a (.inr h2) h1) (fun _ => .inl) (fun _ => .inr) (rv.mono fr.fs (fun b ob hb e => kk b ob hb e) fun _ h => h) rv2
    · have hj : j < ms.length := by
        by_cases c : j < ms.length
        · exact c
        · rw [List.getElem?_append_right (by omega)] at e
          cases q : j - ms.length with
          | zero => rw [q] at e; simp at e
          | succ m => rw [q] at e; simp at e
      rw [List.getElem?_append_left hj] at e
      obtain ⟨v', e1, e2⟩ := hms.2 j i e
      exact ⟨v', e1, by rw [List.getElem?_append_left (by rw [← hms.1]; exact hj)]; exact e2⟩
  · obtain ⟨fr, dj3, kk⟩ := Nxt.frame o1 dj n2
    exact x _ _ _ _ _ _ _ (Nxt.trans o (Nxt.trans o n n1) fr) (re2.mono (.refl _) (fun _ _ _ e => e) fun _ h => .inl h) rx e
/-- a def of positional parameters and one by its name -/
abbrev DtK (P : Program) (w : World) (K : PySem.W.Frag) (mg : Str → Option Value) (base : Heap) (k : Nat) (x : Str) (ps : List Str) (kw : Str) (dv : V) (io : List Nat) (spec : Spec) : Prop := DnK P w K mg base (L2.CX P w) k x ps kw dv (spOf K (ps.length + 1) io spec)
section
variable {P : Program} {w : World} {K : PySem.W.Frag} {mg : Str → Option Value} {base : Heap}
theorem _root_.Cm.AtK.tok {x kw : Str} {dv : V} {st : Stmt} {N ps : List Str} {k : Nat} {io : List Nat} {ds : DS} (F : AtK K mg x st ps kw dv) (S : FnScope N (ps ++ [kw]) (defScope st)) (nd : io.Nodup) (hio : ∀ i ∈ io, i < ps.length + 1)
    (hbody : ∀ (f : Addr) (cdv : Value) (A : Around) (outer : List PySem.Env) (s : Shared) (H : Hp) (E : XK), Room k (A.deeper (envOfC x (defScope st) s.heap.objs.size f cdv)) →
      Takes (cxOf (L2.CX P w) P w K mg base N x (defScope st) f cdv A outer s H E) (fun cls d _ H => E cls d H) → PassesOwn (model P w) (A.deeper (envOfC x (defScope st) s.heap.objs.size f cdv)) (envOfC x (defScope st) s.heap.objs.size f cdv) (cxOf (L2.CX P w) P w K mg base N x (defScope st) f cdv A outer s H E).xe →
      TPSs (cxOf (L2.CX P w) P w K mg base N x (defScope st) f cdv A outer s H E) ⟨fun cls d _ H => E cls d H, G0⟩ io (defBody st) ds) : DtK P w K mg base (k + 1) x ps kw dv io (specOf N.length io ds) := by
  obtain ⟨f, fd, F, hm, hb, hd⟩ := F
  refine ⟨f, fd, F.ok S (fun vs H Q E h => by rw [h.1]; simp) fun cdv A outer s H vs Q E hr h => ?_, hm, F.kp, hb, hd, F.look⟩
  obtain ⟨ts, h1, h2⟩ := hbody f cdv A outer s H E hr (takes_of rfl rfl rfl rfl) PassesOwn.leaving
  exact ⟨ts, h1, body_ok nd hio h2 h⟩
theorem _root_.Cm.DnK.tim {x kw : Str} {dv : V} {ps : List Str} {k : Nat} {io : List Nat} {spec spec' : Spec} (D : DtK P w K mg base k x ps kw dv io spec) (h : ∀ ts P Ex, spec' ts P Ex → spec ts P Ex) : DtK P w K mg base k x ps kw dv io spec' := by
  obtain ⟨f, fd, F, r⟩ := D
  refine ⟨f, fd, F.imp fun vs H Q E q => ?_, r⟩
  obtain ⟨hn, S, D, ts, P, Ex, o, rs, d, z⟩ := q
  exact ⟨hn, S, D, ts, P, Ex, o, rs, h ts P Ex d, z⟩
theorem _root_.Cm.DnK.mn {CX : CXT} {x kw : Str} {dv : V} {ps : List Str} {j k : Nat} {sp : Sp} (D : DnK P w K mg base CX j x ps kw dv sp) (h : j ≤ k) : DnK P w K mg base CX k x ps kw dv sp := by
  obtain ⟨f, fd, F, r⟩ := D
  exact ⟨f, fd, F.mono h, r⟩
end
section
variable {X : Cx} {W : Wc} {io bs : List Nat} {p pos kp : Pos} {k : Nat} {x kw : Str} {dv : V} {ps : List Str} {spec : Spec} {e ek : Expr} {es : List Expr} {da : DA} {de : DE} {ms : List (Option Nat)}
theorem t_callK (D : DtK X.prog X.w X.K X.mg X.base k x ps kw dv io spec) (hr : Room k X.A) (tk : Takes X W.x) (ha : TPA X W ms (e :: es) da) (hk : TPE X W ek de) (hl : ms.length = ps.length) (bs : List Nat) (hb : ∀ (j i : Nat), io[j]? = some i → ∃ s, bs[j]? = some s ∧ (ms ++ [none])[i]? = some (some s)) (hbl : bs.length = io.length) (hg : Gl X x := by rfl)
    (hall : (backToKw pos (keywordEach [⟨some kw, ek, kp⟩] X.env)).all (·.1.isSome) = true := by rfl) (hks : (backToKw pos (keywordEach [⟨some kw, ek, kp⟩] X.env)).filterMap (·.1) = [kw] := by rfl)
    (hdb : (x == ("__debug__" : Str)) = false := by decide) (he : starEach (e :: es) X.env = (false, eval e X.env) :: starEach es X.env := by rfl)
    (hpl : ((backTo pos (starEach (e :: es) X.env)).any (·.1) || (backToKw pos (keywordEach [⟨some kw, ek, kp⟩] X.env)).any (·.1.isNone)) = false := by rfl) : TPE X W (.Call (.Name x p) (e :: es) [⟨some kw, ek, kp⟩] pos) (dCall bs spec (dSnoc da de)) := by
  obtain ⟨ta, a1, a2⟩ := ha
  obtain ⟨te, b1, b2⟩ := hk
  refine ⟨tCallS (spOf X.K (ps.length + 1) io spec) (WE W.x) (tSnoc ta te), ?_, se_call (sa_snoc a2 b2) (by simp [hl]) hb hbl⟩
  have eq : tCallWX ps.length (spOf X.K (ps.length + 1) io spec) W.x ta te = tCallS (spOf X.K (ps.length + 1) io spec) (WE W.x) (tSnoc ta te) := by
    funext σ H Q
    unfold tCallWX tCallS tSnoc
    congr 1
    funext vs H1
    congr 1
    funext z H2
    exact propext ⟨fun h => h.2.2, fun h => ⟨by have := h.1; simp at this; exact this, rfl, h⟩⟩
  rw [← eq]
  exact pe_callWX D hr tk a1 b1 hg hall hks hdb he hpl
theorem t_callK0 (D : DtK X.prog X.w X.K X.mg X.base k x [] kw dv [] spec) (hr : Room k X.A) (tk : Takes X W.x) (hk : TPE X W ek de) (hg : Gl X x := by rfl)
    (hall : (backToKw pos (keywordEach [⟨some kw, ek, kp⟩] X.env)).all (·.1.isSome) = true := by rfl) (hks : (backToKw pos (keywordEach [⟨some kw, ek, kp⟩] X.env)).filterMap (·.1) = [kw] := by rfl)
    (hdb : (x == ("__debug__" : Str)) = false := by decide)
    (hpl : ((backTo pos (starEach [] X.env)).any (·.1) || (backToKw pos (keywordEach [⟨some kw, ek, kp⟩] X.env)).any (·.1.isNone)) = false := by rfl) : TPE X W (.Call (.Name x p) [] [⟨some kw, ek, kp⟩] pos) (dCall [] spec (dSnoc dNil de)) := by
  obtain ⟨te, b1, b2⟩ := hk
  refine ⟨tCallS (spOf X.K 1 [] spec) (WE W.x) (tSnoc tNil te), ?_, se_call (sa_snoc sa_nil b2) rfl (fun j i e => by simp at e) rfl⟩
  have eq : (fun σ H Q => te σ H fun z H2 => [z].length = 1 ∧ spOf X.K 1 [] spec [z] H2 Q (WE W.x σ)) = tCallS (spOf X.K 1 [] spec) (WE W.x) (tSnoc tNil te) := by
    funext σ H Q
    unfold tCallS tSnoc tNil
    congr 1
    funext z H2
    exact propext ⟨fun h => h.2, fun h => ⟨rfl, h⟩⟩
  rw [← eq]
  exact pe_callWX0 D hr tk b1 hg hall hks hdb hpl
/-- f(e, ..), f(): the default stands for the named one -/
theorem run_fnSd {CX : CXT} {f : Addr} {fd : FuncData} {sp : Sp} {E : L2.St → XK} {ds : List Value} {dvs : List V} {pins : List (Addr × Obj)} {σ : L2.St} {H : Hp} {s : Shared} {Q : VK} {us : List Value} {vs : List V} (F : FnOk X.prog X.w X.K X.mg X.base CX k f fd ps sp) (hr : Room k X.A) (hb : Binds X.K fd ps ds) (hd : Vals dvs ds) (hx : PassesAt CX X σ (E σ))
    (I : Inv X pins σ H s) (r : Vals vs us) (h : sp (vs ++ dvs) H Q (E σ)) : wpAny (model X.prog X.w) X.A (call (.ref f) us) (EP X pins σ Q) X.xe s := by
  have r2 := r.append hd
  have hl : (us ++ ds).length = ps.length := by rw [← r2.length]; exact F.len _ _ _ _ h
  have b := hb s us I.kIn hl
  refine wpAny_call (codeAny_mono (F.run X.A X.stack s H ⟨us, []⟩ (us ++ ds) (vs ++ dvs) Q (E σ) hr I.env0 b r2 h) fun r s' hq => ?_)
  cases r with
  | error e => exact hx pins H s e s' I hq
  | ok fl =>
    cases fl with
    | ret u => exact I.after hq
    | next => exact False.elim hq
    | brk => exact False.elim hq
    | cont => exact False.elim hq
theorem se_Gl {K : PySem.W.Frag} {t : T} {v : V} (h : ∀ S H, R K S H t v no) : SE K W (tC v) (dGl t) := fun S D H σ env Q P Ex o r d k x => k _ _ _ _ _ _ (Nxt.refl o) (.fr r (h S H)) d
theorem t_callKd (D : DtK X.prog X.w X.K X.mg X.base k x ps kw dv io spec) (hr : Room k X.A) (tk : Takes X W.x) {t : T} (hv : ∀ S H, R X.K S H t dv no) (ha : TPA X W ms (e :: es) da) (hl : ms.length = ps.length) (bs : List Nat) (hb : ∀ (j i : Nat), io[j]? = some i → ∃ s, bs[j]? = some s ∧ (ms ++ [none])[i]? = some (some s)) (hbl : bs.length = io.length) (hg : Gl X x := by rfl)
    (hdb : (x == ("__debug__" : Str)) = false := by decide) (he : starEach (e :: es) X.env = (false, eval e X.env) :: starEach es X.env := by rfl) (hpl : (backTo pos (starEach es X.env)).any (·.1) = false := by rfl) : TPE X W (.Call (.Name x p) (e :: es) [] pos) (dCall bs spec (dSnoc da (dGl t))) := by
  obtain ⟨ta, a1, a2⟩ := ha
  refine ⟨tCallS (spOf X.K (ps.length + 1) io spec) (WE W.x) (tSnoc ta (tC dv)), ⟨fun pins s σ H Q I h => ?_⟩, se_call (sa_snoc a2 (se_Gl hv)) (by simp [hl]) hb hbl⟩
  obtain ⟨f, fd, F, hm, hkp, _, ⟨dl, hdv, hbn⟩, _⟩ := D
  refine wpAny_Call_Name_kw (ld_glob I hg hm ?_ hdb)
  refine PySem.W.callWith_K (h₀ := X.base) I.ok.mod.kin hkp (thn (a1.run pos pins s σ H _ I h) fun us s1 ⟨vs, H1, I1, r, q⟩ => ⟨I1.kIn, ?_⟩) he hpl
  exact run_fnSd F hr hbn hdv (passAt tk σ) I1 r q
theorem t_callKd0 (D : DtK X.prog X.w X.K X.mg X.base k x [] kw dv [] spec) (hr : Room k X.A) (tk : Takes X W.x) {t : T} (hv : ∀ S H, R X.K S H t dv no) (hg : Gl X x := by rfl) (hdb : (x == ("__debug__" : Str)) = false := by decide) : TPE X W (.Call (.Name x p) [] [] pos) (dCall [] spec (dSnoc dNil (dGl t))) := by
  refine ⟨tCallS (spOf X.K 1 [] spec) (WE W.x) (tSnoc tNil (tC dv)), ⟨fun pins s σ H Q I h => ?_⟩, se_call (sa_snoc sa_nil (se_Gl hv)) rfl (fun j i e => by simp at e) rfl⟩
  obtain ⟨f, fd, F, hm, hkp, _, ⟨dl, hdv, hbn⟩, _⟩ := D
  refine wpAny_Call_Name_kw (ld_glob I hg hm ?_ hdb)
  exact PySem.W.callWith_K0 I.kIn hkp (run_fnSd F hr hbn hdv (passAt tk σ) I .nil h)
end
end Tr

set_option Elab.async false
set_option linter.all false
set_option maxRecDepth 100000
set_option maxHeartbeats 1000000
set_option autoImplicit false
namespace Tr
open PySem PySem.Spec PyProof.Rows L2 Cm
/-! ### things that are changed -/
theorem Nxt.write {G : Gm} {S H : Hp} {D : AP} {a : Addr} {u : HO} (o : Ok G S D H) (ha : D a) : Nxt G S D H S D (upd H a u) := by
  have sa := (o.dis a ha).1
  refine ⟨⟨o.g, fun b ob e => ?_, fun b h => ⟨(o.dis b h).1, ?_⟩⟩, .refl _, fun _ h => .inl h, fun b ob e n _ => ?_, fun _ h => .inl h⟩
  · rw [upd_ne (fun z => by rw [z, sa] at e; cases e)]; exact o.sub _ _ e
  · by_cases z : b = a
    · subst z; rw [upd_same]; simp
    · rw [upd_ne z]; exact (o.dis b h).2
  · rw [upd_ne (fun z => n (by rw [z]; exact ha))]; exact e
abbrev FM := Kd → List T → List T → (T → Kd → List T → Prop) → Prop
def MtS (K : PySem.W.Frag) (f : FM) (r : V → List V → Hp → VK → Prop) : Prop :=
  ∀ (S H : Hp) (a : Addr) (u : HO) (k : Kd) (xs : List T) (vs : List V) (ts : List T) (ws : List V) (Dk Da : AP) (P : T → Kd → List T → Prop) (Q : VK),
    H a = some u → k.is u vs → k.ln vs.length → Rs K S H xs vs Dk → Rs K S H ts ws Da → Dj Dk Da → Same S H → f k xs ts P →
    (∀ t k' xs' v' vs' u' Dk' Dr, k'.is u' vs' → k'.ln vs'.length → Rs K S H xs' vs' Dk' → R K S H t v' Dr → Dj Dk' Dr → (∀ b, Dk' b → Dk b ∨ Da b) → (∀ b, Dr b → Dk b ∨ Da b) → P t k' xs' → Q v' (upd H a u')) → r (.ref a) ws H Q
def kindOf : Kd → String
  | .lst => "list"
  | .dk _ => "dict"
  | .dt _ => "dict"
  | _ => ""
theorem kind_ty {K : PySem.W.Frag} {S H : Hp} {k : Kd} {xs : List T} {v : V} {D : AP} {n : String} (r : R K S H (.nd true k xs) v D) (h : kindOf k = n) (hn : n ≠ "") : tyV K n v H := by
  cases r with
  | @own a u _ _ vs _ Df hD e hk hl0 hl h1 h2 h3 =>
    cases k with
    | lst => cases hk; subst h; exact .inl ⟨rfl, vs, .of e⟩
    | dk ks => cases hk; subst h; exact .inr (.inr (.inl ⟨rfl, .inl ⟨_, e⟩⟩))
    | dt ks => cases hk; subst h; exact .inr (.inr (.inl ⟨rfl, .inr ⟨_, e⟩⟩))
    | _ => exact absurd h.symm hn
theorem R.open {K : PySem.W.Frag} {S H : Hp} {k : Kd} {xs : List T} {v : V} {D : AP} (r : R K S H (.nd true k xs) v D) : ∃ a u vs Dk, v = .ref a ∧ D a ∧ H a = some u ∧ k.is u vs ∧ k.ln vs.length ∧ Rs K S H xs vs Dk ∧ Sub Dk D ∧ ¬ Dk a := by
  cases r with
  | @own a u _ _ vs _ Df hD e hk hl0 hl h1 h2 h3 => exact ⟨a, u, vs, fun b => ∃ i, Df i b, rfl, hD, e, hk, hl0, ⟨hl, Df, h1, fun i b h => ⟨i, h⟩, h3⟩, fun b ⟨i, h⟩ => (h2 i b h).1, fun ⟨i, h⟩ => (h2 i a h).2 rfl⟩
/-- behind a change of the thing of slot i -/
theorem mut_fin {G : Gm} {K : PySem.W.Frag} {S H : Hp} {D1 D2 E1 E2 Dk Dk' Dr : AP} {σ : L2.St} {env : Env} {i : Nat} {a : Addr} {u' : HO} {k' : Kd} {xs' : List T} {vs' : List V} {t : T} {v' : V} (o : Ok G S (fun b => D1 b ∨ D2 b) H) (dj : Dj D1 D2) (x1 : Sub E1 D1) (x2 : Sub E2 D1) (dj2 : Dj E1 E2)
    (ev : σ[i]? = some (some (.ref a))) (re : Re K S H (env.set i none) σ E2) (ha : E1 a) (sk : Sub Dk E1) (nk : ¬ Dk a) (hk' : k'.is u' vs') (hl' : k'.ln vs'.length) (rs' : Rs K S H xs' vs' Dk') (rt : R K S H t v' Dr) (dj' : Dj Dk' Dr) (s1 : ∀ b, Dk' b → Dk b ∨ D2 b) (s2 : ∀ b, Dr b → Dk b ∨ D2 b) :
    Nxt G S (fun b => D1 b ∨ D2 b) H S (fun b => D1 b ∨ D2 b) (upd H a u') ∧ Rz K S (upd H a u') (env.set i (some (.nd true k' xs'))) σ t v' (fun b => D1 b ∨ D2 b) := by
  have na : ∀ b, E2 b → b ≠ a := fun b h z => by subst z; exact dj2 _ ha h
  have na' : ∀ b, Dk' b → b ≠ a := fun b h z => by
    subst z
    rcases s1 _ h with h | h
    · exact nk h
    · exact dj _ (x1 _ ha) h
  have nr : ∀ b, Dr b → b ≠ a := fun b h z => by
    subst z
    rcases s2 _ h with h | h
    · exact nk h
    · exact dj _ (x1 _ ha) h
  have up : ∀ b (ob : HO), b ≠ a → H b = some ob → upd H a u' b = some ob := fun b ob z e => by rw [upd_ne z]; exact e
  refine ⟨Nxt.write o (.inl (x1 _ ha)), fun b => E2 b ∨ (b = a ∨ Dk' b), Dr, fun b h1 h2 => ?_, fun b h => ?_, fun b h => ?_, ?_, rt.mono (.refl _) (fun b ob h e => up b ob (nr b h) e) fun _ h => h⟩
  · rcases h1 with h1 | h1 | h1
    · rcases s2 b h2 with h | h
      · exact dj2 b (sk b h) h1
      · exact dj b (x2 b h1) h
    · exact nr b h2 h1
    · exact dj' b h1 h2
  · rcases h with h | h | h
    · exact .inl (x2 b h)
    · subst h; exact .inl (x1 _ ha)
    · rcases s1 b h with h | h
      · exact .inl (x1 b (sk b h))
      · exact .inr h
  · rcases s2 b h with h | h
    · exact .inl (x1 b (sk b h))
    · exact .inr h
  · have := Re.back (t := .nd true k' xs') (D1 := E2) (D2 := fun b => b = a ∨ Dk' b) (D := fun b => E2 b ∨ (b = a ∨ Dk' b)) (fun b h1 h2 => ?_) (fun _ => .inl) (fun _ => .inr) (re.mono (.refl _) (fun b ob h e => up b ob (na b h) e) fun _ h => h) i ev
      (R.node (k := k') (.inl rfl) upd_same hk' hl' (rs'.mono (.refl _) (fun b ob h e => up b ob (na' b h) e) fun b h => ⟨.inr h, na' b h⟩))
    · rw [List.set_set] at this; exact this
    · rcases h2 with h2 | h2
      · exact na b h1 h2
      · rcases s1 b h2 with h | h
        · exact dj2 b (sk b h) h1
        · exact dj b (x2 b h1) h
/-- o.m(e, ..), o a slot's thing -/
def dMutA (i : Nat) (n : String) (f : FM) (da : DA) : DE := fun env P Ex => (∃ k xs, env[i]? = some (some (.nd true k xs)) ∧ kindOf k = n) ∧ da env (fun ts env1 => ∃ k xs, env1[i]? = some (some (.nd true k xs)) ∧ f k xs ts fun t k' xs' => P t (env1.set i (some (.nd true k' xs')))) Ex
theorem se_mutA {K : PySem.W.Frag} {W : Wc} {i : Nat} {n : String} {f : FM} {r : V → List V → Hp → VK → Prop} {ta : TA} {da : DA} {ms : List (Option Nat)} (hn : n ≠ "") (ha : SA K W ms ta da) (hm : MtS K f r) : SE K W (tBM K n r (tVar i) ta) (dMutA i n f da) := fun S D H σ env Q P Ex o re d k x => by
  obtain ⟨⟨k0, xs0, e0, hk0⟩, d⟩ := d
  obtain ⟨v, ev, rv⟩ := re.get e0
  refine ⟨v, ev, kind_ty rv hk0 hn, ha S D H σ env _ _ Ex o re d (fun S1 D1 H1 env1 ts ws n1 rzs _ p => ?_) x⟩
  obtain ⟨k1, xs1, e1, p⟩ := p
  obtain ⟨F1, F2, dj, o1, m1, re1, rw1⟩ := rzs.split n1.ok
  obtain ⟨v', E1, E2, dj2, x1, x2, ev', q, re2⟩ := re1.take e1
  rw [ev] at ev'
  cases ev'
  obtain ⟨a, u, vs, Dk, rfl, hE, ea, hk, hl, rs, sk, nk⟩ := q.open
  refine hm S1 H1 a u k1 xs1 vs ts ws Dk F2 _ Q ea hk hl rs rw1 (fun b h1 h2 => dj b (x1 b (sk b h1)) h2) o1.sub p fun t k' xs' v' vs' u' Dk' Dr hk' hl' rs' rt dj' s1 s2 p2 => ?_
  obtain ⟨n2, rz⟩ := mut_fin o1 dj x1 x2 dj2 ev re2 hE sk nk hk' hl' rs' rt dj' s1 s2
  exact k _ _ _ _ _ _ (Nxt.trans o (Nxt.trans o n1 m1) n2) rz p2
/-- o[e] = v, o a slot's thing: v first, then e -/
def dPutA (i : Nat) (f : FM) (dv de : DE) : DS := fun DT env => dv env (fun t env1 => (∃ t0, env1[i]? = some (some t0)) ∧ de env1 (fun te env2 => ∃ k xs, env2[i]? = some (some (.nd true k xs)) ∧ f k xs [t, te.fz] fun _ k' xs' => DT.nx (env2.set i (some (.nd true k' xs')))) DT.ex) DT.ex
def tPut (r : V → List V → Hp → VK → Prop) (tv to te : TE) : TS := fun D σ H => tv σ H fun v H1 => to σ H1 fun x H2 => te σ H2 fun y H3 => r x [v, y] H3 fun _ H4 => D.nx σ H4
theorem ss_putA {K : PySem.W.Frag} {W : Wc} {io : List Nat} {i : Nat} {f : FM} {r : V → List V → Hp → VK → Prop} {tv te : TE} {dv de : DE} (hv : SE K W tv dv) (he : SE K W te de) (hm : MtS K f r) : SS K W io (tPut r tv (tVar i) te) (dPutA i f dv de) := fun S D H σ0 σ env DT DD o re iov d l => by
  refine hv S D H σ env _ _ _ o re d (fun S1 D1 H1 env1 t v n1 rz p => ?_) (l.kx iov)
  obtain ⟨⟨t0, e0⟩, p⟩ := p
  obtain ⟨F1, F2, dj, o1, m1, re1, rv⟩ := rz.split n1.ok
  obtain ⟨x, ex, _⟩ := re1.get e0
  refine ⟨x, ex, he S1 F1 H1 σ env1 _ _ _ (o1.sm fun _ => .inl) re1 p (fun S2 D2 H2 env2 ty y n2 rz2 p2 => ?_) fun S2 D2 H2 env2 ex' cls dd n2 re2 rx e => ?_⟩
  · obtain ⟨k1, xs1, e1, p2⟩ := p2
    -- the index is frozen
    obtain ⟨S3, D3, n3, re3, ry⟩ := rz2.frz n2.ok
    obtain ⟨fr, djf, kk⟩ := Nxt.frame o1 dj (Nxt.trans (o1.sm fun _ => .inl) n2 n3)
    have rv3 : R K S3 H2 t v F2 := rv.mono fr.fs (fun b ob h e => kk b ob h e) fun _ h => h
    obtain ⟨v', E1, E2, dj2, x1, x2, ev', q, re2⟩ := re3.take e1
    rw [ex] at ev'
    cases ev'
    obtain ⟨a, u, vs, Dk, rfl, hE, ea, hk, hl, rs, sk, nk⟩ := q.open
    have rw3 : Rs K S3 H2 [t, ty.fz] [v, y] F2 := Rs.cons (D1 := F2) (D2 := no) (fun _ _ h => h) (fun _ h => h) (fun _ h => h.elim) rv3 (Rs.cons (D1 := no) (D2 := no) (fun _ h => h.elim) (fun _ h => h.elim) (fun _ h => h.elim) ry Rs.nil)
    refine hm S3 H2 a u k1 xs1 vs _ _ Dk F2 _ _ ea hk hl rs rw3 (fun b h1 h2 => djf b (x1 b (sk b h1)) h2) fr.ok.sub p2 fun t' k' xs' v' vs' u' Dk' Dr hk' hl' rs' rt dj' s1 s2 p3 => ?_
    obtain ⟨n5, rz5⟩ := mut_fin fr.ok djf x1 x2 dj2 ex re2 hE sk nk hk' hl' rs' rt dj' s1 s2
    obtain ⟨G1, G2, _, y1, y2, re5, _⟩ := rz5
    exact l.nx _ _ _ _ _ (Nxt.trans o (Nxt.trans o (Nxt.trans o n1 m1) fr) n5) (re5.mono (.refl _) (fun _ _ _ e => e) y1) iov p3
  · obtain ⟨fr, djf, kk⟩ := Nxt.frame o1 dj n2
    exact l.ex _ _ _ _ _ _ _ _ (Nxt.trans o (Nxt.trans o n1 m1) fr) (re2.mono (.refl _) (fun _ _ _ e => e) fun _ => .inl) iov rx e
/-! ### what methods do -/
theorem Rs.app {K : PySem.W.Frag} {S H : Hp} {xs ys : List T} {vs ws : List V} {D1 D2 : AP} (dj : Dj D1 D2) (a : Rs K S H xs vs D1) (b : Rs K S H ys ws D2) : Rs K S H (xs ++ ys) (vs ++ ws) (fun x => D1 x ∨ D2 x) := by
  obtain ⟨hl, Df, h1, h2, h3⟩ := a
  obtain ⟨hl', Df', h1', h2', h3'⟩ := b
  refine ⟨by simp [hl, hl'], fun i x => (i < xs.length ∧ Df i x) ∨ (xs.length ≤ i ∧ Df' (i - xs.length) x), fun i j x hi hj => ?_, fun i x h => h.elim (fun z => .inl (h2 i x z.2)) fun z => .inr (h2' _ x z.2), fun i t v e1 e2 => ?_⟩
  · rcases hi with ⟨a1, a2⟩ | ⟨a1, a2⟩ <;> rcases hj with ⟨b1, b2⟩ | ⟨b1, b2⟩
    · exact h1 i j x a2 b2
    · exact (dj x (h2 i x a2) (h2' _ x b2)).elim
    · exact (dj x (h2 j x b2) (h2' _ x a2)).elim
    · have := h1' _ _ x a2 b2; omega
  · by_cases c : i < xs.length
    · rw [List.getElem?_append_left c] at e1
      rw [List.getElem?_append_left (by omega)] at e2
      exact (h3 i t v e1 e2).up fun x h => .inl ⟨c, h⟩
    · rw [List.getElem?_append_right (by omega)] at e1
      rw [List.getElem?_append_right (by omega), ← hl] at e2
      exact (h3' _ t v e1 e2).up fun x h => .inr ⟨by omega, h⟩
theorem Rs.setAt {K : PySem.W.Frag} {S H : Hp} {xs : List T} {vs : List V} {D1 D2 : AP} {t : T} {v : V} (dj : Dj D1 D2) (a : Rs K S H xs vs D1) (j : Nat) (r : R K S H t v D2) : Rs K S H (xs.set j t) (vs.set j v) (fun x => D1 x ∨ D2 x) := by
  obtain ⟨hl, Df, h1, h2, h3⟩ := a
  refine ⟨by simp [hl], fun i x => (i ≠ j ∧ Df i x) ∨ (i = j ∧ D2 x), fun i i' x hi hj => ?_, fun i x h => h.elim (fun z => .inl (h2 i x z.2)) fun z => .inr z.2, fun i t' v' e1 e2 => ?_⟩
  · rcases hi with ⟨a1, a2⟩ | ⟨a1, a2⟩ <;> rcases hj with ⟨b1, b2⟩ | ⟨b1, b2⟩
    · exact h1 i i' x a2 b2
    · exact (dj x (h2 i x a2) b2).elim
    · exact (dj x (h2 i' x b2) a2).elim
    · omega
  · by_cases c : i = j
    · subst c
      have hi : i < xs.length := by
        have := (List.getElem?_eq_some_iff.mp e1).1
        rwa [List.length_set] at this
      rw [List.getElem?_set_self hi] at e1
      rw [List.getElem?_set_self (by omega)] at e2
      cases e1; cases e2
      exact r.up fun x h => .inr ⟨rfl, h⟩
    · rw [List.getElem?_set_ne (Ne.symm c)] at e1 e2
      exact (h3 i t' v' e1 e2).up fun x h => .inl ⟨c, h⟩
section
variable {K : PySem.W.Frag}
def fAppend : FM := fun k xs ts P => match k, ts with
  | .lst, [t] => xs.length < sizeLine ∧ P (.lf .non) .lst (xs ++ [t])
  | _, _ => False
theorem ms_append : MtS K fAppend rAppend := by
  intro S H a u k xs vs ts ws Dk Da P Q ea hk hl rs ra dj s d c
  unfold fAppend at d
  split at d
  · cases ws with
    | nil => exact absurd ra.shape (by simp)
    | cons w ws =>
      have hw : ws = [] := by
        have := ra.shape
        simpa using this
      subst hw
      cases hk
      exact ⟨a, vs, w, rfl, rfl, ea, by rw [← rs.shape]; exact d.1, c _ .lst _ _ (vs ++ [w]) _ _ no rfl trivial (Rs.app dj rs ra) .lf (fun _ _ h => h) (fun b h => h) (fun _ h => h.elim) d.2⟩
  · exact d.elim
def fSetL : FM := fun k xs ts P => match k, ts with
  | .lst, [t, .lf (.int i)] => ∃ j, ixN xs.length i = some j ∧ P (.lf .non) .lst (xs.set j t)
  | _, _ => False
def rSetLA : V → List V → Hp → VK → Prop := fun x ws H Q => match ws with
  | [v, y] => rSetL x y v H fun H' => Q .non H'
  | _ => False
theorem ms_set : MtS K fSetL rSetLA := by
  intro S H a u k xs vs ts ws Dk Da P Q ea hk hl rs ra dj s d c
  unfold fSetL at d
  split at d
  · rename_i t i
    obtain ⟨j, e, d⟩ := d
    cases ws with
    | nil => exact absurd ra.shape (by simp)
    | cons w ws =>
      obtain ⟨A1, A2, dj2, x1, x2, q1, q2⟩ := ra.uncons
      cases ws with
      | nil => exact absurd q2.shape (by simp)
      | cons w2 ws =>
        have hw : ws = [] := by
          have := q2.shape
          simpa using this
        subst hw
        obtain ⟨_, _, _, _, _, q3, _⟩ := q2.uncons
        cases q3
        cases hk
        refine ⟨a, vs, i, j, rfl, rfl, ea, by rw [← rs.shape]; exact e, c _ .lst _ _ (vs.set j w) _ (fun b => Dk b ∨ A1 b) no rfl trivial (Rs.setAt (fun b h1 h2 => dj b h1 (x1 b h2)) rs j q1) .lf (fun _ _ h => h) (fun b h => h.elim .inl fun z => .inr (x1 b z)) (fun _ h => h.elim) d⟩
  · exact d.elim
end
section
variable {X : Cx} {W : Wc} {io : List Nat} {pos apos cpos npos : Pos} {i : Nat} {x n m : Str} {e : Expr} {es : List Expr} {da : DA} {ms : List (Option Nat)}
/-- x.append(e) -/
theorem t_append (hN : X.N[i]? = some x) (hv : Vis X.env.scope x) (ha : TPA X W ms [e] da) (hpe : ∀ {t : TA}, PA X [e] t → PE X (.Call (.Attribute (.Name x npos) "append" apos) [e] [] cpos) (tBM X.K "list" rAppend (tVar i) t)) : TPE X W (.Call (.Attribute (.Name x npos) "append" apos) [e] [] cpos) (dMutA i "list" fAppend da) := by
  obtain ⟨ta, a1, a2⟩ := ha
  exact ⟨_, hpe a1, se_mutA (by decide) a2 ms_append⟩
/-- x[e] = v on a list -/
theorem s_putL {ev ei : Expr} {dv de : DE} {tp sp : Pos} (hN : X.N[i]? = some x) (hv : Vis X.env.scope x) (h1 : TPE X W ev dv) (h2 : TPE X W ei de) (hs : swapsWithSole [.Subscript (.Name x npos) ei tp] ev sp.line X.env = pure false := by rfl) (hw : swappedStores [.Subscript (.Name x npos) ei tp] ev X.env = pure none := by rfl) (h0 : (assignEach [.Subscript (.Name x npos) ei tp] X.env).map (·.2) = [assign (.Subscript (.Name x npos) ei tp) X.env] := by rfl)
    (hg : ∀ {t : TE}, PE X ei t → PG X (.Subscript (.Name x npos) ei tp) (gSub (tVar i) t rSetL)) : TPS X W io (.Assign [.Subscript (.Name x npos) ei tp] ev sp) (dPutA i fSetL dv de) := by
  obtain ⟨tv, a1, a2⟩ := h1
  obtain ⟨te, b1, b2⟩ := h2
  exact ⟨_, ps_asg a1 (hg b1) hs hw h0, ss_putA a2 b2 ms_set⟩
end
end Tr

set_option Elab.async false
set_option linter.all false
set_option maxRecDepth 100000
set_option maxHeartbeats 1000000
set_option autoImplicit false
namespace Tr
open PySem PySem.Spec PyProof.Rows L2 Cm
/-! ### a op b op c -/
def dChain (f f' : List T → (T → Prop) → Prop) (d1 d2 d3 : DE) : DE := fun env P Ex => dLs [.v d1, .v d2] env (fun rs env' => ∃ t1 t2, rs = [.inl t1, .inl t2] ∧ f [t1, t2] fun t => ∃ c, t = .lf (.bl c) ∧
  if c = true then dLs [.v d3] env' (fun rs3 env3 => ∃ t3, rs3 = [.inl t3] ∧ f' [t2, t3] fun t => P t env3) Ex else P (.lf (.bl false)) env') Ex
section
variable {X : Cx} {W : Wc} {io : List Nat} {pos : Pos} {f f' : List T → (T → Prop) → Prop} {d1 d2 d3 : DE}
theorem se_chain {K : PySem.W.Frag} {r r' : R2} {ta tb tc : TE} (ha : SE K W ta d1) (hb : SE K W tb d2) (hc : SE K W tc d3) (ho : OpS K f (r2 r)) (ho' : OpS K f' (r2 r')) : SE K W (tChain r r' ta tb tc) (dChain f f' d1 d2 d3) := fun S D H σ env Q P Ex o re d k x => by
  have sl := sl_cons (K := K) (W := W) (od := .v d1) ha (sl_cons (od := .v d2) hb sl_nil)
  refine sl S D H σ env (fun vs H2 => r2 r vs H2 fun z H3 => ∃ c, z = .bl c ∧ (if c = true then tc σ H3 fun w' H4 => r' (vs.getD 1 .non) w' H4 Q else Q (.bl false) H3)) _ Ex o re d (fun S1 D1 H1 env1 rs vs n1 r1 rd p => ?_) x
  obtain ⟨t1, t2, rfl, p⟩ := p
  obtain ⟨v1, v2, rfl⟩ : ∃ v1 v2, vs = [v1, v2] := by
    have := rd.1
    match vs, this with
    | [a, b], _ => exact ⟨a, b, rfl⟩
  have q1 := (rd.2 0 v1 rfl).1 t1 rfl
  have q2 := (rd.2 1 v2 rfl).1 t2 rfl
  refine ho S1 H1 [t1, t2] [v1, v2] _ _ n1.ok.sub ⟨v1, _, rfl, ⟨_, q1⟩, v2, _, rfl, ⟨_, q2⟩, rfl⟩ p fun t v S2 H2 Dn fr rt p2 => ?_
  obtain ⟨c, e, p2⟩ := p2
  subst e
  cases rt
  refine ⟨c, rfl, ?_⟩
  obtain ⟨n2, dj⟩ := Nxt.frs n1.ok fr
  have re2 := r1.mono fr.s1 (fun a ob _ e => fr.s _ _ e) (H' := H2) (D' := fun a => D1 a ∨ Dn a) fun _ => .inl
  have nn := Nxt.trans o n1 n2
  cases c with
  | false => exact k _ _ _ _ _ _ nn (.lf re2) p2
  | true =>
    rw [if_pos rfl] at p2 ⊢
    have sl3 := sl_cons (K := K) (W := W) (od := .v d3) hc sl_nil
    refine sl3 S2 _ H2 σ env1 (fun vs3 H4 => r' v2 (vs3.getD 0 .non) H4 Q) _ Ex n2.ok re2 p2 (fun S4 D4 H4 env4 rs vs n4 r4 rd4 p4 => ?_) (x.go o nn)
    obtain ⟨t3, rfl, p4⟩ := p4
    obtain ⟨v3, rfl⟩ : ∃ v3, vs = [v3] := by
      have := rd4.1
      match vs, this with
      | [a], _ => exact ⟨a, rfl⟩
    have q3 := (rd4.2 0 v3 rfl).1 t3 rfl
    have q2' := q2.mono (Sle.trans fr.s1 n4.fs) (fun _ _ h => h.elim) (H' := H4) (D' := no) fun _ h => h
    refine ho' S4 H4 [t2, t3] [v2, v3] _ _ n4.ok.sub ⟨v2, _, rfl, ⟨_, q2'⟩, v3, _, rfl, ⟨_, q3⟩, rfl⟩ p4 fun t v S5 H5 Dn5 fr5 rt5 p5 => ?_
    obtain ⟨n5, dj5⟩ := Nxt.frs n4.ok fr5
    exact k _ _ _ _ _ _ (Nxt.trans o (Nxt.trans o nn n4) n5) (Rz.mk dj5 (r4.mono fr5.s1 (fun a ob _ e => fr5.s _ _ e) fun _ h => h) rt5) p5
theorem t_chain {op op' : CmpOp} {r r' : R2} {a b c : Expr} (ho : OpR X (compareOp op) r) (hf : OpS X.K f (r2 r)) (ho' : OpR X (compareOp op') r') (hf' : OpS X.K f' (r2 r')) (ha : TPE X W a d1) (hb : TPE X W b d2) (hc : TPE X W c d3) (hm : lastMarks [op, op'] [b, c] = false := by with_unfolding_all rfl) : TPE X W (.Compare a [op, op'] [b, c] pos) (dChain f f' d1 d2 d3) :=
  let ⟨_, a1, a2⟩ := ha; let ⟨_, b1, b2⟩ := hb; let ⟨_, c1, c2⟩ := hc; ⟨_, pe_chain ho ho' a1 b1 c1 hm, se_chain a2 b2 c2 hf hf'⟩
theorem b_chain {op op' : CmpOp} {r r' : R2} {a b c : Expr} (ho : OpR X (compareOp op) r) (hf : OpS X.K f (r2 r)) (ho' : OpR X (compareOp op') r') (hf' : OpS X.K f' (r2 r')) (ha : TPE X W a d1) (hb : TPE X W b d2) (hc : TPE X W c d3) (hm : lastMarks [op, op'] [b, c] = false := by with_unfolding_all rfl) : TPB X W (.Compare a [op, op'] [b, c] pos) (dT (dChain f f' d1 d2 d3)) :=
  let ⟨_, a1, a2⟩ := ha; let ⟨_, b1, b2⟩ := hb; let ⟨_, c1, c2⟩ := hc; ⟨_, pt_chain ho ho' a1 b1 c1 hm, (se_chain a2 b2 c2 hf hf').test⟩
end
/-! ### slices -/
def cutT (xs : List T) (lo hi : Option Int) : List T := (xs.drop (HT.sIx xs.length 0 lo)).take (HT.sIx xs.length xs.length hi - HT.sIx xs.length 0 lo)
def fSl (lo hi : Option Int) (t : T) (P : T → Prop) : Prop := match t with
  | .nd o .lst xs => ko o xs ∧ P (.nd true .lst (cutT xs lo hi))
  | .nd false .tup xs => P (.nd false .tup (cutT xs lo hi))
  | .lf (.str z) => z.length ≤ sizeLine ∧ P (.lf (.str (cutS z lo hi)))
  | _ => False
def rSlAll (K : PySem.W.Frag) : V → Option Int → Option Int → Hp → VK → Prop := fun x lo hi H Q => rSlL K x lo hi H Q ∨ rSlA K x lo hi H Q ∨ L2.rSlS x lo hi H Q
theorem sl_all {X : Cx} : SlR X (rSlAll X.K) := sl_list.or (sl_tupA.or sl_str)
section
variable {K : PySem.W.Frag}
theorem get_cut {α β : Type} {xs : List α} {vs : List β} (hl : xs.length = vs.length) {m n i : Nat} {t : α} {v : β} (e1 : ((xs.drop m).take n)[i]? = some t) (e2 : ((vs.drop m).take n)[i]? = some v) : xs[m + i]? = some t ∧ vs[m + i]? = some v := by
  rw [List.getElem?_take] at e1 e2
  split at e1
  · rename_i h
    rw [if_pos h] at e2
    rw [List.getElem?_drop] at e1 e2
    exact ⟨e1, e2⟩
  · cases e1
theorem sl_one {S H : Hp} {lo hi : Option Int} {t : T} {v : V} {P : T → Prop} {Q : VK} (s : Same S H) (r : Rd1 K S H t v) (d : fSl lo hi t P) (k : KO K S H P Q) : rSlAll K v lo hi H Q := by
  unfold fSl at d
  split at d
  · rename_i o xs
    obtain ⟨a, vs, rfl, ea, ka⟩ := r.lst s
    refine .inl ⟨a, vs, rfl, .of ea, fun p hp => fin_new (kd := .lst) s k hp rfl trivial ?_ (fun i t v e1 e2 => ?_) d.2⟩
    · unfold cutT cutV; rw [List.length_take, List.length_take, List.length_drop, List.length_drop, ka.len]
    · unfold cutT at e1; unfold cutV at e2
      rw [← ka.len] at e2
      obtain ⟨h1, h2⟩ := get_cut ka.len e1 e2
      exact ka.fz d.1 _ _ _ h1 h2
  · rename_i xs
    obtain ⟨_, r⟩ := r
    cases r with
    | @fz a _ _ vs _ ha _ hla h3 =>
      refine .inr (.inl ⟨a, vs, rfl, .of (s _ _ ha), fun e => ?_, fun _ p hp => fin_newz (kd := .tup) s k hp (Same.new hp) upd_same rfl trivial ?_ (fun i t v e1 e2 => ?_) d⟩)
      · have e' : cutT xs lo hi = xs := by
          unfold cutT
          rw [hla, e.1, e.2, List.drop_zero, Nat.sub_zero, ← hla, List.take_length]
        rw [e'] at d
        exact fin_old s k (.fz (k := .tup) ha trivial hla h3) d
      · unfold cutT cutV; rw [List.length_take, List.length_take, List.length_drop, List.length_drop, hla]
      · unfold cutT at e1; unfold cutV at e2
        rw [← hla] at e2
        obtain ⟨h1, h2⟩ := get_cut hla e1 e2
        exact h3 _ _ _ h1 h2
  · cases r.lf
    exact .inr (.inr ⟨_, rfl, d.1, fin_lf s k d.2⟩)
  · exact d.elim
def fSl00 : List T → (T → Prop) → Prop
  | [t], P => fSl none none t P
  | _, _ => False
def fSl10 : List T → (T → Prop) → Prop
  | [t, .lf (.int i)], P => fSl (some i) none t P
  | _, _ => False
def fSl01 : List T → (T → Prop) → Prop
  | [t, .lf (.int i)], P => fSl none (some i) t P
  | _, _ => False
theorem os_sl00 : OpS K fSl00 (r1 fun x H Q => rSlAll K x none none H Q) := by
  intro S H ts vs P Q s r d k
  unfold fSl00 at d
  split at d
  · obtain ⟨x, _, rfl, rx, rfl⟩ := r
    exact sl_one s rx d k
  · exact d.elim
theorem os_sl10 : OpS K fSl10 (r2 fun x y H Q => ∃ i, y = .int i ∧ rSlAll K x (some i) none H Q) := by
  intro S H ts vs P Q s r d k
  unfold fSl10 at d
  split at d
  · obtain ⟨x, _, rfl, rx, y, _, rfl, ry, rfl⟩ := r
    cases ry.lf
    exact ⟨_, rfl, sl_one s rx d k⟩
  · exact d.elim
theorem os_sl01 : OpS K fSl01 (r2 fun x y H Q => ∃ i, y = .int i ∧ rSlAll K x none (some i) H Q) := by
  intro S H ts vs P Q s r d k
  unfold fSl01 at d
  split at d
  · obtain ⟨x, _, rfl, rx, y, _, rfl, ry, rfl⟩ := r
    cases ry.lf
    exact ⟨_, rfl, sl_one s rx d k⟩
  · exact d.elim
end
section
variable {X : Cx} {W : Wc} {io : List Nat} {pos p2 : Pos} {e lo hi : Expr} {o1 o2 o3 : Od}
theorem t_sl00 (h : TPO X W e o1) : TPE X W (.Subscript e (.Slice none none none p2) pos) (dOp fSl00 [o1]) :=
  let ⟨_, a1, a2⟩ := h; ⟨_, pe_slice sl_all a1 po_none po_none, se_op (r := r1 fun x H Q => rSlAll X.K x none none H Q) (sl_cons a2 sl_nil) os_sl00⟩
theorem t_sl10 (h : TPO X W e o1) (hl : TPO X W lo o2) : TPE X W (.Subscript e (.Slice (some lo) none none p2) pos) (dOp fSl10 [o1, o2]) :=
  let ⟨_, a1, a2⟩ := h; let ⟨_, b1, b2⟩ := hl; ⟨_, pe_slice sl_all a1 (po_some b1) po_none, se_op (r := r2 fun x y H Q => ∃ i, y = .int i ∧ rSlAll X.K x (some i) none H Q) (sl_cons a2 (sl_cons b2 sl_nil)) os_sl10⟩
theorem t_sl01 (h : TPO X W e o1) (hl : TPO X W hi o2) : TPE X W (.Subscript e (.Slice none (some hi) none p2) pos) (dOp fSl01 [o1, o2]) :=
  let ⟨_, a1, a2⟩ := h; let ⟨_, b1, b2⟩ := hl; ⟨_, pe_slice sl_all a1 po_none (po_some b1), se_op (r := r2 fun x y H Q => ∃ i, y = .int i ∧ rSlAll X.K x none (some i) H Q) (sl_cons a2 (sl_cons b2 sl_nil)) os_sl01⟩
def dSl11 (o1 : Od) (d2 d3 : DE) : DE := fun env P Ex => dLs [o1, .v d2] env (fun rs env1 => ∃ r0 i, rs = [r0, .inl (.lf (.int i))] ∧ dLs [.v d3] env1 (fun rs3 env3 => ∃ j, rs3 = [.inl (.lf (.int j))] ∧ ∃ t, rdT env3 r0 = some t ∧ fSl (some i) (some j) t fun t' => P t' env3) Ex) Ex
theorem t_sl11 {d2 d3 : DE} (h : TPO X W e o1) (hl : TPE X W lo d2) (hh : TPE X W hi d3) : TPE X W (.Subscript e (.Slice (some lo) (some hi) none p2) pos) (dSl11 o1 d2 d3) := by
  obtain ⟨te, a1, a2⟩ := h
  obtain ⟨tl, b1, b2⟩ := hl
  obtain ⟨th, c1, c2⟩ := hh
  refine ⟨_, pe_slice sl_all a1 (po_some b1) (po_some c1), fun S D H σ env Q P Ex o re d k x => ?_⟩
  have sl := sl_cons (K := X.K) (W := W) a2 (sl_cons (od := .v d2) b2 sl_nil)
  refine sl S D H σ env (fun vs H2 => ∃ i, vs.getD 1 .non = .int i ∧ th σ H2 fun z H3 => ∃ j, z = .int j ∧ rSlAll X.K (vs.getD 0 .non) (some i) (some j) H3 Q) _ Ex o re d (fun S1 D1 H1 env1 rs vs n1 r1' rd p => ?_) x
  obtain ⟨r0, i, rfl, p⟩ := p
  obtain ⟨v1, v2, rfl⟩ : ∃ v1 v2, vs = [v1, v2] := by
    have := rd.1
    match vs, this with
    | [a, b], _ => exact ⟨a, b, rfl⟩
  have q2 := (rd.2 1 v2 rfl).1 _ rfl
  cases q2
  refine ⟨i, rfl, ?_⟩
  have sl3 := sl_cons (K := X.K) (W := W) (od := .v d3) c2 sl_nil
  refine sl3 S1 D1 H1 σ env1 (fun vs3 H3 => ∃ j, vs3.getD 0 .non = .int j ∧ rSlAll X.K v1 (some i) (some j) H3 Q) _ Ex n1.ok r1' p (fun S4 D4 H4 env4 rs vs n4 r4 rd4 p4 => ?_) (x.go o n1)
  obtain ⟨j, rfl, t, et, p4⟩ := p4
  obtain ⟨v3, rfl⟩ : ∃ v3, vs = [v3] := by
    have := rd4.1
    match vs, this with
    | [a], _ => exact ⟨a, rfl⟩
  have q3 := (rd4.2 0 v3 rfl).1 _ rfl
  cases q3
  have rv1 : Rd1 X.K S4 H4 t v1 := by
    cases r0 with
    | inl t' =>
      cases et
      exact ⟨_, ((rd.2 0 v1 rfl).1 t rfl).mono n4.fs (fun _ _ h => h.elim) fun _ h => h⟩
    | inr m =>
      have e3 := (rd.2 0 v1 rfl).2 m rfl
      have et : env4[m]?.join = some t := et
      have e4 : env4[m]? = some (some t) := by
        cases q : env4[m]? with
        | none => rw [q] at et; cases et
        | some z => rw [q] at et; simp at et; rw [et]
      obtain ⟨v', e5, q⟩ := r4.get e4
      rw [e3] at e5
      cases e5
      exact ⟨_, q⟩
  refine ⟨j, rfl, sl_one n4.ok.sub rv1 p4 fun t v S5 H5 Dn5 fr5 rt5 p5 => ?_⟩
  obtain ⟨n5, dj5⟩ := Nxt.frs n4.ok fr5
  exact k _ _ _ _ _ _ (Nxt.trans o (Nxt.trans o n1 n4) n5) (Rz.mk dj5 (r4.mono fr5.s1 (fun a ob _ e => fr5.s _ _ e) fun _ h => h) rt5) p5
end
/-! ### isinstance, one class or several -/
def T.tyV : T → Option Value
  | .nd _ (.exc C _) _ => some (.ref C)
  | .nd _ (.ins C _) _ => some (.ref C)
  | t => t.tyn.map .type
structure InsK (K : PySem.W.Frag) (C : Addr) : Prop where
  cl : Cls K C
  ha : PySem.W.findIn K (.ref C) "__class__" = some (some (.builtin "object.__class__"))
  hn : PySem.W.specialIn K (.builtin "object.__class__") "__get__" = some (some (.builtin "getset_descriptor.__get__"))
  ht : PySem.W.takesIn K (.builtin "object.__class__") = some true
  hm : PySem.W.mroIn K C (.type "object") = some true
def T.tyOk (K : PySem.W.Frag) : T → Prop
  | .nd _ (.exc C _) _ => ExcC K C
  | .nd _ (.ins C _) _ => InsK K C
  | _ => True
def clsU : V → Option Value
  | .ty n => some (.type n)
  | .ref C => some (.ref C)
  | _ => none
/-- what a class among several is found by -/
def fIs (K : PySem.W.Frag) (us : List Value) : List T → (T → Prop) → Prop
  | [t], P => ∃ tv b, t.tyV = some tv ∧ t.tyOk K ∧ PySem.W.kitAny K tv us = some b ∧ P (.lf (.bl b))
  | _, _ => False
def fIs1 (K : PySem.W.Frag) : List T → (T → Prop) → Prop
  | [t, .lf c], P => ∃ tv u b, t.tyV = some tv ∧ t.tyOk K ∧ clsU c = some u ∧ PySem.W.kitOne K tv u = some b ∧ P (.lf (.bl b))
  | _, _ => False
def rIsA (K : PySem.W.Frag) : List V → Hp → VK → Prop := fun xs H Q => rIsi K xs H Q ∨ rIsX K xs H Q
theorem call_isA {X : Cx} : CallR X (.builtin "isinstance") (rIsA X.K) := call_isi.or call_isX
section
variable {K : PySem.W.Frag}
theorem tyX_same {H H' : Hp} {v : V} {t : Value} (s : Same H H') (h : TyX K H v t) : TyX K H' v t := by
  cases h with
  | base b =>
    cases b with
    | non => exact .base .non
    | bl x => exact .base (.bl x)
    | int i => exact .base (.int i)
    | str x => exact .base (.str x)
    | flt x => exact .base (.flt x)
    | lst e => exact .base (.lst (s _ _ e))
    | frz e => exact .base (.frz (s _ _ e))
    | tup e => exact .base (.tup (s _ _ e))
    | dK e => exact .base (.dK (s _ _ e))
    | dT e => exact .base (.dT (s _ _ e))
    | ins e a b c d f => exact .base (.ins (s _ _ e) a b c d f)
  | byt b => exact .byt b
  | set e => exact .set (s _ _ e)
  | kList e c => exact .kList e c
  | kTuple e c => exact .kTuple e c
  | kDict e c => exact .kDict e c
  | fTuple e => exact .fTuple (s _ _ e)
  | fDict e => exact .fDict (s _ _ e)
theorem clsU_ok {c : V} {u : Value} (e : clsU c = some u) : ClsV c u := by
  cases c <;> simp [clsU] at e <;> subst e
  · exact .own _
  · exact .ty _
theorem tyV_ok {S H : Hp} {t : T} {v : V} {tv : Value} (s : Same S H) (r : Rd1 K S H t v) (e : t.tyV = some tv) (ok : t.tyOk K) : TyX K H v tv ∨ ∃ a C d, v = .ref a ∧ tv = .ref C ∧ H a = some (exh a (.ref C) d) ∧ DOk H d ∧ ExcC K C := by
  have base : ∀ (h : t.tyn.map Value.type = some tv), TyX K H v tv := fun h => by
    cases q : t.tyn with
    | none => rw [q] at h; cases h
    | some n => rw [q] at h; cases h; exact tyn_ok s r q
  cases t with
  | lf x => exact .inl (base e)
  | nd o k xs =>
    cases k with
    | exc C fs =>
      cases e
      obtain ⟨a, d, vs, rfl, e1, e2, _⟩ := r.exc s
      exact .inr ⟨a, C, some d, rfl, rfl, e1, .inr ⟨d, _, rfl, e2⟩, ok⟩
    | ins C fs =>
      cases e
      obtain ⟨a, dx, vs, rfl, e1, _⟩ := r.ins s
      exact .inl (.base (.ins e1 ok.cl ok.ha ok.hn ok.ht ok.hm))
    | tup => exact .inl (base e)
    | tpk => exact .inl (base e)
    | lst => exact .inl (base e)
    | seq => exact .inl (base e)
    | dk ks => exact .inl (base e)
    | dt ks => exact .inl (base e)
    | rg lo hi => exact .inl (base e)
    | dkl ks => exact .inl (base e)
    | dtl ks => exact .inl (base e)
theorem os_is1 : OpS K (fIs1 K) (rIsA K) := by
  intro S H ts vs P Q s r d k
  unfold fIs1 at d
  split at d
  · obtain ⟨x, _, rfl, rx, y, _, rfl, ry, rfl⟩ := r
    obtain ⟨tv, u, b, e1, e2, e3, e4, d⟩ := d
    cases ry.lf
    rcases tyV_ok s rx e1 e2 with h | ⟨a, C, dd, rfl, rfl, h1, h2, h3⟩
    · exact .inl ⟨x, _, tv, u, b, rfl, clsU_ok e3, h, e4, fin_lf s k d⟩
    · exact .inr ⟨a, C, dd, _, u, b, rfl, h1, h2, h3, clsU_ok e3, e4, fin_lf s k d⟩
  · exact d.elim
end
section
variable {X : Cx} {W : Wc} {io : List Nat} {pos ip tp : Pos} {e : Expr} {o1 : Od}
/-- class names, as they stand in a tuple -/
def PCs (X : Cx) (cs : List Expr) (vs : List V) : Prop := PA X cs (fun _ H Q => Q vs H)
theorem pcs_nil : PCs X [] [] := pa_nil
theorem pcs_cons {c : Expr} {cs : List Expr} {v : V} {vs : List V} (h : PE X c (tC v)) (r : PCs X cs vs) (hs : starEach (c :: cs) X.env = (false, eval c X.env) :: starEach cs X.env := by rfl) : PCs X (c :: cs) (v :: vs) := pa_cons h r hs
theorem t_isT {cs : List Expr} {vs : List V} {us : List Value} {j : Nat} (hg : Gl X "isinstance") (hm : X.mg "isinstance" = none) (h : TPO X W e o1) (hc : PCs X cs vs) (hu : Paired ClsV vs us) (hl : vs.length ≤ sizeLine)
    (he : starEach [e, .Tuple cs j tp] X.env = (false, eval e X.env) :: starEach [.Tuple cs j tp] X.env := by rfl) (he2 : starEach [.Tuple cs j tp] X.env = (false, eval (.Tuple cs j tp) X.env) :: starEach [] X.env := by rfl) (hpl : (backTo pos (starEach [.Tuple cs j tp] X.env)).any (·.1) = false := by rfl) : TPE X W (.Call (.Name "isinstance" ip) [e, .Tuple cs j tp] [] pos) (dOp (fIs X.K us) [o1]) := by
  obtain ⟨te, a1, a2⟩ := h
  have orr : CallR X (.builtin "isinstance") (fun xs H Q => rIsiT X.K xs H Q ∨ rIsXT X.K xs H Q) := call_isiT.or call_isXT
  refine ⟨_, pe_callB orr hg hm (by decide +kernel) (pa_cons a1 (pa_cons (pe_tup hc) pa_nil he2) he) (by decide) (by decide) he hpl, fun S D H σ env Q P Ex o re d k x => ?_⟩
  have sl := sl_cons (K := X.K) (W := W) a2 sl_nil
  refine sl S D H σ env (fun ws H1 => vs.length ≤ sizeLine ∧ ∀ p, H1 p = none → (rIsiT X.K [ws.getD 0 .non, .ref p] (upd H1 p (.tup vs)) Q ∨ rIsXT X.K [ws.getD 0 .non, .ref p] (upd H1 p (.tup vs)) Q)) _ Ex o re d (fun S1 D1 H1 env1 rs ws n1 r1' rd p => ⟨hl, fun q hq => ?_⟩) x
  obtain ⟨ts, e1, p⟩ := p
  have rr := rdAll_ok r1' rd e1
  unfold fIs at p
  split at p
  · rename_i t
    obtain ⟨v, _, rfl, rv, rfl⟩ := rr
    obtain ⟨tv, b, h1, h2, h3, p⟩ := p
    have sm : Same H1 (upd H1 q (.tup vs)) := Same.new hq
    obtain ⟨n2, _⟩ := Nxt.fresh (Dn := no) n1.ok sm fun _ h => h.elim
    have fin : Q (.bl b) (upd H1 q (.tup vs)) := k _ _ _ _ _ _ (Nxt.trans o n1 (Nxt.trans n1.ok n2 (Nxt.shrink n2.ok fun _ => .inl))) (.lf (r1'.mono (.refl _) (fun a ob _ e => sm _ _ e) fun _ h => h)) p
    rcases tyV_ok n1.ok.sub rv h1 h2 with h | ⟨a, C, dd, rfl, rfl, x1, x2, x3⟩
    · exact .inl ⟨v, q, vs, tv, us, b, rfl, upd_same, hu, tyX_same sm h, h3, fin⟩
    · exact .inr ⟨a, C, dd, q, vs, us, b, rfl, upd_same, hu, old x1 hq, (by
        rcases x2 with z | ⟨dd', fs, z1, z2⟩
        · exact .inl z
        · exact .inr ⟨dd', fs, z1, old z2 hq⟩), x3, h3, fin⟩
  · exact p.elim
end
end Tr

set_option Elab.async false
set_option linter.all false
set_option maxRecDepth 100000
set_option maxHeartbeats 1000000
set_option autoImplicit false
namespace Tr
open PySem PySem.Spec PyProof.Rows L2 Cm
/-! ### dicts: keys and what stands by them, two lists -/
section
variable {κ α β : Type} [DecidableEq κ]
def ixOf : List κ → κ → Option Nat
  | [], _ => none
  | k0 :: ks, k => if k0 = k then some 0 else (ixOf ks k).map (· + 1)
def dg (ks : List κ) (xs : List α) (k : κ) : Option α := (ixOf ks k).bind fun i => xs[i]?
def dp (ks : List κ) (xs : List α) (k : κ) (t : α) : List κ × List α := match ixOf ks k with
  | some i => (ks, xs.set i t)
  | none => (ks ++ [k], xs ++ [t])
theorem ixOf_some : ∀ {ks : List κ} {k : κ} {i : Nat}, ixOf ks k = some i → ks[i]? = some k ∧ i < ks.length
  | [], _, _, h => by cases h
  | k0 :: ks, k, i, h => by
    unfold ixOf at h
    split at h
    · rename_i e; cases h; exact ⟨by simp [e], by simp⟩
    · cases q : ixOf ks k with
      | none => rw [q] at h; cases h
      | some j =>
        rw [q] at h
        cases h
        obtain ⟨h1, h2⟩ := ixOf_some q
        exact ⟨by simpa using h1, by simp; omega⟩
theorem ixOf_none : ∀ {ks : List κ} {k : κ}, ixOf ks k = none → k ∉ ks
  | [], _, _ => by simp
  | k0 :: ks, k, h => by
    unfold ixOf at h
    split at h
    · cases h
    · rename_i e
      cases q : ixOf ks k with
      | none => simp only [List.mem_cons, not_or]; exact ⟨fun z => e z.symm, ixOf_none q⟩
      | some j => rw [q] at h; cases h
end
theorem valV_zip {κ : Type} [DecidableEq κ] : ∀ {ks : List κ} {vs : List V} (k : κ), ks.length = vs.length → valV (ks.zip vs) k = dg ks vs k
  | [], [], k, _ => rfl
  | [], _ :: _, _, h => by simp at h
  | _ :: _, [], _, h => by simp at h
  | k0 :: ks, v :: vs, k, h => by
    have ih := valV_zip (ks := ks) (vs := vs) k (by simpa using h)
    unfold valV dg at *
    simp only [List.zip_cons_cons, List.find?_cons, ixOf]
    by_cases e : k0 = k
    · simp [e]
    · simp only [e, decide_false, if_false]
      rw [ih]
      cases ixOf ks k <;> simp
theorem map_same {κ : Type} [DecidableEq κ] {k : κ} {v : V} : ∀ {ks : List κ} {vs : List V}, k ∉ ks → (ks.zip vs).map (fun kv => if kv.1 = k then (kv.1, v) else kv) = ks.zip vs
  | [], _, _ => rfl
  | _ :: _, [], _ => rfl
  | k0 :: ks, w :: vs, h => by
    rw [List.mem_cons, not_or] at h
    rw [List.zip_cons_cons, List.map_cons, if_neg (fun z => h.1 z.symm), map_same h.2]
theorem map_put {κ : Type} [DecidableEq κ] {k : κ} {v : V} : ∀ {ks : List κ} {vs : List V} {i : Nat}, ks.length = vs.length → ks.Nodup → ixOf ks k = some i → (ks.zip vs).map (fun kv => if kv.1 = k then (kv.1, v) else kv) = ks.zip (vs.set i v)
  | [], _, _, _, _, h => by cases h
  | _ :: _, [], _, h, _, _ => by simp at h
  | k0 :: ks, w :: vs, i, hl, nd, h => by
    rw [List.nodup_cons] at nd
    unfold ixOf at h
    split at h
    · rename_i e
      cases h
      rw [List.zip_cons_cons, List.map_cons, if_pos e, List.set_cons_zero, List.zip_cons_cons, map_same (by rw [← e]; exact nd.1)]
    · rename_i e
      cases q : ixOf ks k with
      | none => rw [q] at h; cases h
      | some j =>
        rw [q] at h
        cases h
        rw [List.zip_cons_cons, List.map_cons, if_neg e, map_put (by simpa using hl) nd.2 q, List.set_cons_succ, List.zip_cons_cons]
theorem putK_zip {κ : Type} [DecidableEq κ] {ks : List κ} {vs : List V} (k : κ) (v : V) (h : ks.length = vs.length) (nd : ks.Nodup) : putK (ks.zip vs) k v = (dp ks vs k v).1.zip (dp ks vs k v).2 := by
  unfold putK dp
  cases q : ixOf ks k with
  | none =>
    have hk := ixOf_none q
    rw [if_neg]
    · rw [List.zip_append h]; rfl
    · rw [List.any_eq_true]
      rintro ⟨⟨a, b⟩, hm, hb⟩
      have hb : a = k := of_decide_eq_true hb
      subst hb
      exact hk (List.of_mem_zip hm).1
  | some i =>
    obtain ⟨h1, h2⟩ := ixOf_some q
    rw [if_pos]
    · exact map_put h nd q
    · rw [List.any_eq_true]
      exact ⟨(k, vs[i]'(by omega)), List.mem_of_getElem? (i := i) (by rw [List.getElem?_zip_eq_some]; exact ⟨h1, List.getElem?_eq_getElem (by omega)⟩), by simp⟩
theorem dp_len {κ α β : Type} [DecidableEq κ] {ks : List κ} {xs : List α} {vs : List β} {k : κ} {t : α} {v : β} (hl : ks.length = xs.length) (hl2 : xs.length = vs.length) : (dp ks xs k t).1 = (dp ks vs k v).1 ∧ (dp ks xs k t).1.length = (dp ks xs k t).2.length ∧ (dp ks xs k t).2.length = (dp ks vs k v).2.length := by
  unfold dp
  cases ixOf ks k <;> simp [hl, hl2]
theorem dp_nd {κ α : Type} [DecidableEq κ] {ks : List κ} {xs : List α} {k : κ} {t : α} (nd : ks.Nodup) : (dp ks xs k t).1.Nodup := by
  unfold dp
  cases q : ixOf ks k with
  | none =>
    have := ixOf_none q
    rw [List.nodup_append]
    exact ⟨nd, by simp, fun a ha b hb => by rw [List.mem_singleton.mp hb]; rintro rfl; exact this ha⟩
  | some i => exact nd
theorem dg_some {κ : Type} [DecidableEq κ] {ks : List κ} {xs : List T} {vs : List V} {k : κ} {t : T} (hl : xs.length = vs.length) (h : dg ks xs k = some t) : ∃ (i : Nat) (v : V), xs[i]? = some t ∧ vs[i]? = some v ∧ dg ks vs k = some v := by
  unfold dg at h ⊢
  cases q : ixOf ks k with
  | none => rw [q] at h; cases h
  | some i =>
    rw [q] at h
    have h : xs[i]? = some t := h
    have hi := (List.getElem?_eq_some_iff.mp h).1
    exact ⟨i, vs[i]'(by omega), h, List.getElem?_eq_getElem (by omega), by simp⟩
theorem dg_none {κ : Type} [DecidableEq κ] {ks : List κ} {xs : List T} {vs : List V} {k : κ} (hl : xs.length = vs.length) (hk : ks.length = xs.length) (h : dg ks xs k = none) : dg ks vs k = none := by
  unfold dg at h ⊢
  cases q : ixOf ks k with
  | none => rfl
  | some i =>
    rw [q] at h
    have := (ixOf_some q).2
    have h : xs[i]? = none := h
    rw [List.getElem?_eq_none_iff] at h
    omega
/-- a key that is plain, a key that is a tuple -/
def T.key : T → Option Key
  | .lf (.int i) => some (.inl i)
  | .lf (.str x) => some (.inr x)
  | _ => none
def tkeys : List T → Option (List Key)
  | [] => some []
  | t :: ts => match t.key, tkeys ts with
    | some k, some ks => some (k :: ks)
    | _, _ => none
theorem key_v {K : PySem.W.Frag} {S H : Hp} {t : T} {v : V} {k : Key} (r : Rd1 K S H t v) (e : t.key = some k) : v = kV k := by
  cases t with
  | nd o kd xs => simp [T.key] at e
  | lf x =>
    have := r.lf
    subst this
    cases v <;> simp [T.key] at e <;> subst e <;> rfl
theorem keys_v {K : PySem.W.Frag} {S H : Hp} : ∀ {ts : List T} {vs : List V} {ks : List Key}, ts.length = vs.length → (∀ (i : Nat) (t : T) (v : V), ts[i]? = some t → vs[i]? = some v → Rd1 K S H t v) → tkeys ts = some ks → vs = ks.map kV
  | [], vs, ks, hl, _, e => by cases e; exact List.length_eq_zero_iff.mp hl.symm
  | t :: ts, [], ks, hl, _, _ => by simp at hl
  | t :: ts, v :: vs, ks, hl, h, e => by
    simp only [tkeys] at e
    cases q1 : t.key with
    | none => rw [q1] at e; cases e
    | some d1 =>
      cases q2 : tkeys ts with
      | none => rw [q1, q2] at e; cases e
      | some d2 =>
        rw [q1, q2] at e
        cases e
        have e1 := key_v (h 0 t v rfl rfl) q1
        have e2 := keys_v (by simpa using hl) (fun i t v e1 e2 => h (i + 1) t v (by simpa using e1) (by simpa using e2)) q2
        subst e1 e2
        rfl
/-- what a dict has at a thing -/
def dval (d k : T) : Option (Option T) := match d with
  | .nd _ (.dk ks) xs => k.key.map fun k => dg ks xs k
  | .nd _ (.dt ks) xs => match k with
    | .nd _ .tup ts => (tkeys ts).map fun k => dg ks xs k
    | _ => none
  | _ => none
section
variable {K : PySem.W.Frag}
/-- what stands in the dict for the tree's answer -/
def Ans (K : PySem.W.Frag) (S H : Hp) (o : Option T) (ov : Option V) : Prop := (o = none ∧ ov = none) ∨ ∃ t v, o = some t ∧ ov = some v ∧ Rd1 K S H t v
theorem ans_of {κ : Type} [DecidableEq κ] {S H : Hp} {w : Bool} {ks : List κ} {xs : List T} {vs : List V} (hk : ks.length = vs.length) (ka : Kids K S H w xs vs) (k : κ) : Ans K S H (dg ks xs k) (valV (ks.zip vs) k) := by
  rw [valV_zip k hk]
  cases q2 : dg ks xs k with
  | none => exact .inl ⟨rfl, dg_none ka.len (by rw [ka.len]; exact hk) q2⟩
  | some t =>
    obtain ⟨i, v, h1, h2, h3⟩ := dg_some ka.len q2
    exact .inr ⟨t, v, rfl, h3, ka.rd _ _ _ h1 h2⟩
theorem dval_ok {S H : Hp} {d k : T} {x y : V} {o : Option T} (s : Same S H) (rd : Rd1 K S H d x) (rk : Rd1 K S H k y) (e : dval d k = some o) : ∃ a ov, x = .ref a ∧ DGet H a y ov ∧ Ans K S H o ov := by
  cases d with
  | lf v => cases e
  | nd w kd xs =>
    cases kd with
    | dk ks =>
      obtain ⟨a, vs, rfl, ea, hk, nd, ka⟩ := rd.dk s
      have e : k.key.map (fun k => dg ks xs k) = some o := e
      cases q : k.key with
      | none => rw [q] at e; cases e
      | some kk =>
        rw [q] at e
        cases e
        exact ⟨a, _, rfl, .inl ⟨_, kk, ea, key_v rk q, rfl⟩, ans_of hk ka kk⟩
    | dt ks =>
      obtain ⟨a, vs, rfl, ea, hk, nd, ka⟩ := rd.dt s
      cases k with
      | lf v => cases e
      | nd w2 kd2 ts =>
        cases kd2 with
        | tup =>
          obtain ⟨b, ws, rfl, eb, kb⟩ := rk.tup s
          have e : (tkeys ts).map (fun k => dg ks xs k) = some o := e
          cases q : tkeys ts with
          | none => rw [q] at e; cases e
          | some kk =>
            rw [q] at e
            cases e
            have hw : ws = kk.map kV := keys_v kb.len kb.rd q
            exact ⟨a, _, rfl, .inr ⟨_, kk, b, ea, rfl, by rw [eb, hw], rfl⟩, ans_of hk ka kk⟩
        | _ => cases e
    | _ => cases e
/-- d[k] -/
def fDGet : List T → (T → Prop) → Prop
  | [d, k], P => ∃ t, dval d k = some (some t) ∧ t.fzd = true ∧ P t
  | _, _ => False
theorem os_dget : OpS K fDGet (r2 fun x y H Q => ∃ a v, x = .ref a ∧ DGet H a y (some v) ∧ Q v H) := by
  intro S H ts vs P Q s r d k
  unfold fDGet at d
  split at d
  · obtain ⟨x, _, rfl, rx, y, _, rfl, ry, rfl⟩ := r
    obtain ⟨t, e, f, d⟩ := d
    obtain ⟨a, ov, rfl, h1, h2⟩ := dval_ok s rx ry e
    rcases h2 with ⟨h, _⟩ | ⟨t', v, h3, h4, ⟨_, h5⟩⟩
    · cases h
    · cases h3; subst h4
      exact ⟨a, v, rfl, h1, fin_old s k (h5.fzd f) d⟩
  · exact d.elim
/-- k in d, k not in d -/
def fDIn (n : Bool) : List T → (T → Prop) → Prop
  | [k, d], P => ∃ o, dval d k = some o ∧ P (.lf (.bl (n ^^ o.isSome)))
  | _, _ => False
theorem Ans.iss {S H : Hp} {o : Option T} {ov : Option V} (h : Ans K S H o ov) : ov.isSome = o.isSome := by
  rcases h with ⟨rfl, rfl⟩ | ⟨t, v, rfl, rfl, _⟩ <;> rfl
theorem os_din : OpS K (fDIn false) (r2 fun y x H Q => ∃ a o, x = .ref a ∧ DGet H a y o ∧ Q (.bl o.isSome) H) := by
  intro S H ts vs P Q s r d k
  unfold fDIn at d
  split at d
  · obtain ⟨x, _, rfl, rx, y, _, rfl, ry, rfl⟩ := r
    obtain ⟨o, e, d⟩ := d
    obtain ⟨a, ov, rfl, h1, h2⟩ := dval_ok s ry rx e
    exact ⟨a, ov, rfl, h1, by rw [h2.iss]; simp only [Bool.false_xor] at d; exact fin_lf s k d⟩
  · exact d.elim
theorem os_dnotin : OpS K (fDIn true) (r2 fun y x H Q => ∃ a o, x = .ref a ∧ DGet H a y o ∧ Q (.bl (!o.isSome)) H) := by
  intro S H ts vs P Q s r d k
  unfold fDIn at d
  split at d
  · obtain ⟨x, _, rfl, rx, y, _, rfl, ry, rfl⟩ := r
    obtain ⟨o, e, d⟩ := d
    obtain ⟨a, ov, rfl, h1, h2⟩ := dval_ok s ry rx e
    exact ⟨a, ov, rfl, h1, by rw [h2.iss]; simp only [Bool.true_xor] at d; exact fin_lf s k d⟩
  · exact d.elim
/-- d.get(k), d.get(k, x) -/
def fDGet1 : List T → (T → Prop) → Prop
  | [d, k], P => ∃ o, dval d k = some o ∧ (o.getD (.lf .non)).fzd = true ∧ P (o.getD (.lf .non))
  | _, _ => False
def fDGet2 : List T → (T → Prop) → Prop
  | [d, k, x], P => ∃ o, dval d k = some o ∧ (o.getD x).fzd = true ∧ P (o.getD x)
  | _, _ => False
def T.isDic : T → Bool
  | .nd _ (.dk _) _ => true
  | .nd _ (.dt _) _ => true
  | _ => false
theorem isD_ok {S H : Hp} {t : T} {v : V} (s : Same S H) (r : Rd1 K S H t v) (e : t.isDic = true) : ∃ a, v = .ref a ∧ IsD H a := by
  cases t with
  | lf x => cases e
  | nd o kd xs =>
    cases kd with
    | dk ks => obtain ⟨a, vs, rfl, ea, _⟩ := r.dk s; exact ⟨a, rfl, .inl ⟨_, ea⟩⟩
    | dt ks => obtain ⟨a, vs, rfl, ea, _⟩ := r.dt s; exact ⟨a, rfl, .inr ⟨_, ea⟩⟩
    | _ => cases e
/-- len(d), list(d) of plain keys -/
def fDLen : List T → (T → Prop) → Prop
  | [.nd true (.dk _) xs], P => P (.lf (.int (xs.length : Nat)))
  | _, _ => False
theorem os_dlen : OpS K fDLen (fun xs H Q => ∃ a kvs, xs = [V.ref a] ∧ H a = some (.dK kvs) ∧ Q (.int kvs.length) H) := by
  intro S H ts vs P Q s r d k
  unfold fDLen at d
  split at d
  · obtain ⟨x, _, rfl, ⟨_, rx⟩, rfl⟩ := r
    cases rx with
    | @own a u _ _ vs _ Df hD e hk hn hl h1 h2 h3 =>
      cases hk
      exact ⟨a, _, rfl, e, by rw [List.length_zip, hn.1, Nat.min_self, ← hl]; exact fin_lf s k d⟩
  · exact d.elim
def keyT : Key → T
  | .inl i => .lf (.int i)
  | .inr x => .lf (.str x)
def fDList : List T → (T → Prop) → Prop
  | [.nd _ (.dk ks) _], P => P (.nd true .lst (ks.map keyT))
  | _, _ => False
theorem keyT_R {S H : Hp} {k : Key} {D : AP} : R K S H (keyT k) (kV k) D := by cases k <;> exact .lf
theorem os_dlist : OpS K fDList (fun xs H Q => ∃ (a : Addr) (kvs : List (Key × V)), xs = [.ref a] ∧ L2.Rd H a (.dK kvs) ∧ ∀ p, H p = none → Q (.ref p) (upd H p (.lst (kvs.map fun kv => kV kv.1)))) := by
  intro S H ts vs P Q s r d k
  unfold fDList at d
  split at d
  · rename_i o ks xs
    obtain ⟨x, _, rfl, rx, rfl⟩ := r
    obtain ⟨a, vs, rfl, ea, hk, nd, ka⟩ := rx.dk s
    have e : (ks.zip vs).map (fun kv => kV kv.1) = ks.map kV := by
      rw [show (fun kv : Key × V => kV kv.1) = kV ∘ Prod.fst from rfl, ← List.map_map, List.map_fst_zip (by omega)]
    refine ⟨a, _, rfl, ea, fun p hp => ?_⟩
    rw [e]
    refine fin_new (kd := .lst) s k hp rfl trivial (by simp) (fun i t v e1 e2 => ?_) d
    rw [List.getElem?_map] at e1 e2
    cases q : ks[i]? with
    | none => rw [q] at e1; cases e1
    | some kk => rw [q] at e1 e2; cases e1; cases e2; exact keyT_R
  · exact d.elim
end
section
variable {X : Cx} {W : Wc} {io : List Nat} {pos apos cpos p : Pos} {e i f : Expr} {o1 o2 o3 : Od}
theorem t_dget (hu : X.A.units + 1 < cLine) (ha : TPO X W e o1) (hb : TPO X W i o2) (hs : NoSl i := by exact fun _ _ => rfl) : TPE X W (.Subscript e i pos) (dOp fDGet [o1, o2]) :=
  let ⟨_, a1, a2⟩ := ha; let ⟨_, b1, b2⟩ := hb; ⟨_, pe_dget hu a1 b1 hs, se_op (r := r2 fun x y H Q => ∃ a v, x = .ref a ∧ DGet H a y (some v) ∧ Q v H) (sl_cons a2 (sl_cons b2 sl_nil)) os_dget⟩
theorem t_din (hu : X.A.units + 1 < cLine) (ha : TPO X W i o1) (hb : TPO X W e o2) (hm : behindInMarks .In e = false := by rfl) : TPE X W (.Compare i [.In] [e] pos) (dOp (fDIn false) [o1, o2]) :=
  let ⟨_, a1, a2⟩ := ha; let ⟨_, b1, b2⟩ := hb; ⟨_, pe_cmp (pc_din hu a1 b1) hm, se_op (r := r2 fun y x H Q => ∃ a o, x = .ref a ∧ DGet H a y o ∧ Q (.bl o.isSome) H) (sl_cons a2 (sl_cons b2 sl_nil)) os_din⟩
theorem t_dnotin (hu : X.A.units + 1 < cLine) (ha : TPO X W i o1) (hb : TPO X W e o2) (hm : behindInMarks .NotIn e = false := by rfl) : TPE X W (.Compare i [.NotIn] [e] pos) (dOp (fDIn true) [o1, o2]) :=
  let ⟨_, a1, a2⟩ := ha; let ⟨_, b1, b2⟩ := hb; ⟨_, pe_cmp (pc_dnotin hu a1 b1) hm, se_op (r := r2 fun y x H Q => ∃ a o, x = .ref a ∧ DGet H a y o ∧ Q (.bl (!o.isSome)) H) (sl_cons a2 (sl_cons b2 sl_nil)) os_dnotin⟩
theorem b_din (hu : X.A.units + 1 < cLine) (ha : TPO X W i o1) (hb : TPO X W e o2) (hm : behindInMarks .In e = false := by rfl) : TPB X W (.Compare i [.In] [e] pos) (dT (dOp (fDIn false) [o1, o2])) :=
  let ⟨_, a1, a2⟩ := ha; let ⟨_, b1, b2⟩ := hb; ⟨_, pt_cmp (pc_din hu a1 b1) hm, (se_op (r := r2 fun y x H Q => ∃ a o, x = .ref a ∧ DGet H a y o ∧ Q (.bl o.isSome) H) (sl_cons a2 (sl_cons b2 sl_nil)) os_din).test⟩
theorem b_dnotin (hu : X.A.units + 1 < cLine) (ha : TPO X W i o1) (hb : TPO X W e o2) (hm : behindInMarks .NotIn e = false := by rfl) : TPB X W (.Compare i [.NotIn] [e] pos) (dT (dOp (fDIn true) [o1, o2])) :=
  let ⟨_, a1, a2⟩ := ha; let ⟨_, b1, b2⟩ := hb; ⟨_, pt_cmp (pc_dnotin hu a1 b1) hm, (se_op (r := r2 fun y x H Q => ∃ a o, x = .ref a ∧ DGet H a y o ∧ Q (.bl (!o.isSome)) H) (sl_cons a2 (sl_cons b2 sl_nil)) os_dnotin).test⟩
end
end Tr

set_option Elab.async false
set_option linter.all false
set_option maxRecDepth 100000
set_option maxHeartbeats 1000000
set_option autoImplicit false
namespace Tr
open PySem PySem.Spec PyProof.Rows L2 Cm
/-! ### weaker readings -/
section
variable {X : Cx}
theorem pe_weak {e : Expr} {t t' : TE} (h : PE X e t) (w : ∀ σ H Q, t' σ H Q → t σ H Q) : PE X e t' := ⟨fun pins s σ H Q I q => h.run pins s σ H Q I (w σ H Q q)⟩
theorem pe_lockP {e : Expr} {td : TE} (h : PE X e td) : PE X e (fun σ H Q => td σ H fun x H1 => ∃ d, x = .ref d ∧ ((∃ o u, H1 d = some (.frz o u) ∧ Q x H1) ∨ ∃ u, H1 d = some u ∧ Mut (some u) ∧ ∀ od, Q x (upd H1 d (.frz od u)))) := ⟨fun pins s σ H Q I q => by
  refine wpAny_mono (h.run pins s σ H _ I q) (fun v s' z => ?_) fun _ _ z => z
  obtain ⟨w, H', I', r, d, rfl, ⟨o, u, _, q⟩ | ⟨u, e, m, q⟩⟩ := z
  · exact ⟨_, H', I', r, q⟩
  · obtain ⟨od, I2⟩ := I'.lock e m
    exact ⟨_, _, I2, r, q od⟩⟩
end
/-! ### new dicts -/
def dNew0 (k : Kd) : DE := fun env P _ => P (.nd true k []) env
section
variable {X : Cx} {W : Wc} {io : List Nat} {pos apos cpos npos p : Pos} {i : Nat} {x : Str} {e f : Expr} {o1 o2 o3 : Od}
theorem Rzs.nil {K : PySem.W.Frag} {S H : Hp} {env : Env} {σ : L2.St} {D : AP} (r : Re K S H env σ D) : Rzs K S H env σ [] [] D := ⟨D, no, fun _ _ h => h, fun _ h => h, fun _ h => h.elim, r, Rs.nil⟩
theorem t_dnew : TPE X W (.Dict [] [] pos) (dNew0 (.dk [])) := ⟨_, pe_dnewK, fun S D H σ env Q P Ex o r d k x => fun p hp => by
  obtain ⟨D2, n2, r2⟩ := new_node (D1 := D) (D2 := D) (k := .dk []) (ts := []) (vs := []) (u := .dK []) o hp (Rzs.nil r) rfl ⟨rfl, List.nodup_nil⟩
  exact k _ _ _ _ _ _ n2 r2 d⟩
theorem t_dnewT : TPE X W (.Dict [] [] pos) (dNew0 (.dt [])) := ⟨_, pe_dnewT, fun S D H σ env Q P Ex o r d k x => fun p hp => by
  obtain ⟨D2, n2, r2⟩ := new_node (D1 := D) (D2 := D) (k := .dt []) (ts := []) (vs := []) (u := .dT []) o hp (Rzs.nil r) rfl ⟨rfl, List.nodup_nil⟩
  exact k _ _ _ _ _ _ n2 r2 d⟩
/-! ### d.get(k), d.get(k, x) -/
/-- the first operand is a dict already when the others are told -/
def dDic (f : List T → (T → Prop) → Prop) (o1 : Od) (os : List Od) : DE := fun env P Ex => dLs [o1] env (fun rs env1 => (∃ t, rdAll env1 rs = some [t] ∧ t.isDic = true) ∧ dLs os env1 (fun rs2 env2 => ∃ ts, rdAll env2 (rs ++ rs2) = some ts ∧ f ts fun t => P t env2) Ex) Ex
theorem Rdl.app {K : PySem.W.Frag} {S S' H H' : Hp} {σ : L2.St} {rs rs2 : List Rdr} {vs vs2 : List V} (a : Rdl K S H σ rs vs) (s : Sle S S') (b : Rdl K S' H' σ rs2 vs2) : Rdl K S' H' σ (rs ++ rs2) (vs ++ vs2) := by
  refine ⟨by simp [a.1, b.1], fun i v e => ?_⟩
  by_cases h : i < vs.length
  · rw [List.getElem?_append_left h] at e
    have hr : i < rs.length := by rw [a.1]; exact h
    refine ⟨fun t e2 => ?_, fun j e2 => ?_⟩
    · rw [List.getElem?_append_left hr] at e2
      exact ((a.2 i v e).1 t e2).mono s (fun _ _ h => h.elim) fun _ h => h
    · rw [List.getElem?_append_left hr] at e2
      exact (a.2 i v e).2 j e2
  · rw [List.getElem?_append_right (by omega)] at e
    refine ⟨fun t e2 => ?_, fun j e2 => ?_⟩
    · rw [List.getElem?_append_right (by rw [a.1]; omega), a.1] at e2
      exact (b.2 _ v e).1 t e2
    · rw [List.getElem?_append_right (by rw [a.1]; omega), a.1] at e2
      exact (b.2 _ v e).2 j e2
theorem se_dic {K : PySem.W.Frag} {te : TE} {ta : TA} {os : List Od} {f : List T → (T → Prop) → Prop} {r : List V → Hp → VK → Prop} (h : SO K W te o1) (hl : SL K W ta (dLs os)) (ho : OpS K f r) :
    SE K W (fun σ H Q => te σ H fun x H1 => ∃ a, x = .ref a ∧ IsD H1 a ∧ ta σ H1 fun vs H2 => r (.ref a :: vs) H2 Q) (dDic f o1 os) := fun S D H σ env Q P Ex o re d k x => by
  have main : ∀ S1 D1 H1 env1 rs v, Nxt W.g S D H S1 D1 H1 → Re K S1 H1 env1 σ D1 → Rdl K S1 H1 σ rs [v] → ((∃ t, rdAll env1 rs = some [t] ∧ t.isDic = true) ∧ dLs os env1 (fun rs2 env2 => ∃ ts, rdAll env2 (rs ++ rs2) = some ts ∧ f ts fun t => P t env2) Ex) → ∃ a, v = .ref a ∧ IsD H1 a ∧ ta σ H1 fun vs H2 => r (.ref a :: vs) H2 Q := by
    intro S1 D1 H1 env1 rs v n r1 rd ⟨⟨t, e, hd⟩, p⟩
    obtain ⟨y, _, hy, q, rfl⟩ := rdAll_ok r1 rd e
    cases hy
    obtain ⟨a, rfl, ha⟩ := isD_ok n.ok.sub q hd
    refine ⟨a, rfl, ha, hl S1 D1 H1 σ env1 _ _ Ex n.ok r1 p (fun S2 D2 H2 env2 rs2 ws n2 r2 rd2 ⟨ts, e2, p2⟩ => ?_) (x.go o n)⟩
    exact ho S2 H2 ts (V.ref a :: ws) _ Q n2.ok.sub (rdAll_ok r2 (Rdl.app rd n2.fs rd2) e2) p2 fun t v S3 H3 Dn f rt p3 => by
      obtain ⟨n3, dj⟩ := Nxt.frs n2.ok f
      exact k _ _ _ _ _ _ (Nxt.trans o (Nxt.trans o n n2) n3) (Rz.mk dj (r2.mono f.s1 (fun a ob _ e => f.s _ _ e) fun _ h => h) rt) p3
  cases o1 with
  | v de =>
    refine (show SE K W te de from h) S D H σ env _ _ Ex o re d (fun S1 D1 H1 env1 t v n rz p => ?_) x
    obtain ⟨S1', D1', n1, r1, q1⟩ := rz.frz n.ok
    refine main S1' D1' H1 env1 [.inl t.fz] v (Nxt.trans o n n1) r1 ⟨rfl, fun i v' e => ?_⟩ p
    rcases i with _ | i
    · cases e
      refine ⟨fun t' e => ?_, fun j e => by simp at e⟩
      have e : t.fz = t' := by simpa using e
      subst e
      exact q1
    · simp at e
  | pk i =>
    have e : te = tVar i := h
    subst e
    obtain ⟨⟨t, et⟩, d⟩ := d
    obtain ⟨v, ev, q⟩ := re.get et
    refine ⟨v, ev, main S D H env [.inr i] v (Nxt.refl o) re ⟨rfl, fun j v' e => ?_⟩ d⟩
    rcases j with _ | j
    · cases e
      exact ⟨fun t' e => by simp at e, fun j e => by cases e; exact ev⟩
    · simp at e
end
section
variable {K : PySem.W.Frag}
def rDGet1 : List V → Hp → VK → Prop
  | [.ref a, y], H, Q => ∃ o, DGet H a y o ∧ Q (o.getD .non) H
  | _, _, _ => False
def rDGet2 : List V → Hp → VK → Prop
  | [.ref a, y, z], H, Q => ∃ o, DGet H a y o ∧ Q (o.getD z) H
  | _, _, _ => False
theorem os_dget1 : OpS K fDGet1 rDGet1 := by
  intro S H ts vs P Q s r d k
  unfold fDGet1 at d
  split at d
  · obtain ⟨x, _, rfl, rx, y, _, rfl, ry, rfl⟩ := r
    obtain ⟨o, e, f, d⟩ := d
    obtain ⟨a, ov, rfl, h1, h2⟩ := dval_ok s rx ry e
    refine ⟨ov, h1, ?_⟩
    rcases h2 with ⟨rfl, rfl⟩ | ⟨t', v, rfl, rfl, ⟨_, h5⟩⟩
    · exact fin_lf s k d
    · exact fin_old s k (h5.fzd f) d
  · exact d.elim
theorem os_dget2 : OpS K fDGet2 rDGet2 := by
  intro S H ts vs P Q s r d k
  unfold fDGet2 at d
  split at d
  · obtain ⟨x, _, rfl, rx, y, _, rfl, ry, z, _, rfl, ⟨_, rz⟩, rfl⟩ := r
    obtain ⟨o, e, f, d⟩ := d
    obtain ⟨a, ov, rfl, h1, h2⟩ := dval_ok s rx ry e
    refine ⟨ov, h1, ?_⟩
    rcases h2 with ⟨rfl, rfl⟩ | ⟨t', v, rfl, rfl, ⟨_, h5⟩⟩
    · exact fin_old s k (rz.fzd f) d
    · exact fin_old s k (h5.fzd f) d
  · exact d.elim
end
section
variable {X : Cx} {W : Wc} {io : List Nat} {pos apos cpos npos p : Pos} {i : Nat} {x : Str} {e f g : Expr} {o1 o2 o3 : Od}
theorem t_dget1 (hu : X.A.units + 1 < cLine) (ha : TPO X W e o1) (hb : TPO X W f o2) (m : M1 X e "get" apos f cpos) : TPE X W (.Call (.Attribute e "get" apos) [f] [] cpos) (dDic fDGet1 o1 [o2]) := by
  obtain ⟨ta, a1, a2⟩ := ha
  obtain ⟨tb, b1, b2⟩ := hb
  exact ⟨_, pe_dget1 hu a1 b1 m, se_dic a2 (sl_cons b2 sl_nil) os_dget1⟩
theorem t_dget2 (hu : X.A.units + 1 < cLine) (ha : TPO X W e o1) (hb : TPO X W f o2) (hc : TPO X W g o3) (m : M2 X e "get" apos f g cpos) : TPE X W (.Call (.Attribute e "get" apos) [f, g] [] cpos) (dDic fDGet2 o1 [o2, o3]) := by
  obtain ⟨ta, a1, a2⟩ := ha
  obtain ⟨tb, b1, b2⟩ := hb
  obtain ⟨tc, c1, c2⟩ := hc
  exact ⟨_, pe_dget2 hu a1 b1 c1 m, se_dic a2 (sl_cons b2 (sl_cons c2 sl_nil)) os_dget2⟩
end
/-! ### dicts that change -/
section
variable {K : PySem.W.Frag}
theorem Rs.dp {κ : Type} [DecidableEq κ] {S H : Hp} {xs : List T} {vs : List V} {D1 D2 : AP} {ks : List κ} {k : κ} {t : T} {v : V} (dj : Dj D1 D2) (a : Rs K S H xs vs D1) (r : R K S H t v D2) : Rs K S H (Tr.dp ks xs k t).2 (Tr.dp ks vs k v).2 (fun x => D1 x ∨ D2 x) := by
  unfold Tr.dp
  cases ixOf ks k with
  | none => exact Rs.app dj a (Rs.cons (D1 := D2) (D2 := no) (fun _ _ h => h) (fun _ h => h) (fun _ h => h.elim) r Rs.nil)
  | some i => exact Rs.setAt dj a i r
/-- d[k] = v -/
def fDPut : FM := fun k xs ts P => match k, ts with
  | .dk ks, [t, kt] => ∃ kk, kt.key = some kk ∧ xs.length < sizeLine ∧ P (.lf .non) (.dk (Tr.dp ks xs kk t).1) (Tr.dp ks xs kk t).2
  | .dt ks, [t, .nd _ .tup kts] => ∃ kk, tkeys kts = some kk ∧ xs.length < sizeLine ∧ P (.lf .non) (.dt (Tr.dp ks xs kk t).1) (Tr.dp ks xs kk t).2
  | _, _ => False
def rDPutA : V → List V → Hp → VK → Prop := fun x ws H Q => match ws with
  | [v, y] => ∃ a H4, x = .ref a ∧ DPut H a y v H4 ∧ Q .non H4
  | _ => False
theorem ms_dput : MtS K fDPut rDPutA := by
  intro S H a u k xs vs ts ws Dk Da P Q ea hk hl rs ra dj s d c
  unfold fDPut at d
  split at d
  · rename_i ks t kt
    obtain ⟨kk, e, hs, d⟩ := d
    cases ws with
    | nil => exact absurd ra.shape (by simp)
    | cons w ws =>
      obtain ⟨A1, A2, dj2, x1, x2, q1, q2⟩ := ra.uncons
      cases ws with
      | nil => exact absurd q2.shape (by simp)
      | cons w2 ws =>
        have hw : ws = [] := by
          have := q2.shape
          simpa using this
        subst hw
        obtain ⟨_, _, _, _, _, q3, _⟩ := q2.uncons
        have hy := key_v ⟨_, q3⟩ e
        subst hy
        cases hk
        obtain ⟨z1, z2, z3⟩ := dp_len (ks := ks) (xs := xs) (vs := vs) (k := kk) (t := t) (v := w) (hl.1.trans rs.shape.symm) rs.shape
        refine ⟨a, _, rfl, .inl ⟨_, kk, ea, rfl, by rw [List.length_zip, hl.1, Nat.min_self, ← rs.shape]; exact hs, rfl⟩, ?_⟩
        rw [putK_zip kk w hl.1 hl.2]
        exact c _ (.dk (Tr.dp ks xs kk t).1) _ _ (Tr.dp ks vs kk w).2 _ (fun b => Dk b ∨ A1 b) no (by rw [z1]; rfl) ⟨by rw [z2, z3], dp_nd hl.2⟩ (Rs.dp (fun b h1 h2 => dj b h1 (x1 b h2)) rs q1) .lf (fun _ _ h => h) (fun b h => h.elim .inl fun z => .inr (x1 b z)) (fun _ h => h.elim) d
  · rename_i ks t o kts
    obtain ⟨kk, e, hs, d⟩ := d
    cases ws with
    | nil => exact absurd ra.shape (by simp)
    | cons w ws =>
      obtain ⟨A1, A2, dj2, x1, x2, q1, q2⟩ := ra.uncons
      cases ws with
      | nil => exact absurd q2.shape (by simp)
      | cons w2 ws =>
        have hw : ws = [] := by
          have := q2.shape
          simpa using this
        subst hw
        obtain ⟨_, _, _, _, _, q3, _⟩ := q2.uncons
        obtain ⟨b, zs, rfl, eb, kb⟩ := Rd1.tup s ⟨_, q3⟩
        have hz : zs = kk.map kV := keys_v kb.len kb.rd e
        subst hz
        cases hk
        obtain ⟨z1, z2, z3⟩ := dp_len (ks := ks) (xs := xs) (vs := vs) (k := kk) (t := t) (v := w) (hl.1.trans rs.shape.symm) rs.shape
        refine ⟨a, _, rfl, .inr ⟨_, kk, b, ea, rfl, eb, by rw [List.length_zip, hl.1, Nat.min_self, ← rs.shape]; exact hs, rfl⟩, ?_⟩
        rw [putK_zip kk w hl.1 hl.2]
        exact c _ (.dt (Tr.dp ks xs kk t).1) _ _ (Tr.dp ks vs kk w).2 _ (fun b => Dk b ∨ A1 b) no (by rw [z1]; rfl) ⟨by rw [z2, z3], dp_nd hl.2⟩ (Rs.dp (fun b h1 h2 => dj b h1 (x1 b h2)) rs q1) .lf (fun _ _ h => h) (fun b h => h.elim .inl fun z => .inr (x1 b z)) (fun _ h => h.elim) d
  · exact d.elim
/-! ### lists that change -/
def fExtend : FM := fun k xs ts P => match k, ts with
  | .lst, [.nd _ .lst ys] => xs.length + ys.length ≤ sizeLine ∧ P (.lf .non) .lst (xs ++ ys)
  | _, _ => False
theorem ms_extend : MtS K fExtend rExtend := by
  intro S H a u k xs vs ts ws Dk Da P Q ea hk hl rs ra dj s d c
  unfold fExtend at d
  split at d
  · rename_i o ys
    cases ws with
    | nil => exact absurd ra.shape (by simp)
    | cons w ws =>
      have hw : ws = [] := by
        have := ra.shape
        simpa using this
      subst hw
      obtain ⟨A1, A2, dj2, x1, x2, q1, q2⟩ := ra.uncons
      cases hk
      cases q1 with
      | @own b u2 _ _ zs _ Df hD e hk2 hn2 hl2 h1 h2 h3 =>
        cases hk2
        exact ⟨a, b, vs, zs, rfl, rfl, ea, e, by rw [← rs.shape, ← hl2]; exact d.1, c _ .lst _ _ (vs ++ zs) _ (fun x => Dk x ∨ A1 x) no rfl trivial (Rs.app (D2 := A1) (fun b h1 h2 => dj b h1 (x1 b h2)) rs ⟨hl2, Df, h1, fun i b h => (h2 i b h).1, h3⟩) .lf (fun _ _ h => h) (fun b h => h.elim .inl fun z => .inr (x1 b z)) (fun _ h => h.elim) d.2⟩
      | @fz b _ _ zs _ hk2 hn2 hl2 h3 =>
        exact ⟨a, b, vs, zs, rfl, rfl, ea, s _ _ hk2, by rw [← rs.shape, ← hl2]; exact d.1, c _ .lst _ _ (vs ++ zs) _ (fun x => Dk x ∨ no x) no rfl trivial (Rs.app (D2 := no) (fun b h1 h2 => h2) rs (Rs.frozen hl2 h3)) .lf (fun _ _ h => h) (fun b h => h.elim .inl fun z => z.elim) (fun _ h => h.elim) d.2⟩
  · exact d.elim
theorem Rs.splitAt {S H : Hp} {xs : List T} {vs : List V} {D : AP} (r : Rs K S H xs vs D) (j : Nat) {t : T} (e : xs[j]? = some t) : ∃ v D1 D2, Dj D1 D2 ∧ Sub D1 D ∧ Sub D2 D ∧ vs[j]? = some v ∧ R K S H t v D1 ∧ Rs K S H (xs.eraseIdx j) (vs.eraseIdx j) D2 := by
  induction xs generalizing vs D j with
  | nil => simp at e
  | cons x xs ih =>
    cases vs with
    | nil => exact absurd r.shape (by simp)
    | cons v vs =>
      obtain ⟨A1, A2, dj, s1, s2, q1, q2⟩ := r.uncons
      rcases j with _ | j
      · cases e
        exact ⟨v, A1, A2, dj, s1, s2, rfl, q1, by simpa using q2⟩
      · obtain ⟨w, B1, B2, dj2, t1, t2, ew, r1, r2⟩ := ih q2 j (by simpa using e)
        exact ⟨w, B1, fun a => A1 a ∨ B2 a, fun a h1 h2 => h2.elim (fun z => dj a z (t1 a h1)) fun z => dj2 a h1 z, fun a h => s2 a (t1 a h), fun a h => h.elim (s1 a) fun z => s2 a (t2 a z), by simpa using ew, r1, by simpa using Rs.cons (fun a h1 h2 => dj a h1 (t2 a h2)) (fun _ => .inl) (fun _ => .inr) q1 r2⟩
def fPopAt : FM := fun k xs ts P => match k, ts with
  | .lst, [.lf (.int i)] => ∃ j t, (-(2 ^ 63) ≤ i ∧ i < 2 ^ 63) ∧ seqIndex? i xs.length = some j ∧ xs[j]? = some t ∧ P t .lst (xs.eraseIdx j)
  | _, _ => False
theorem ms_popAt : MtS K fPopAt rPopAt := by
  intro S H a u k xs vs ts ws Dk Da P Q ea hk hl rs ra dj s d c
  unfold fPopAt at d
  split at d
  · rename_i i
    obtain ⟨j, t, ⟨b1, b2⟩, e, et, d⟩ := d
    have hw := rs_lf (us := [.int i]) ra
    subst hw
    cases hk
    obtain ⟨v, D1, D2, dj2, s1, s2, ev, q1, q2⟩ := rs.splitAt j et
    exact ⟨a, vs, i, j, v, rfl, rfl, ea, b1, b2, by rw [← rs.shape]; exact e, ev, c t .lst _ v (vs.eraseIdx j) _ D2 D1 rfl trivial q2 q1 (fun b h1 h2 => dj2 b h2 h1) (fun b h => .inl (s2 b h)) (fun b h => .inl (s1 b h)) d⟩
  · exact d.elim
def fPop : FM := fun k xs ts P => match k, ts with
  | .lst, [] => ∃ t, xs[xs.length - 1]? = some t ∧ P t .lst xs.dropLast
  | _, _ => False
theorem ms_pop : MtS K fPop rPop := by
  intro S H a u k xs vs ts ws Dk Da P Q ea hk hl rs ra dj s d c
  unfold fPop at d
  split at d
  · obtain ⟨t, et, d⟩ := d
    have hw : ws = [] := rs_lf (us := []) ra
    subst hw
    cases hk
    obtain ⟨v, D1, D2, dj2, s1, s2, ev, q1, q2⟩ := rs.splitAt _ et
    refine ⟨a, vs, v, rfl, rfl, ea, by rw [← rs.shape]; exact ev, c t .lst xs.dropLast v vs.dropLast _ D2 D1 rfl trivial ?_ q1 (fun b h1 h2 => dj2 b h2 h1) (fun b h => .inl (s2 b h)) (fun b h => .inl (s1 b h)) d⟩
    have e1 : xs.eraseIdx (xs.length - 1) = xs.dropLast := by rw [List.eraseIdx_length_sub_one]
    have e2 : vs.eraseIdx (xs.length - 1) = vs.dropLast := by rw [rs.shape, List.eraseIdx_length_sub_one]
    rw [← e1, ← e2]
    exact q2
  · exact d.elim
def fClear : FM := fun k xs ts P => match k, ts with
  | .lst, [] => P (.lf .non) .lst []
  | _, _ => False
theorem ms_clear : MtS K fClear rClear := by
  intro S H a u k xs vs ts ws Dk Da P Q ea hk hl rs ra dj s d c
  unfold fClear at d
  split at d
  · have hw : ws = [] := rs_lf (us := []) ra
    subst hw
    cases hk
    exact ⟨a, vs, rfl, rfl, ea, c _ .lst _ _ [] _ no no rfl trivial Rs.nil .lf (fun _ h => h.elim) (fun _ h => h.elim) (fun _ h => h.elim) d⟩
  · exact d.elim
def fReverse : FM := fun k xs ts P => match k, ts with
  | .lst, [] => P (.lf .non) .lst xs.reverse
  | _, _ => False
theorem Rs.rev {S H : Hp} {xs : List T} {vs : List V} {D : AP} (r : Rs K S H xs vs D) : Rs K S H xs.reverse vs.reverse D := by
  obtain ⟨hl, Df, h1, h2, h3⟩ := r
  refine ⟨by simp [hl], fun i a => i < xs.length ∧ Df (xs.length - 1 - i) a, fun i j b x y => ?_, fun i a x => h2 _ a x.2, fun i t v e1 e2 => ?_⟩
  · have := h1 _ _ b x.2 y.2
    have := x.1; have := y.1
    omega
  · have hi : i < xs.length := by
      have := (List.getElem?_eq_some_iff.mp e1).1
      simpa using this
    rw [List.getElem?_reverse hi] at e1
    rw [List.getElem?_reverse (by omega), ← hl] at e2
    exact (h3 _ t v e1 e2).up fun a h => ⟨hi, h⟩
theorem ms_reverse : MtS K fReverse rReverse := by
  intro S H a u k xs vs ts ws Dk Da P Q ea hk hl rs ra dj s d c
  unfold fReverse at d
  split at d
  · have hw : ws = [] := rs_lf (us := []) ra
    subst hw
    cases hk
    exact ⟨a, vs, rfl, rfl, ea, c _ .lst _ _ vs.reverse _ Dk no rfl trivial rs.rev .lf (fun _ _ h => h) (fun _ h => .inl h) (fun _ h => h.elim) d⟩
  · exact d.elim
theorem Rs.takeN {S H : Hp} {xs : List T} {vs : List V} {D : AP} (r : Rs K S H xs vs D) (n : Nat) : ∃ D1 D2, Dj D1 D2 ∧ Sub D1 D ∧ Sub D2 D ∧ Rs K S H (xs.take n) (vs.take n) D1 ∧ Rs K S H (xs.drop n) (vs.drop n) D2 := by
  induction n generalizing xs vs D with
  | zero => exact ⟨no, D, fun _ h => h.elim, fun _ h => h.elim, fun _ h => h, Rs.nil, r⟩
  | succ n ih =>
    cases xs with
    | nil =>
      cases vs with
      | nil => exact ⟨no, D, fun _ h => h.elim, fun _ h => h.elim, fun _ h => h, Rs.nil, Rs.nil⟩
      | cons v vs => exact absurd r.shape (by simp)
    | cons x xs =>
      cases vs with
      | nil => exact absurd r.shape (by simp)
      | cons v vs =>
        obtain ⟨A1, A2, dj, s1, s2, q1, q2⟩ := r.uncons
        obtain ⟨B1, B2, dj2, t1, t2, r1, r2⟩ := ih q2
        exact ⟨fun a => A1 a ∨ B1 a, B2, fun a h1 h2 => h1.elim (fun z => dj a z (t2 a h2)) fun z => dj2 a z h2, fun a h => h.elim (s1 a) fun z => s2 a (t1 a z), fun a h => s2 a (t2 a h), Rs.cons (fun a h1 h2 => dj a h1 (t1 a h2)) (fun _ => .inl) (fun _ => .inr) q1 r1, r2⟩
def fInsert : FM := fun k xs ts P => match k, ts with
  | .lst, [.lf (.int i), t] => xs.length < sizeLine ∧ (0 ≤ i ∧ i < 2 ^ 63) ∧ P (.lf .non) .lst (xs.take i.toNat ++ [t] ++ xs.drop i.toNat)
  | _, _ => False
def rInsertA : V → List V → Hp → VK → Prop := fun x vs H Q => ∃ (l : Addr) (xs : List V) (i : Int) (y : V), x = .ref l ∧ vs = [.int i, y] ∧ H l = some (.lst xs) ∧ xs.length < sizeLine ∧ 0 ≤ i ∧ i < 2 ^ 63 ∧ Q .non (upd H l (.lst (xs.take i.toNat ++ [y] ++ xs.drop i.toNat)))
theorem ms_insert : MtS K fInsert rInsertA := by
  intro S H a u k xs vs ts ws Dk Da P Q ea hk hl rs ra dj s d c
  unfold fInsert at d
  split at d
  · rename_i i t
    obtain ⟨hs, ⟨b1, b2⟩, d⟩ := d
    cases ws with
    | nil => exact absurd ra.shape (by simp)
    | cons w ws =>
      obtain ⟨A1, A2, dj2, x1, x2, q1, q2⟩ := ra.uncons
      cases ws with
      | nil => exact absurd q2.shape (by simp)
      | cons w2 ws =>
        have hw : ws = [] := by
          have := q2.shape
          simpa using this
        subst hw
        obtain ⟨C1, C2, _, y1, y2, q3, _⟩ := q2.uncons
        cases q1
        cases hk
        obtain ⟨B1, B2, dj3, t1, t2, r1, r2⟩ := rs.takeN i.toNat
        have dd : Dj Dk C1 := fun b h1 h2 => dj b h1 (x2 b (y1 b h2))
        refine ⟨a, vs, i, w2, rfl, rfl, ea, by rw [← rs.shape]; exact hs, b1, b2, c _ .lst _ _ (vs.take i.toNat ++ [w2] ++ vs.drop i.toNat) _ (fun x => (B1 x ∨ C1 x) ∨ B2 x) no rfl trivial (Rs.app (fun b h1 h2 => h1.elim (fun z => dj3 b z h2) fun z => dd b (t2 b h2) z) (Rs.app (fun b h1 h2 => dd b (t1 b h1) h2) r1 (Rs.cons (D1 := C1) (D2 := no) (fun _ _ h => h) (fun _ h => h) (fun _ h => h.elim) q3 Rs.nil)) r2) .lf (fun _ _ h => h) (fun b h => ?_) (fun _ h => h.elim) d⟩
        rcases h with (h | h) | h
        · exact .inl (t1 b h)
        · exact .inr (x2 b (y1 b h))
        · exact .inl (t2 b h)
  · exact d.elim
/-! ### what is taken out of a dict -/
theorem dropK_zip {κ : Type} [DecidableEq κ] : ∀ {ks : List κ} {vs : List V} {k : κ} {i : Nat}, ks.length = vs.length → ks.Nodup → ixOf ks k = some i → dropK (ks.zip vs) k = (ks.eraseIdx i).zip (vs.eraseIdx i)
  | [], vs, k, i, hl, nd, e => by cases e
  | x :: ks, [], k, i, hl, nd, e => by simp at hl
  | x :: ks, v :: vs, k, i, hl, nd, e => by
    have e' := e
    unfold ixOf at e
    split at e
    · rename_i h
      cases e
      subst h
      show dropK ((x, v) :: ks.zip vs) x = _
      rw [dropK_pos rfl, dropK_no ?_]
      · rfl
      · rw [List.map_fst_zip (by simpa using Nat.le_of_eq (by simpa using hl))]
        exact (List.nodup_cons.mp nd).1
    · rename_i h
      cases q : ixOf ks k with
      | none => rw [q] at e; cases e
      | some j =>
        rw [q] at e
        cases e
        show dropK ((x, v) :: ks.zip vs) k = _
        rw [dropK_neg (fun z => h z), dropK_zip (by simpa using hl) (List.nodup_cons.mp nd).2 q]
        rfl
def fDPop : FM := fun k xs ts P => match k, ts with
  | .dk ks, [kt] => ∃ kk i t, kt.key = some kk ∧ ixOf ks kk = some i ∧ xs[i]? = some t ∧ P t (.dk (ks.eraseIdx i)) (xs.eraseIdx i)
  | _, _ => False
def rDPopA : V → List V → Hp → VK → Prop
  | .ref a, [y], H, Q => ∃ kvs k v, H a = some (.dK kvs) ∧ y = kV k ∧ valV kvs k = some v ∧ Q v (upd H a (.dK (dropK kvs k)))
  | _, _, _, _ => False
theorem ms_dpop : MtS K fDPop rDPopA := by
  intro S H a u k xs vs ts ws Dk Da P Q ea hk hl rs ra dj s d c
  unfold fDPop at d
  split at d
  · rename_i ks kt
    obtain ⟨kk, i, t, e, ei, et, d⟩ := d
    cases ws with
    | nil => exact absurd ra.shape (by simp)
    | cons w ws =>
      have hw : ws = [] := by
        have := ra.shape
        simpa using this
      subst hw
      obtain ⟨_, _, _, _, _, q3, _⟩ := ra.uncons
      have hy := key_v ⟨_, q3⟩ e
      subst hy
      cases hk
      obtain ⟨v, D1, D2, dj2, s1, s2, ev, q1, q2⟩ := rs.splitAt i et
      refine ⟨_, kk, v, ea, rfl, by rw [valV_zip kk hl.1]; unfold dg; rw [ei]; exact ev, ?_⟩
      rw [dropK_zip hl.1 hl.2 ei]
      exact c t (.dk (ks.eraseIdx i)) _ v (vs.eraseIdx i) _ D2 D1 rfl ⟨by rw [List.length_eraseIdx, List.length_eraseIdx, hl.1], hl.2.eraseIdx i⟩ q2 q1 (fun b h1 h2 => dj2 b h2 h1) (fun b h => .inl (s2 b h)) (fun b h => .inl (s1 b h)) d
  · exact d.elim
def fDClear : FM := fun k xs ts P => match k, ts with
  | .dk _, [] => P (.lf .non) (.dk []) []
  | _, _ => False
theorem ms_dclear : MtS K fDClear rDClear := by
  intro S H a u k xs vs ts ws Dk Da P Q ea hk hl rs ra dj s d c
  unfold fDClear at d
  split at d
  · have hw : ws = [] := rs_lf (us := []) ra
    subst hw
    cases hk
    exact ⟨a, _, rfl, rfl, ea, c _ (.dk []) _ _ [] _ no no rfl ⟨rfl, List.nodup_nil⟩ Rs.nil .lf (fun _ h => h.elim) (fun _ h => h.elim) (fun _ h => h.elim) d⟩
  · exact d.elim
end
end Tr

set_option Elab.async false
set_option linter.all false
set_option maxRecDepth 100000
set_option maxHeartbeats 1000000
set_option autoImplicit false
namespace Tr
open PySem PySem.Spec PyProof.Rows L2 Cm
/-! ### methods -/
theorem se_mut0 {K : PySem.W.Frag} {W : Wc} {i : Nat} {n : String} {f : FM} {r : V → List V → Hp → VK → Prop} (hn : n ≠ "") (hm : MtS K f r) : SE K W (tBM0 K n r (tVar i)) (dMutA i n f dNil) := se_mutA hn sa_nil hm
theorem se_mutD {K : PySem.W.Frag} {W : Wc} {i : Nat} {f : FM} {r : V → List V → Hp → VK → Prop} {ta : TA} {da : DA} {ms : List (Option Nat)} (ha : SA K W ms ta da) (hm : MtS K f r) : SE K W (fun σ H Q => tVar i σ H fun x H1 => ∃ a, x = .ref a ∧ IsD H1 a ∧ ta σ H1 fun ws H2 => r (.ref a) ws H2 Q) (dMutA i "dict" f da) := fun S D H σ env Q P Ex o re d k x => by
  obtain ⟨⟨k0, xs0, e0, hk0⟩, d⟩ := d
  obtain ⟨v, ev, rv⟩ := re.get e0
  have hd : (T.nd true k0 xs0).isDic = true := by
    cases k0 <;> simp [kindOf] at hk0 <;> rfl
  obtain ⟨a0, rfl, hi⟩ := isD_ok o.sub ⟨_, rv⟩ hd
  refine ⟨_, ev, a0, rfl, hi, ha S D H σ env _ _ Ex o re d (fun S1 D1 H1 env1 ts ws n1 rzs _ p => ?_) x⟩
  obtain ⟨k1, xs1, e1, p⟩ := p
  obtain ⟨F1, F2, dj, o1, m1, re1, rw1⟩ := rzs.split n1.ok
  obtain ⟨v', E1, E2, dj2, x1, x2, ev', q, re2⟩ := re1.take e1
  rw [ev] at ev'
  cases ev'
  obtain ⟨a, u, vs, Dk, ha', hE, ea, hk, hl, rs, sk, nk⟩ := q.open
  cases ha'
  refine hm S1 H1 a0 u k1 xs1 vs ts ws Dk F2 _ Q ea hk hl rs rw1 (fun b h1 h2 => dj b (x1 b (sk b h1)) h2) o1.sub p fun t k' xs' v' vs' u' Dk' Dr hk' hl' rs' rt dj' s1 s2 p2 => ?_
  obtain ⟨n2, rz⟩ := mut_fin o1 dj x1 x2 dj2 ev re2 hE sk nk hk' hl' rs' rt dj' s1 s2
  exact k _ _ _ _ _ _ (Nxt.trans o (Nxt.trans o n1 m1) n2) rz p2
/-- del d[e] -/
def dDelA (i : Nat) (f : FM) (de : DE) : DS := fun DT env => (∃ t0, env[i]? = some (some t0)) ∧ de env (fun te env1 => ∃ k xs, env1[i]? = some (some (.nd true k xs)) ∧ f k xs [te.fz] fun _ k' xs' => DT.nx (env1.set i (some (.nd true k' xs')))) DT.ex
theorem ss_delA {K : PySem.W.Frag} {W : Wc} {io : List Nat} {i : Nat} {f : FM} {r : V → List V → Hp → VK → Prop} {te : TE} {de : DE} (he : SE K W te de) (hm : MtS K f r) : SS K W io (fun D σ H => tVar i σ H fun x H1 => te σ H1 fun y H2 => r x [y] H2 fun _ H3 => D.nx σ H3) (dDelA i f de) := fun S D H σ0 σ env DT DD o re iov d l => by
  obtain ⟨⟨t0, e0⟩, d⟩ := d
  obtain ⟨x, ex, _⟩ := re.get e0
  refine ⟨x, ex, he S D H σ env _ _ _ o re d (fun S2 D2 H2 env2 ty y n2 rz2 p2 => ?_) (l.kx iov)⟩
  obtain ⟨k1, xs1, e1, p2⟩ := p2
  obtain ⟨S3, D3, n3, re3, ry⟩ := rz2.frz n2.ok
  obtain ⟨v', E1, E2, dj2, x1, x2, ev', q, re2⟩ := re3.take e1
  rw [ex] at ev'
  cases ev'
  obtain ⟨a, u, vs, Dk, rfl, hE, ea, hk, hl, rs, sk, nk⟩ := q.open
  have rw3 : Rs K S3 H2 [ty.fz] [y] no := Rs.cons (D1 := no) (D2 := no) (fun _ h => h.elim) (fun _ h => h.elim) (fun _ h => h.elim) ry Rs.nil
  have o3 : Ok W.g S3 (fun b => D3 b ∨ no b) H2 := n3.ok.sm fun b h => h.elim id fun z => z.elim
  refine hm S3 H2 a u k1 xs1 vs _ _ Dk no _ _ ea hk hl rs rw3 (fun b h1 h2 => h2) n3.ok.sub p2 fun t' k' xs' v' vs' u' Dk' Dr hk' hl' rs' rt dj' s1 s2 p3 => ?_
  obtain ⟨n5, rz5⟩ := mut_fin (D2 := no) o3 (fun _ _ h => h) x1 x2 dj2 ex re2 hE sk nk hk' hl' rs' rt dj' s1 s2
  obtain ⟨G1, G2, _, y1, y2, re5, _⟩ := rz5
  exact l.nx _ _ _ _ _ (Nxt.trans o (Nxt.trans o (Nxt.trans o n2 n3) (Nxt.shrink n3.ok fun b (h : D3 b ∨ no b) => h.elim id fun z => z.elim)) n5) (re5.mono (.refl _) (fun _ _ _ e => e) y1) iov p3
def fDDel : FM := fun k xs ts P => match k, ts with
  | .dk ks, [kt] => ∃ kk i, kt.key = some kk ∧ ixOf ks kk = some i ∧ P (.lf .non) (.dk (ks.eraseIdx i)) (xs.eraseIdx i)
  | _, _ => False
def rDDelA : V → List V → Hp → VK → Prop := fun x ws H Q => match ws with
  | [y] => ∃ a kvs k, x = .ref a ∧ H a = some (.dK kvs) ∧ y = kV k ∧ (valV kvs k).isSome = true ∧ Q .non (upd H a (.dK (dropK kvs k)))
  | _ => False
theorem ms_ddel {K : PySem.W.Frag} : MtS K fDDel rDDelA := by
  intro S H a u k xs vs ts ws Dk Da P Q ea hk hl rs ra dj s d c
  unfold fDDel at d
  split at d
  · rename_i ks kt
    obtain ⟨kk, i, e, ei, d⟩ := d
    cases ws with
    | nil => exact absurd ra.shape (by simp)
    | cons w ws =>
      have hw : ws = [] := by
        have := ra.shape
        simpa using this
      subst hw
      obtain ⟨_, _, _, _, _, q3, _⟩ := ra.uncons
      have hy := key_v ⟨_, q3⟩ e
      subst hy
      cases hk
      obtain ⟨t, et⟩ : ∃ t, xs[i]? = some t := ⟨_, List.getElem?_eq_getElem (by rw [rs.shape, ← hl.1]; exact (ixOf_some ei).2)⟩
      obtain ⟨v, D1, D2, dj2, s1, s2, ev, q1, q2⟩ := rs.splitAt i et
      refine ⟨a, _, kk, rfl, ea, rfl, by rw [valV_zip kk hl.1]; unfold dg; rw [ei]; show (vs[i]?).isSome = true; rw [ev]; rfl, ?_⟩
      rw [dropK_zip hl.1 hl.2 ei]
      exact c (.lf .non) (.dk (ks.eraseIdx i)) _ .non (vs.eraseIdx i) _ D2 no rfl ⟨by rw [List.length_eraseIdx, List.length_eraseIdx, hl.1], hl.2.eraseIdx i⟩ q2 .lf (fun _ _ h => h) (fun b h => .inl (s2 b h)) (fun _ h => h.elim) d
  · exact d.elim
section
variable {X : Cx} {W : Wc} {io : List Nat} {pos apos cpos npos p : Pos} {i : Nat} {x m : Str} {n : String} {e f : Expr} {es : List Expr} {de : DE} {da : DA} {ms : List (Option Nat)} {fm : FM} {r : V → List V → Hp → VK → Prop}
/-- x.m(e, ..), x a slot; the rule is told -/
theorem t_mut (hn : n ≠ "") (hm : MtS X.K fm r) (ha : TPA X W ms (e :: es) da) (hpe : ∀ {t : TA}, PA X (e :: es) t → PE X (.Call (.Attribute (.Name x npos) m apos) (e :: es) [] cpos) (tBM X.K n r (tVar i) t)) : TPE X W (.Call (.Attribute (.Name x npos) m apos) (e :: es) [] cpos) (dMutA i n fm da) := by
  obtain ⟨ta, a1, a2⟩ := ha
  exact ⟨_, hpe a1, se_mutA hn a2 hm⟩
theorem t_mut0 (hn : n ≠ "") (hm : MtS X.K fm r) (hpe : PE X (.Call (.Attribute (.Name x npos) m apos) [] [] cpos) (tBM0 X.K n r (tVar i))) : TPE X W (.Call (.Attribute (.Name x npos) m apos) [] [] cpos) (dMutA i n fm dNil) := ⟨_, hpe, se_mut0 hn hm⟩
theorem t_dpop (hN : X.N[i]? = some x) (hv : Vis X.env.scope x) (hd : (x == ("__debug__" : Str)) = false) (hcd : (x == ("__classdict__" : Str)) = false) (he : TPE X W e de) (m1 : M1 X (.Name x npos) "pop" apos e cpos) : TPE X W (.Call (.Attribute (.Name x npos) "pop" apos) [e] [] cpos) (dMutA i "dict" fDPop (dCons de dNil)) := by
  obtain ⟨te, e1, e2⟩ := he
  exact ⟨_, pe_dpop1 (pe_var hN hv hd hcd) e1 m1, se_mutD (sa_cons none e2 sa_nil (fun _ h => by cases h) (fun _ h => by cases h)) ms_dpop⟩
theorem s_ddel {tp sp : Pos} (hN : X.N[i]? = some x) (hv : Vis X.env.scope x) (he : TPE X W e de) (hd : (x == ("__debug__" : Str)) = false := by decide) (hcd : (x == ("__classdict__" : Str)) = false := by decide) : TPS X W io (.Delete [.Subscript (.Name x npos) e tp] sp) (dDelA i fDDel de) := by
  obtain ⟨te, e1, e2⟩ := he
  exact ⟨_, ps_ddel (pe_var hN hv hd hcd) e1, ss_delA e2 ms_ddel⟩
theorem ps_weak {st : Stmt} {t t' : TS} (h : PS X st t) (w : ∀ D σ H, t' D σ H → t D σ H) : PS X st t' := ⟨fun pins s σ H D I q => h.run pins s σ H D I (w D σ H q)⟩
/-- x[e] = v on a dict -/
theorem s_dput {ev ei : Expr} {dv : DE} {tp sp : Pos} (hu : X.A.units + 1 < cLine) (hN : X.N[i]? = some x) (hv : Vis X.env.scope x) (h1 : TPE X W ev dv) (h2 : TPE X W ei de) (hs : swapsWith ev (some (.Subscript (.Name x npos) ei tp)) sp.line X.env = pure false := by rfl) (hd : (x == ("__debug__" : Str)) = false := by decide) (hcd : (x == ("__classdict__" : Str)) = false := by decide) : TPS X W io (.Assign [.Subscript (.Name x npos) ei tp] ev sp) (dPutA i fDPut dv de) := by
  obtain ⟨tv, a1, a2⟩ := h1
  obtain ⟨te, b1, b2⟩ := h2
  exact ⟨_, ps_dput hu (pe_var hN hv hd hcd) b1 a1 hs, ss_putA a2 b2 ms_dput⟩
end
/-! ### walks -/
def enumF : Int → List T → List T
  | _, [] => []
  | k, x :: xs => .nd true .tup [.lf (.int k), x] :: enumF (k + 1) xs
def zipF : List T → List T → List T
  | x :: xs, y :: ys => .nd true .tup [x, y] :: zipF xs ys
  | _, _ => []
theorem enumF_at : ∀ {xs : List T} {k : Int} {i : Nat} {t : T}, (enumF k xs)[i]? = some t → ∃ x, xs[i]? = some x ∧ t = .nd true .tup [.lf (.int (k + i)), x]
  | [], k, i, t, h => by simp [enumF] at h
  | x :: xs, k, i, t, h => by
    rcases i with _ | i
    · simp [enumF] at h; subst h; exact ⟨x, rfl, by simp⟩
    · simp only [enumF, List.getElem?_cons_succ] at h
      obtain ⟨y, h1, h2⟩ := enumF_at h
      exact ⟨y, by simpa using h1, by rw [h2, show k + 1 + (i : Int) = k + ((i + 1 : Nat) : Int) from by omega]⟩
theorem enumF_len : ∀ {xs : List T} {k : Int}, (enumF k xs).length = xs.length
  | [], _ => rfl
  | x :: xs, k => by simp [enumF, enumF_len]
theorem zipF_at : ∀ {xs ys : List T} {i : Nat} {t : T}, (zipF xs ys)[i]? = some t → ∃ x y, xs[i]? = some x ∧ ys[i]? = some y ∧ t = .nd true .tup [x, y]
  | [], _, i, t, h => by simp [zipF] at h
  | _ :: _, [], i, t, h => by simp [zipF] at h
  | x :: xs, y :: ys, i, t, h => by
    rcases i with _ | i
    · simp [zipF] at h; exact ⟨x, y, rfl, rfl, h.symm⟩
    · simp only [zipF, List.getElem?_cons_succ] at h
      obtain ⟨x', y', h1, h2, h3⟩ := zipF_at h
      exact ⟨x', y', by simpa using h1, by simpa using h2, h3⟩
theorem zipF_len : ∀ {xs ys : List T}, (zipF xs ys).length = min xs.length ys.length
  | [], _ => by simp [zipF]
  | _ :: _, [] => by simp [zipF]
  | x :: xs, y :: ys => by simp [zipF, zipF_len]
/-- a pair that a walk makes -/
theorem pair_R {K : PySem.W.Frag} {S H : Hp} {q : Addr} {t1 t2 : T} {x y : V} (hq : H q = none) (r1 : R K S H t1 x no) (r2 : R K S H t2 y no) : (∀ a, a = q → H a = none ∧ upd H q (.tup [x, y]) a ≠ none) ∧ Same H (upd H q (.tup [x, y])) ∧ R K S (upd H q (.tup [x, y])) (.nd true .tup [t1, t2]) (.ref q) (fun a => a = q) := by
  have sm : Same H (upd H q (.tup [x, y])) := Same.new hq
  refine ⟨fun a e => by subst e; exact ⟨hq, by rw [upd_same]; simp⟩, sm, .own (fun _ => no) rfl upd_same rfl trivial rfl (fun _ _ _ h => h.elim) (fun _ _ h => h.elim) fun i t v e1 e2 => ?_⟩
  rcases i with _ | _ | i
  · cases e1; cases e2; exact r1.mono (.refl _) (fun _ _ h => h.elim) fun _ h => h
  · cases e1; cases e2; exact r2.mono (.refl _) (fun _ _ h => h.elim) fun _ h => h
  · simp at e1
theorem wk_enum {K : PySem.W.Frag} {S : Hp} {a : Addr} {vs : List V} {ts : List T} (h : SqL K S a vs) (hl : ts.length = vs.length) (r : ∀ (i : Nat) (t : T) (v : V), ts[i]? = some t → vs[i]? = some v → R K S S t v no) : Wk K S (Ite K a) (enumF 0 ts) := by
  refine ⟨_, _, by rw [enumF_len, hl]; exact walk_enum (xs := vs), fun S' H s1 s => s.seq (seq_le s1 h), fun i H x H' t e y => ?_⟩
  obtain ⟨t0, e0, rfl⟩ := enumF_at e
  obtain ⟨q, x1, y1, rfl, hq, rfl, f1, f2⟩ := y
  cases f1
  refine ⟨fun a => a = q, fun b hb => by subst hb; exact ⟨hq, by rw [upd_same]; simp⟩, Same.new hq, fun S' s1 s2 => ?_⟩
  have := (pair_R (K := K) (S := S') (H := H) (t1 := .lf (.int (i : Nat))) (x := .int (i : Nat)) hq .lf ((r i t0 y1 e0 f2).mono (H' := H) s1 (fun _ _ h => h.elim) fun _ h => h)).2.2
  rwa [show (0 : Int) + (i : Nat) = ((i : Nat) : Int) from by omega]
theorem wk_zip {K : PySem.W.Frag} {S : Hp} {a b : Addr} {vs ws : List V} {ts us : List T} (h : SqL K S a vs) (h' : SqL K S b ws) (hl : ts.length = vs.length) (hl' : us.length = ws.length) (r : ∀ (i : Nat) (t : T) (v : V), ts[i]? = some t → vs[i]? = some v → R K S S t v no) (r' : ∀ (i : Nat) (t : T) (v : V), us[i]? = some t → ws[i]? = some v → R K S S t v no) : Wk K S (Itz K a b) (zipF ts us) := by
  refine ⟨fun H => SqL K H a vs ∧ SqL K H b ws, _, by rw [zipF_len]; exact walk_zip (xs := vs) (ys := ws) (by rw [hl, hl']), fun S' H s1 s => ⟨s.seq (seq_le s1 h), s.seq (seq_le s1 h')⟩, fun i H x H' t e y => ?_⟩
  obtain ⟨t0, t1, e0, e1, rfl⟩ := zipF_at e
  obtain ⟨q, x1, y1, rfl, hq, rfl, f1, f2⟩ := y
  refine ⟨fun a => a = q, fun b hb => by subst hb; exact ⟨hq, by rw [upd_same]; simp⟩, Same.new hq, fun S' s1 s2 => ?_⟩
  exact (pair_R (K := K) (S := S') (H := H) hq ((r i t0 x1 e0 f1).mono (H' := H) s1 (fun _ _ h => h.elim) fun _ h => h) ((r' i t1 y1 e1 f2).mono (H' := H) s1 (fun _ _ h => h.elim) fun _ h => h)).2.2
theorem wk_str {K : PySem.W.Frag} {S : Hp} {z : Str} : Wk K S (Its z) (z.cps.toList.map strAt) := by
  refine ⟨_, _, by rw [List.length_map, Array.length_toList]; exact walk_str, fun _ _ _ _ => trivial, fun i H x H' t e y => ?_⟩
  obtain ⟨rfl, c, hc, rfl⟩ := y
  refine ⟨no, fun _ h => h.elim, Same.refl _, fun S' s1 s2 => ?_⟩
  rw [List.getElem?_map, Array.getElem?_toList, hc] at e
  cases e
  exact .lf
theorem wk_keys {K : PySem.W.Frag} {S : Hp} {d : Addr} {od : Obj} {ks : List Key} {vs : List V} (hl : ks.length = vs.length) (e : S d = some (.frz od (.dK (ks.zip vs)))) : Wk K S (Itk d od (ks.zip vs)) (ks.map keyT) := by
  refine ⟨_, _, by rw [List.length_map, show ks.length = (ks.zip vs).length from by rw [List.length_zip, hl, Nat.min_self]]; exact walk_keys, fun S' H s1 s => s _ _ (s1.at e fun z => z), fun i H x H' t e y => ?_⟩
  obtain ⟨rfl, k, v, hk, rfl⟩ := y
  refine ⟨no, fun _ h => h.elim, Same.refl _, fun S' s1 s2 => ?_⟩
  rw [List.getElem?_map] at e
  rw [List.getElem?_zip_eq_some] at hk
  rw [hk.1] at e
  cases e
  exact keyT_R
theorem Nxt.lock {G : Gm} {S H : Hp} {D : AP} {d : Addr} {u : HO} {od : Obj} (o : Ok G S D H) (e : S d = some u) (h : isD u) : Nxt G S D H (upd S d (.frz od u)) D (upd H d (.frz od u)) := by
  have sl : Sle S (upd S d (.frz od u)) := fun a ob ea => by
    by_cases z : a = d
    · subst z
      rw [e] at ea
      cases ea
      exact .inr ⟨h, od, upd_same⟩
    · exact .inl (by rw [upd_ne z]; exact ea)
  refine ⟨⟨G.mono _ _ sl o.g, fun a ob ea => ?_, fun a ha => ?_⟩, sl, fun _ h => .inl h, fun a ob ea hd hs => ?_, fun a ha => ?_⟩
  · by_cases z : a = d
    · subst z; rw [upd_same] at ea ⊢; exact ea
    · rw [upd_ne z] at ea ⊢; exact o.sub _ _ ea
  · have z : a ≠ d := fun z => by subst z; rw [(o.dis a ha).1] at e; cases e
    rw [upd_ne z, upd_ne z]
    exact o.dis a ha
  · rw [upd_ne fun z => by subst z; rw [hs] at e; cases e]
    exact ea
  · by_cases z : a = d
    · subst z; exact .inl (by rw [e]; simp)
    · rw [upd_ne z] at ha; exact .inl ha
/-- the members of a list (frozen) -/
def lstOf : T → Option (List T)
  | .nd _ .lst xs => some xs
  | .nd _ .seq xs => some xs
  | _ => none
theorem lst_fz {K : PySem.W.Frag} {S H : Hp} {t : T} {v : V} {xs : List T} (h : lstOf t = some xs) (r : R K S H t v no) : ∃ a vs, v = .ref a ∧ SqL K S a vs ∧ xs.length = vs.length ∧ ∀ (i : Nat) (t : T) (v : V), xs[i]? = some t → vs[i]? = some v → R K S S t v no := by
  cases r with
  | lf => cases h
  | own _ hD => exact hD.elim
  | @fz a kd ys vs _ hk hn hl h3 =>
    cases kd with
    | lst => cases h; exact ⟨a, vs, rfl, .of hk, hl, fun i t v e1 e2 => (h3 i t v e1 e2).mono (.refl _) (fun _ _ h => h.elim) fun _ h => h⟩
    | seq => cases h; exact ⟨a, vs, rfl, hk, hl, fun i t v e1 e2 => (h3 i t v e1 e2).mono (.refl _) (fun _ _ h => h.elim) fun _ h => h⟩
    | _ => cases h
theorem Rzs.frz {K : PySem.W.Frag} {G : Gm} {S H : Hp} {D : AP} {σ : L2.St} {env : Env} {ts : List T} {vs : List V} (o : Ok G S D H) (r : Rzs K S H env σ ts vs D) : ∃ S' D', Nxt G S D H S' D' H ∧ Re K S' H env σ D' ∧ ts.length = vs.length ∧ ∀ (i : Nat) (t : T) (v : V), ts[i]? = some t → vs[i]? = some v → R K S' H t.fz v no := by
  obtain ⟨D1, D2, dj, o1, n1, re, rv⟩ := r.split o
  obtain ⟨S2, n2, kids⟩ := rv.frz o1 (fun _ => .inl) (fun _ => .inr) dj
  exact ⟨S2, D1, Nxt.trans o n1 n2, re.mono n2.fs (fun _ _ _ e => e) fun _ h => h, rv.shape, fun i t v e1 e2 => kids i t.fz v (by rw [List.getElem?_map, e1]; rfl) e2⟩
section
variable {X : Cx} {W : Wc} {io : List Nat} {pos tpos apos cpos npos p : Pos} {tg e e2 : Expr} {elts : List Expr} {kk : Nat} {de : DE} {da : DA} {ms : List (Option Nat)}
def dEnum (da : DA) : DI := fun env P Ex => da env (fun ts env' => ∃ t xs, ts = [t] ∧ lstOf t.fz = some xs ∧ P (enumF 0 xs) env') Ex
theorem i_enum (hg : Gl X "enumerate") (hm : X.mg "enumerate" = none) (ha : TPA X W ms [e] da) (hs : starEach [e] X.env = [(false, eval e X.env)] := by rfl) : TPI X W (.Tuple elts kk tpos) (.Call (.Name "enumerate" p) [e] [] pos) (dEnum da) := by
  obtain ⟨ta, a1, a2⟩ := ha
  refine ⟨_, pi_enum hg hm a1 hs, fun S D H σ env Q P Ex o r d k x => a2 S D H σ env _ _ Ex o r d (fun S' D' H' env' ts vs n rzs _ ⟨t, xs, e1, e2, p⟩ => ?_) x⟩
  subst e1
  obtain ⟨S2, D2, n2, r2, hl, kids⟩ := rzs.frz n.ok
  cases vs with
  | nil => simp at hl
  | cons v vs =>
    have hv : vs = [] := by simpa using hl
    subst hv
    obtain ⟨a, ws, rfl, hq, hl2, kd⟩ := lst_fz e2 (kids 0 t v rfl rfl)
    exact ⟨a, ws, rfl, n2.ok.sub.seq hq, k _ _ _ _ _ _ (Nxt.trans o n n2) r2 (wk_enum hq hl2 kd) p⟩
def dZip (da : DA) : DI := fun env P Ex => da env (fun ts env' => ∃ t u xs ys, ts = [t, u] ∧ lstOf t.fz = some xs ∧ lstOf u.fz = some ys ∧ P (zipF xs ys) env') Ex
theorem i_zip (hg : Gl X "zip") (hm : X.mg "zip" = none) (ha : TPA X W ms [e, e2] da) (hs : starEach [e, e2] X.env = (false, eval e X.env) :: starEach [e2] X.env := by rfl) (hpl : ((backTo pos (starEach [e2] X.env)).any fun x => x.1) = false := by rfl) : TPI X W (.Tuple elts kk tpos) (.Call (.Name "zip" p) [e, e2] [] pos) (dZip da) := by
  obtain ⟨ta, a1, a2⟩ := ha
  refine ⟨_, pi_zip hg hm a1 hs hpl, fun S D H σ env Q P Ex o r d k x => a2 S D H σ env _ _ Ex o r d (fun S' D' H' env' ts vs n rzs _ ⟨t, u, xs, ys, e1, e2, e3, p⟩ => ?_) x⟩
  subst e1
  obtain ⟨S2, D2, n2, r2, hl, kids⟩ := rzs.frz n.ok
  rcases vs with _ | ⟨v, _ | ⟨w, _ | ⟨z, vs⟩⟩⟩ <;> simp at hl
  obtain ⟨a, ws, rfl, hq, hl2, kd⟩ := lst_fz e2 (kids 0 t v rfl rfl)
  obtain ⟨b, ws', rfl, hq', hl2', kd'⟩ := lst_fz e3 (kids 1 u w rfl rfl)
  exact ⟨a, b, ws, ws', rfl, n2.ok.sub.seq hq, n2.ok.sub.seq hq', k _ _ _ _ _ _ (Nxt.trans o n n2) r2 (wk_zip hq hq' hl2 hl2' kd kd') p⟩
def dChars (de : DE) : DI := fun env P Ex => de env (fun t env' => ∃ z, t = .lf (.str z) ∧ P (z.cps.toList.map strAt) env') Ex
theorem i_str (h : TPE X W e de) : TPI X W tg e (dChars de) := by
  obtain ⟨te, a1, a2⟩ := h
  refine ⟨_, pi_str a1, fun S D H σ env Q P Ex o r d k x => a2 S D H σ env _ _ Ex o r d (fun S' D' H' env' t v n rz ⟨z, e1, p⟩ => ?_) x⟩
  subst e1
  obtain ⟨D1, D2, dj, s1, s2, re, rv⟩ := rz
  cases rv
  exact ⟨z, rfl, k _ _ _ _ _ _ n (re.mono (.refl _) (fun _ _ _ e => e) s1) wk_str p⟩
/-- the keys of a dict, that is frozen -/
def dKeys (de : DE) : DI := fun env P Ex => de env (fun t env' => ∃ ks xs, t.fz = .nd false (.dk ks) xs ∧ P (ks.map keyT) env') Ex
theorem i_keys (h : TPE X W e de) : TPI X W tg e (dKeys de) := by
  obtain ⟨te, a1, a2⟩ := h
  refine ⟨_, pi_keys (pe_lockP a1), fun S D H σ env Q P Ex o r d k x => a2 S D H σ env _ _ Ex o r d (fun S' D' H' env' t v n rz ⟨ks, xs, e1, p⟩ => ?_) x⟩
  obtain ⟨S2, D2, n2, r2, q2⟩ := rz.frz n.ok
  rw [e1] at q2
  cases q2 with
  | @fz a _ _ vs _ hk hn hl h3 =>
    refine ⟨a, rfl, ?_⟩
    rcases hk with hk | ⟨od, hk⟩
    · refine .inr ⟨_, n2.ok.sub _ _ hk, trivial, fun od => ⟨a, od, rfl, .inl ⟨_, upd_same, ?_⟩⟩⟩
      have n3 := Nxt.lock (od := od) n2.ok hk trivial
      exact k _ _ _ _ _ _ (Nxt.trans o (Nxt.trans o n n2) n3) (r2.mono n3.fs (fun b ob hb e => by rw [upd_ne fun z => by subst z; rw [(n2.ok.dis _ hb).1] at hk; cases hk]; exact e) fun _ h => h) (wk_keys hn.1 upd_same) p
    · exact .inl ⟨od, _, n2.ok.sub _ _ hk, a, od, rfl, .inl ⟨_, n2.ok.sub _ _ hk, k _ _ _ _ _ _ (Nxt.trans o n n2) r2 (wk_keys hn.1 hk) p⟩⟩
end
end Tr

set_option Elab.async false
set_option linter.all false
set_option maxRecDepth 100000
set_option maxHeartbeats 1000000
set_option autoImplicit false
namespace Tr
open PySem PySem.Spec PyProof.Rows L2 Cm
/-! ### while -/
def dWhile (dc : DB) (db : DS) : DS := fun DT env => ∃ I : Nat → Env → Prop, (∃ m, I m env) ∧ ∀ m env, I m env → dc env (fun b env1 => if b = true then db { DT with nx := fun env2 => ∃ m', m' < m ∧ I m' env2, ct := fun env2 => ∃ m', m' < m ∧ I m' env2, bk := DT.nx } env1 else DT.nx env1) DT.ex
section
variable {X : Cx} {W : Wc} {io : List Nat} {pos : Pos}
theorem s_while {c : Expr} {body : List Stmt} {dc : DB} {db : DS} (hp : PassesOwn (model X.prog X.w) X.A X.env X.xe) (hc : TPB X W c dc) (hb : TPSs X W io body db) : TPS X W io (.While c body [] pos) (dWhile dc db) := by
  obtain ⟨tc, c1, c2⟩ := hc
  obtain ⟨tb, b1, b2⟩ := hb
  refine ⟨_, ps_while hp c1 b1, fun S D H σ0 σ env DT DD o r i ⟨I, ⟨m0, h0⟩, hI⟩ l => ?_⟩
  refine ⟨fun m σ' H' => ∃ S' D' env', Nxt W.g S D H S' D' H' ∧ Re X.K S' H' env' σ' D' ∧ IO io σ0 σ' ∧ I m env', ⟨m0, S, D, env, Nxt.refl o, r, i, h0⟩, ?_⟩
  rintro m σ' H' ⟨S', D', env', n', re', i', p'⟩
  refine c2 S' D' H' σ' env' _ _ DT.ex n'.ok re' (hI m env' p') (fun S1 D1 H1 env1 b n1 re1 p1 => ?_) ((l.go o n').kx i')
  have n01 := Nxt.trans o n' n1
  cases b with
  | false => exact l.nx _ _ _ _ _ n01 re1 i' p1
  | true =>
    refine ⟨fun σ2 H2 => ∃ m', m' < m ∧ ∃ S' D' env', Nxt W.g S D H S' D' H2 ∧ Re X.K S' H2 env' σ2 D' ∧ IO io σ0 σ2 ∧ I m' env', fun _ _ h => h, ?_⟩
    refine b2 S1 D1 H1 σ0 σ' env1 _ _ n01.ok re1 i' p1 ⟨fun S4 D4 H4 env4 σ4 n4 re4 i4 ⟨m', hm, p4⟩ => ⟨m', hm, S4, D4, env4, Nxt.trans o n01 n4, re4, i4, p4⟩, fun S4 D4 H4 env4 σ4 n4 re4 i4 p4 => l.nx _ _ _ _ _ (Nxt.trans o n01 n4) re4 i4 p4, fun S4 D4 H4 env4 σ4 n4 re4 i4 ⟨m', hm, p4⟩ => ⟨m', hm, S4, D4, env4, Nxt.trans o n01 n4, re4, i4, p4⟩, ?_, ?_⟩
    · exact fun S4 D4 H4 env4 σ4 t4 v4 n4 => l.rt _ _ _ _ _ _ _ (Nxt.trans o n01 n4)
    · exact fun S4 D4 H4 env4 σ4 e4 c4 d4 n4 => l.ex _ _ _ _ _ _ _ _ (Nxt.trans o n01 n4)
end
/-! ### break, continue -/
def dBrk : DS := fun DT env => DT.bk env
def dCnt : DS := fun DT env => DT.ct env
section
variable {X : Cx} {W : Wc} {io : List Nat} {pos : Pos}
theorem s_brk : TPS X W io (.Break pos) dBrk := ⟨_, ps_break, fun S D H σ0 σ env DT DD o r i d l => l.bk _ _ _ _ _ (Nxt.refl o) r i d⟩
theorem s_cnt : TPS X W io (.Continue pos) dCnt := ⟨_, ps_continue, fun S D H σ0 σ env DT DD o r i d l => l.ct _ _ _ _ _ (Nxt.refl o) r i d⟩
end
/-! ### comprehensions that make dicts -/
theorem dc_it {J : It} {n : Nat} {G : Hp → Prop} {Y : Nat → Hp → V → Hp → Prop} (w : Walk J n G Y) {g : TG} {tt : TT} {tk tv : TE} {vs : List Nat} {σ : L2.St} {H1 : Hp} {D : Addr} {Qd : Hp → Prop} (Pv : Nat → Hp → Prop) (h0 : Pv 0 (upd H1 D (.dK []))) (hG : ∀ i H, i ≤ n → Pv i H → G H)
    (hs : ∀ i x H H', i < n → Pv i H → Y i H x H' → g x (wipe σ vs) H' fun σ2 H2 => wipe σ2 vs = wipe σ vs ∧ tt σ2 H2 fun b H3 => if b = true then tk σ2 H3 fun y H4 => tv σ2 H4 fun z H5 => ∃ kvs k, y = kV k ∧ H5 D = some (.dK kvs) ∧ kvs.length < sizeLine ∧ Pv (i + 1) (upd H5 D (.dK (putK kvs k z))) else Pv (i + 1) H3)
    (he : ∀ H, Pv n H → Qd H) : ∃ W : Nat → Nat → Hp → Prop, (∃ m, W 0 m (upd H1 D (.dK []))) ∧ ∀ i m H, W i m H → (J.stop i H ∧ Qd H) ∨ (J.go i H ∧ ∃ Nx : Hp → Prop, (∀ H', Nx H' → ∃ m', m' < m ∧ W (i + 1) m' H') ∧ ∀ x H', J.yld i H x H' → g x (wipe σ vs) H' fun σ2 H2 => wipe σ2 vs = wipe σ vs ∧ tt σ2 H2 fun b H3 => if b = true then tk σ2 H3 fun y H4 => tv σ2 H4 fun z H5 => ∃ kvs k, y = kV k ∧ H5 D = some (.dK kvs) ∧ kvs.length < sizeLine ∧ Nx (upd H5 D (.dK (putK kvs k z))) else Nx H3) := by
  refine ⟨fun i m H => i + m = n ∧ Pv i H, ⟨n, by omega, h0⟩, fun i m H ⟨e, p⟩ => ?_⟩
  rcases m with _ | m
  · have : i = n := by omega
    subst this
    exact .inl ⟨w.stops H (hG _ H (Nat.le_refl _) p), he H p⟩
  · exact .inr ⟨w.goes i H (by omega) (hG i H (by omega) p), fun H' => Pv (i + 1) H', fun H' q => ⟨m, by omega, by omega, q⟩, fun x H' y => hs i x H H' (by omega) p (w.yields i H x H' (by omega) (hG i H (by omega) p) y)⟩
def dCd (own : List Nat) (dg : DG) (dc : DB) (dk dv : DE) (P : PT1) : List T → List Key → List T → Env → Prop
  | [], ks, acc, env => P (.nd true (.dk ks) acc) env
  | x :: xs, ks, acc, env => dg x env fun env2 => dc env2 (fun b env3 => if b = true then dk env3 (fun kt env4 => ∃ kk, kt.key = some kk ∧ dv env4 (fun t env5 => acc.length < sizeLine ∧ dCd own dg dc dk dv P xs (Tr.dp ks acc kk t).1 (Tr.dp ks acc kk t).2 (wipeE env5 own)) xno) xno else dCd own dg dc dk dv P xs ks acc (wipeE env3 own)) xno
def dDComp (own : List Nat) (di : DI) (dg : DG) (dc : DB) (dk dv : DE) : DE := fun env P Ex => di env (fun items env1 => dCd own dg dc dk dv P items [] [] (wipeE env1 own)) Ex
theorem se_dc {K : PySem.W.Frag} {W : Wc} {wi : TI} {g : TG} {tt : TT} {tk te : TE} {di : DI} {dg : DG} {dc : DB} {dk de : DE} {own sl : List Nat} (i2 : SI K W wi di) (g2 : SG K sl g dg) (t2 : SB K (Wno W.g) tt dc) (k2 : SE K (Wno W.g) tk dk) (e2 : SE K (Wno W.g) te de) (d : ∀ i ∈ sl, i ∈ own) :
    SE K W (tDc wi g tt tk te own) (dDComp own di dg dc dk de) := fun S D H σ env Q P Ex o r dd k x => i2 S D H σ env _ _ _ o r dd (fun S1 D1 H1 env1 items J n re wk p => fun L hL => by
  obtain ⟨G, Y, w, hG, hY⟩ := wk
  refine dc_it w (fun j H' => ∃ S' D' E' env' ks acc vs, Nxt W.g S1 D1 H1 S' D' H' ∧ (∀ a, D' a → a ≠ L) ∧ (∀ a, S' a ≠ none → a ≠ L) ∧ Dj E' D' ∧ Ok W.g S' (fun a => D' a ∨ (E' a ∨ a = L)) H' ∧ (∀ a, E' a → H1 a = none ∨ D1 a) ∧ (∀ a, E' a → a ≠ L) ∧ Re K S' H' env' (wipe σ own) D' ∧ (H' L = some (.dK (ks.zip vs)) ∧ ks.length = vs.length ∧ ks.Nodup) ∧ Rs K S' H' acc vs E' ∧ dCd own dg dc dk de P (items.drop j) ks acc env') ?_ ?_ ?_ ?_
  · have o1 := n.ok
    obtain ⟨n2, _⟩ := Nxt.fresh (Dn := no) o1 (Same.new (o := .dK []) hL) fun _ h => h.elim
    have nL : ∀ a, D1 a → a ≠ L := fun a h z => by subst z; exact (o1.dis _ h).2 hL
    have nS : ∀ a, S1 a ≠ none → a ≠ L := fun a h z => by
      subst z
      cases e : S1 a with
      | none => exact h e
      | some u => rw [o1.sub _ _ e] at hL; cases hL
    refine ⟨S1, D1, no, wipeE env1 own, [], [], [], Nxt.trans o1 n2 (Nxt.shrink n2.ok fun _ => .inl), nL, nS, fun _ h _ => h, ⟨n2.ok.g, n2.ok.sub, fun a h => ?_⟩, fun _ h => h.elim, fun _ h => h.elim, (re.wipe own).mono (.refl _) (fun a u _ e => old e hL) fun _ h => h, ⟨upd_same, rfl, List.nodup_nil⟩, Rs.nil, by simpa using p⟩
    rcases h with h | h | h
    · exact n2.ok.dis a (.inl h)
    · exact h.elim
    · subst h
      refine ⟨?_, by rw [upd_same]; simp⟩
      cases e : S1 a with
      | none => rfl
      | some u => exact absurd rfl (nS a (by rw [e]; simp))
  · rintro j H' hj ⟨S', D', E', env', ks, acc, vs, n', _⟩
    exact hG S' H' n'.fs n'.ok.sub
  · rintro j v H' H2 hj ⟨S', D', E', env', ks, acc, vs, n', nL, nS, dj, ok', hE, eL, re', ⟨hHL, hks, hnd⟩, rs, p'⟩ y
    obtain ⟨t, et⟩ : ∃ t, items[j]? = some t := ⟨_, List.getElem?_eq_getElem hj⟩
    obtain ⟨Dn, hn, s2, hr⟩ := hY j H' v H2 t et y
    have rx := hr S' n'.fs n'.ok.sub
    have e : items.drop j = t :: items.drop (j + 1) := by
      rw [List.getElem?_eq_some_iff] at et
      obtain ⟨h1, h2⟩ := et
      rw [← h2]
      exact List.drop_eq_getElem_cons h1
    rw [e] at p'
    let F : AP := fun a => E' a ∨ a = L
    have okF : Ok W.g S' (fun a => D' a ∨ F a) H' := ok'
    have djF : Dj D' F := fun a h z => z.elim (fun y => dj a y h) fun y => nL a h y
    obtain ⟨n2, dj2⟩ := Nxt.fresh n'.ok s2 hn
    have fin : ∀ {S4 : Hp} {D4 : AP} {H4 : Hp} {env4 : Env}, Nxt W.g S' D' H' S4 D4 H4 → Re K S4 H4 env4 (wipe σ own) D4 → dCd own dg dc dk de P (items.drop (j + 1)) ks acc env4 → ∃ S' D' E' env' ks acc vs, Nxt W.g S1 D1 H1 S' D' H4 ∧ (∀ a, D' a → a ≠ L) ∧ (∀ a, S' a ≠ none → a ≠ L) ∧ Dj E' D' ∧ Ok W.g S' (fun a => D' a ∨ (E' a ∨ a = L)) H4 ∧ (∀ a, E' a → H1 a = none ∨ D1 a) ∧ (∀ a, E' a → a ≠ L) ∧ Re K S' H4 env' (wipe σ own) D' ∧ (H4 L = some (.dK (ks.zip vs)) ∧ ks.length = vs.length ∧ ks.Nodup) ∧ Rs K S' H4 acc vs E' ∧ dCd own dg dc dk de P (items.drop (j + 1)) ks acc env' := by
      intro S4 D4 H4 env4 n4 re4 p4
      obtain ⟨fr, djf, kk⟩ := Nxt.frame okF djF n4
      refine ⟨S4, D4, E', env4, ks, acc, vs, Nxt.trans n.ok n' n4, fun a h z => djf a h (.inr z), fun a h z => ?_, fun a h1 h2 => djf a h2 (.inl h1), fr.ok, hE, eL, re4, ⟨kk L _ (.inr rfl) hHL, hks, hnd⟩, rs.mono fr.fs (fun a ob h e => kk a ob (.inl h) e) fun _ h => h, p4⟩
      exact h (fr.ok.dis a (.inr (.inr z))).1
    refine g2 _ S' _ H2 _ env' t v _ _ n2.ok (Rz.mk dj2 (re'.mono (.refl _) (fun a ob _ e => s2 _ _ e) fun _ h => h) rx) p' fun S3 D3 env3 σ3 n3 re3 hl p3 => ?_
    have hw : wipe σ3 own = wipe σ own := (wipe_eq hl.1 fun i hi => hl.2 i fun z => hi (d i z)).trans wipe_wipe
    refine ⟨hw, ?_⟩
    have n03 := Nxt.trans n'.ok n2 n3
    refine t2 S3 D3 H2 σ3 env3 _ _ xno n3.ok re3 p3 (fun S4 D4 H4 env4 b n4 re4 p4 => ?_) kx_no
    have n04 := Nxt.trans n'.ok n03 n4
    cases b with
    | false =>
      rw [if_neg (by simp)] at p4 ⊢
      have re5 := re4.wipe own
      rw [hw] at re5
      exact fin n04 re5 p4
    | true =>
      rw [if_pos rfl] at p4 ⊢
      refine k2 S4 D4 H4 σ3 env4 _ _ xno n4.ok re4 p4 (fun Sk Dk Hk envk kt ky nk rzk ⟨kk0, hkk, pk⟩ => ?_) kx_no
      have hky : ky = kV kk0 := by
        obtain ⟨_, _, _, _, _, _, rvk⟩ := rzk
        exact key_v ⟨_, rvk⟩ hkk
      have rek : Re K Sk Hk envk σ3 Dk := by
        obtain ⟨B1, B2, _, b1, _, reb, _⟩ := rzk
        exact reb.mono (.refl _) (fun _ _ _ e => e) b1
      refine e2 Sk Dk Hk σ3 envk _ _ xno nk.ok rek pk (fun S5 D5 H5 env5 t5 v5 n5' rz5 ⟨hs5, p5⟩ => ?_) kx_no
      have n5 := Nxt.trans n4.ok nk n5'
      obtain ⟨A1, A2, dja, oa, na, rea, rva⟩ := rz5.split n5.ok
      have n06 := Nxt.trans n'.ok (Nxt.trans n'.ok n04 n5) na
      obtain ⟨fr, djf, kk⟩ := Nxt.frame okF djF n06
      have hL5 : H5 L = some (.dK (ks.zip vs)) := kk L _ (.inr rfl) hHL
      have rs5 : Rs K S5 H5 acc vs E' := rs.mono fr.fs (fun a ob h e => kk a ob (.inl h) e) fun _ h => h
      have neL : ∀ a, (A1 a ∨ A2 a) → a ≠ L := fun a h z => djf a h (.inr z)
      have nSL : ∀ a, S5 a ≠ none → a ≠ L := fun a h z => h (fr.ok.dis a (.inr (.inr z))).1
      obtain ⟨z1, z2, z3⟩ := dp_len (ks := ks) (xs := acc) (vs := vs) (k := kk0) (t := t5) (v := v5) (hks.trans rs5.shape.symm) rs5.shape
      have up : ∀ (u : HO) a (ob : HO), a ≠ L → H5 a = some ob → upd H5 L u a = some ob := fun u a ob ne e => by rw [upd_ne ne]; exact e
      refine ⟨_, kk0, hky, hL5, by rw [List.length_zip, hks, Nat.min_self, ← rs5.shape]; exact hs5, S5, A1, fun a => E' a ∨ A2 a, wipeE env5 own, (Tr.dp ks acc kk0 t5).1, (Tr.dp ks acc kk0 t5).2, (Tr.dp ks vs kk0 v5).2, ?_, fun a h => neL a (.inl h), nSL, fun a h1 h2 => ?_, ⟨fr.ok.g, fun a ob e => up _ a ob (nSL a (by rw [e]; simp)) (fr.ok.sub _ _ e), fun a h => ?_⟩, fun a h => ?_, fun a h => h.elim (eL a) fun z => neL a (.inr z), ?_, ⟨by rw [upd_same, putK_zip kk0 v5 hks hnd, z1], by rw [z2, z3], dp_nd hnd⟩, ?_, p5⟩
      · have n16 := Nxt.trans n.ok (Nxt.trans n.ok n' n06) (Nxt.shrink oa fun _ => .inl)
        refine ⟨⟨n16.ok.g, fun a ob e => up _ a ob (nSL a (by rw [e]; simp)) (fr.ok.sub _ _ e), fun a h => ⟨(n16.ok.dis a h).1, ?_⟩⟩, n16.fs, n16.dom, fun a ob e hd hz => up _ a ob (fun z => by rw [z, hL] at e; cases e) (n16.kp a ob e hd hz), n16.new⟩
        cases e : H5 a with
        | none => exact absurd e (n16.ok.dis a h).2
        | some ob => rw [up _ a ob (neL a (.inl h)) e]; simp
      · rcases h1 with h1 | h1
        · exact djf a (.inl h2) (.inl h1)
        · exact dja a h2 h1
      · by_cases z : a = L
        · subst z
          exact ⟨(fr.ok.dis a (.inr (.inr rfl))).1, by rw [upd_same]; simp⟩
        · have : (A1 a ∨ A2 a) ∨ F a := by
            rcases h with h | (h | h) | h
            · exact .inl (.inl h)
            · exact .inr (.inl h)
            · exact .inl (.inr h)
            · exact absurd h z
          obtain ⟨q1, q2⟩ := fr.ok.dis a this
          exact ⟨q1, by rw [upd_ne z]; exact q2⟩
      · rcases h with h | h
        · exact hE a h
        · rcases (Nxt.trans n.ok n' n06).dom a (.inr h) with z | z
          · exact .inr z
          · exact .inl z
      · have q := rea.wipe own
        rw [hw] at q
        exact q.mono (.refl _) (fun a ob h e => up _ a ob (neL a (.inl h)) e) fun _ h => h
      · exact (Rs.dp (fun a h1 h2 => djf a (.inr h2) (.inl h1)) rs5 rva).mono (.refl _) (fun a ob h e => up _ a ob (h.elim (eL a) fun z => neL a (.inr z)) e) fun _ h => h
  · rintro H' ⟨S', D', E', env', ks, acc, vs, n', nL, nS, dj, ok', hE, eL, re', ⟨hHL, hks, hnd⟩, rs, p'⟩
    rw [List.drop_length] at p'
    have nn : Nxt W.g S1 D1 H1 S' (fun a => D' a ∨ (E' a ∨ a = L)) H' := ⟨ok', n'.fs, fun a h => ?_, n'.kp, n'.new⟩
    · refine k _ _ _ _ _ _ (Nxt.trans o n nn) ⟨D', fun a => E' a ∨ a = L, fun a h1 h2 => h2.elim (fun z => dj a z h1) fun z => nL a h1 z, fun _ => .inl, fun _ => .inr, re'.unwipe, R.node (k := .dk ks) (.inr rfl) hHL rfl ⟨hks, hnd⟩ (rs.mono (.refl _) (fun _ _ _ e => e) fun a h => ⟨.inl h, eL a h⟩)⟩ p'
    · rcases h with h | h | h
      · exact n'.dom a h
      · exact (hE a h).elim .inr .inl
      · subst h; exact .inr hL) x
section
variable {X : Cx} {W : Wc} {io : List Nat} {pos : Pos} {tg : Expr}
theorem t_dc {kx vx iter : Expr} {ifs : List Expr} {scope : Scope} {own : List (Str × Nat)} {di : DI} {dg : DG} {dc : DB} {dk de : DE} {sl : List Nat} (hc : X.calm = true) (hN : X.N.Nodup) (hi : TPI X W tg iter di) (ok : BlkOk X.N X.env.scope scope own)
    (hg : ∀ (z : Shared × Hp × Addr × List (Str × Addr) × List Addr), TPG (X.blk z.1 z.2.1 scope (compEnvC scope z.2.2.2.1 z.2.2.1 X.env) z.2.2.2.2) sl tg dg) (ht : ∀ (z : Shared × Hp × Addr × List (Str × Addr) × List Addr), TPTs (X.blk z.1 z.2.1 scope (compEnvC scope z.2.2.2.1 z.2.2.1 X.env) z.2.2.2.2) (Wno W.g) ifs dc)
    (hk : ∀ (z : Shared × Hp × Addr × List (Str × Addr) × List Addr), TPE (X.blk z.1 z.2.1 scope (compEnvC scope z.2.2.2.1 z.2.2.1 X.env) z.2.2.2.2) (Wno W.g) kx dk)
    (he : ∀ (z : Shared × Hp × Addr × List (Str × Addr) × List Addr), TPE (X.blk z.1 z.2.1 scope (compEnvC scope z.2.2.2.1 z.2.2.1 X.env) z.2.2.2.2) (Wno W.g) vx de) (d : ∀ i ∈ sl, i ∈ own.map (·.2)) (hs : ∀ x, foldedSetIterable iter X.env x = pure x := by intro _; rfl) :
    TPE X W (.DictComp kx vx [⟨tg, iter, ifs, 0⟩] scope pos) (dDComp (own.map (·.2)) di dg dc dk de) := by
  obtain ⟨wi, i1, i2⟩ := hi
  obtain ⟨g, g1, g2⟩ := uni_g (K := X.K) hg
  obtain ⟨tt, t1, t2⟩ := uni_t (K := X.K) ht
  obtain ⟨tk, k1, k2⟩ := uni_e (K := X.K) hk
  obtain ⟨te, e1, e2⟩ := uni_e (K := X.K) he
  exact ⟨_, pe_dc hc hN i1 ok (fun s H C cl fp => g1 (s, H, C, cl, fp)) (fun s H C cl fp => t1 (s, H, C, cl, fp)) (fun s H C cl fp => k1 (s, H, C, cl, fp)) (fun s H C cl fp => e1 (s, H, C, cl, fp)) hs, se_dc i2 g2 t2 k2 e2 d⟩
end
end Tr

set_option Elab.async false
set_option linter.all false
set_option maxRecDepth 100000
set_option maxHeartbeats 1000000
set_option autoImplicit false
namespace Tr
open PySem PySem.Spec PyProof.Rows L2 Cm
def hbB (io bs : List Nat) (ms : List (Option Nat)) : Bool := (List.range io.length).all fun j => match io[j]?, bs[j]? with
  | some i, some s => ms[i]? == some (some s)
  | _, _ => false
theorem hb_of {io bs : List Nat} {ms : List (Option Nat)} (h : hbB io bs ms = true) : ∀ (j i : Nat), io[j]? = some i → ∃ s, bs[j]? = some s ∧ ms[i]? = some (some s) := fun j i e => by
  unfold hbB at h
  rw [List.all_eq_true] at h
  have := h j (List.mem_range.mpr (List.getElem?_eq_some_iff.mp e).1)
  rw [e] at this
  cases q : bs[j]? with
  | none => rw [q] at this; cases this
  | some s => rw [q] at this; exact ⟨s, rfl, by simpa using this⟩
theorem R_tpk {K : PySem.W.Frag} {a : Addr} {us : List V} (q : ∀ H, SqT K H a us) (S H : Hp) : R K S H (.nd false .tpk (us.map T.lf)) (.ref a) no := .fz (vs := us) (q S) trivial (by simp) fun i t v e1 e2 => by
  rw [List.getElem?_map, e2] at e1
  cases e1
  exact .lf
theorem hu65 {k : Nat} {A : Around} (h : Room k A) : A.units + 65 < cLine := by have := h.un; omega
theorem hu0 {k : Nat} {A : Around} (h : Room k A) : A.units < cLine := by have := h.un; omega
section
variable {K : PySem.W.Frag}
/-! ### range as a thing -/
def fRng1 : List T → (T → Prop) → Prop
  | [.lf (.int j)], P => P (.nd true (.rg 0 j) [])
  | _, _ => False
abbrev rRng1 : List V → Hp → VK → Prop := fun vs H Q => ∃ j, vs = [V.int j] ∧ ∀ p, H p = none → Q (.ref p) (upd H p (.rng 0 j))
theorem os_rng1 : OpS K fRng1 rRng1 := by
  intro S H ts vs P Q s r d k
  unfold fRng1 at d
  split at d
  · obtain ⟨x, _, rfl, rx, rfl⟩ := r
    cases rx.lf
    exact ⟨_, rfl, fun p hp => fin_new (kd := .rg _ _) (xs := []) (vs := []) s k hp rfl rfl rfl (fun i t v e => by simp at e) d⟩
  · exact d.elim
theorem rd_rg {S H : Hp} {o : Bool} {lo hi : Int} {xs : List T} {v : V} (s : Same S H) (r : Rd1 K S H (.nd o (.rg lo hi) xs) v) : ∃ a, v = .ref a ∧ H a = some (.rng lo hi) := by
  obtain ⟨D, r⟩ := r
  cases r with
  | own Df hD e hk => cases hk; exact ⟨_, rfl, e⟩
  | fz hk => obtain ⟨u, e, h⟩ := hk; cases h; exact ⟨_, rfl, s _ _ e⟩
/-! ### is True, is False -/
def fIsB : List T → (T → Prop) → Prop
  | [.lf (.bl a), .lf (.bl b)], P => P (.lf (.bl (decide (a = b))))
  | _, _ => False
theorem os_isB : OpS K fIsB (r2 rIsB) := by
  intro S H ts vs P Q s r d k
  unfold fIsB at d
  split at d
  · obtain ⟨x, _, rfl, rx, y, _, rfl, ry, rfl⟩ := r
    cases rx.lf
    cases ry.lf
    exact ⟨_, _, rfl, rfl, fin_lf s k d⟩
  · exact d.elim
/-! ### sorted -/
/-- a list of ints; a list of texts; a dict's keys (fewer than 64 of both) -/
def fSorted : List T → (T → Prop) → Prop
  | [.nd _ .lst xs], P => (∃ ns : List Int, xs = ns.map (fun i => T.lf (.int i)) ∧ ∀ ns' : List Int, ns'.Perm ns → ns'.Pairwise (· ≤ ·) → P (.nd true .lst (ns'.map fun i => T.lf (.int i)))) ∨
      ∃ ns : List Str, xs = ns.map (fun i => T.lf (.str i)) ∧ ns.length < 64 ∧ ∀ ns' : List Str, ns'.Perm ns → sortedS ns' = true → P (.nd true .lst (ns'.map fun i => T.lf (.str i)))
  | [.nd _ (.dk ks) _], P => (∃ ns : List Int, ks = ns.map Sum.inl ∧ ns.length < 64 ∧ ∀ ns' : List Int, ns'.Perm ns → ns'.Pairwise (· ≤ ·) → P (.nd true .lst (ns'.map fun i => T.lf (.int i)))) ∨
      ∃ ns : List Str, ks = ns.map Sum.inr ∧ ns.length < 64 ∧ ∀ ns' : List Str, ns'.Perm ns → sortedS ns' = true → P (.nd true .lst (ns'.map fun i => T.lf (.str i)))
  | _, _ => False
abbrev rSDI : List V → Hp → VK → Prop := fun xs H Q => ∃ (a : Addr) (kvs : List (Key × V)) (ks : List Int), xs = [.ref a] ∧ L2.Rd H a (.dK kvs) ∧ kvs.map (·.1) = ks.map Sum.inl ∧ ks.length < 64 ∧ ∀ (ys : List Int) (p : Addr), ys.Perm ks → ys.Pairwise (· ≤ ·) → H p = none → Q (.ref p) (upd H p (.lst (ys.map V.int)))
abbrev rSDS : List V → Hp → VK → Prop := fun xs H Q => ∃ (a : Addr) (kvs : List (Key × V)) (ks : List Str), xs = [.ref a] ∧ L2.Rd H a (.dK kvs) ∧ kvs.map (·.1) = ks.map Sum.inr ∧ ks.length < 64 ∧ ∀ (ys : List Str) (p : Addr), ys.Perm ks → sortedS ys = true → H p = none → Q (.ref p) (upd H p (.lst (ys.map V.str)))
def rSortA (K : PySem.W.Frag) : List V → Hp → VK → Prop := fun xs H Q => (rSortedI K xs H Q ∨ rSortedS K xs H Q) ∨ (rSDI xs H Q ∨ rSDS xs H Q)
theorem cr_sortA {X : Cx} (hc : X.calm = true) : CallR X (.builtin "sorted") (rSortA X.K) := (cr_sortedI.or cr_sortedS).or ((call_sortedDI hc).or (call_sortedD hc))
theorem fin_lfs {S H : Hp} {P : T → Prop} {Q : VK} {us : List V} {p : Addr} (s : Same S H) (k : KO K S H P Q) (hp : H p = none) (q : P (.nd true .lst (us.map T.lf))) : Q (.ref p) (upd H p (.lst us)) :=
  fin_new (kd := .lst) s k hp rfl trivial (by simp) (fun i t v e1 e2 => by
    rw [List.getElem?_map, e2] at e1
    cases e1
    exact .lf) q
theorem map_lfs {α : Type} (f : α → V) (ns : List α) : (ns.map fun i => T.lf (f i)) = (ns.map f).map T.lf := by rw [List.map_map]; rfl
theorem os_sorted : OpS K fSorted (rSortA K) := by
  intro S H ts vs P Q s r d k
  unfold fSorted at d
  split at d
  · obtain ⟨x, _, rfl, rx, rfl⟩ := r
    obtain ⟨a, vs, rfl, ea, ka⟩ := rx.lst s
    rcases d with ⟨ns, rfl, d⟩ | ⟨ns, rfl, hn, d⟩
    · have := kids_ints ka
      subst this
      exact .inl (.inl ⟨a, ns, rfl, .of ea, fun ns' p h1 h2 hp => fin_lfs s k hp (by rw [← map_lfs]; exact d ns' h1 h2)⟩)
    · have := kids_strs ka
      subst this
      exact .inl (.inr ⟨a, ns, rfl, .of ea, hn, fun ns' p h1 h2 hp => fin_lfs s k hp (by rw [← map_lfs]; exact d ns' h1 h2)⟩)
  · obtain ⟨x, _, rfl, rx, rfl⟩ := r
    obtain ⟨a, vs, rfl, ea, hk, nd, ka⟩ := rx.dk s
    rcases d with ⟨ns, rfl, hn, d⟩ | ⟨ns, rfl, hn, d⟩
    · exact .inr (.inl ⟨a, _, ns, rfl, ea, List.map_fst_zip (by omega), hn, fun ns' p h1 h2 hp => fin_lfs s k hp (by rw [← map_lfs]; exact d ns' h1 h2)⟩)
    · exact .inr (.inr ⟨a, _, ns, rfl, ea, List.map_fst_zip (by omega), hn, fun ns' p h1 h2 hp => fin_lfs s k hp (by rw [← map_lfs]; exact d ns' h1 h2)⟩)
  · exact d.elim
/-! ### methods that read -/
def T.tyk : T → String
  | .lf (.str _) => "str"
  | .lf (.int _) => "int"
  | .nd _ .lst _ => "list"
  | .nd _ .seq _ => "list"
  | .nd true (.dk _) _ => "dict"
  | .nd true (.dt _) _ => "dict"
  | _ => ""
theorem tyk_ok {S H : Hp} {t : T} {v : V} {n : String} (s : Same S H) (r : Rd1 K S H t v) (h : t.tyk = n) (hn : n ≠ "") : tyV K n v H := by
  cases t with
  | lf x =>
    have := r.lf
    subst this
    cases v <;> first | exact absurd h.symm hn | exact h.symm
  | nd o k xs =>
    cases k with
    | lst =>
      obtain ⟨a, vs, rfl, ea, _⟩ := r.lst s
      have : n = "list" := by cases o <;> exact h.symm
      subst this
      exact .inl ⟨rfl, _, .of ea⟩
    | seq =>
      obtain ⟨a, vs, rfl, ea, _⟩ := r.seq s
      have : n = "list" := by cases o <;> exact h.symm
      subst this
      exact .inl ⟨rfl, _, ea⟩
    | dk ks =>
      cases o with
      | false => exact absurd h.symm hn
      | true => obtain ⟨_, r⟩ := r; exact kind_ty r h hn
    | dt ks =>
      cases o with
      | false => exact absurd h.symm hn
      | true => obtain ⟨_, r⟩ := r; exact kind_ty r h hn
    | _ => cases o <;> exact absurd h.symm hn
/-- the first operand's kind is known when the others are told -/
def dRdM (n : String) (f : List T → (T → Prop) → Prop) (o1 : Od) (os : List Od) : DE := fun env P Ex => dLs [o1] env (fun rs env1 => (∃ t, rdAll env1 rs = some [t] ∧ t.tyk = n) ∧ dLs os env1 (fun rs2 env2 => ∃ ts, rdAll env2 (rs ++ rs2) = some ts ∧ f ts fun t => P t env2) Ex) Ex
def rHd (r : V → List V → Hp → VK → Prop) : List V → Hp → VK → Prop
  | x :: xs, H, Q => r x xs H Q
  | [], _, _ => False
theorem se_rdm {W : Wc} {te : TE} {ta : TA} {o1 : Od} {os : List Od} {n : String} {f : List T → (T → Prop) → Prop} {r : V → List V → Hp → VK → Prop} (hn : n ≠ "") (h : SO K W te o1) (hl : SL K W ta (dLs os)) (ho : OpS K f (rHd r)) : SE K W (tBM K n r te ta) (dRdM n f o1 os) := fun S D H σ env Q P Ex o re d k x => by
  have main : ∀ S1 D1 H1 env1 rs v, Nxt W.g S D H S1 D1 H1 → Re K S1 H1 env1 σ D1 → Rdl K S1 H1 σ rs [v] → ((∃ t, rdAll env1 rs = some [t] ∧ t.tyk = n) ∧ dLs os env1 (fun rs2 env2 => ∃ ts, rdAll env2 (rs ++ rs2) = some ts ∧ f ts fun t => P t env2) Ex) → tyV K n v H1 ∧ ta σ H1 fun vs H2 => r v vs H2 Q := by
    intro S1 D1 H1 env1 rs v n1 r1 rd ⟨⟨t, e, hd⟩, p⟩
    obtain ⟨y, _, hy, q, rfl⟩ := rdAll_ok r1 rd e
    cases hy
    refine ⟨tyk_ok n1.ok.sub q hd hn, hl S1 D1 H1 σ env1 _ _ Ex n1.ok r1 p (fun S2 D2 H2 env2 rs2 ws n2 r2 rd2 ⟨ts, e2, p2⟩ => ?_) (x.go o n1)⟩
    exact ho S2 H2 ts (v :: ws) _ Q n2.ok.sub (rdAll_ok r2 (Rdl.app rd n2.fs rd2) e2) p2 fun t v S3 H3 Dn f rt p3 => by
      obtain ⟨n3, dj⟩ := Nxt.frs n2.ok f
      exact k _ _ _ _ _ _ (Nxt.trans o (Nxt.trans o n1 n2) n3) (Rz.mk dj (r2.mono f.s1 (fun a ob _ e => f.s _ _ e) fun _ h => h) rt) p3
  cases o1 with
  | v de =>
    refine (show SE K W te de from h) S D H σ env _ _ Ex o re d (fun S1 D1 H1 env1 t v n rz p => ?_) x
    obtain ⟨S1', D1', n1, r1, q1⟩ := rz.frz n.ok
    refine main S1' D1' H1 env1 [.inl t.fz] v (Nxt.trans o n n1) r1 ⟨rfl, fun i v' e => ?_⟩ p
    rcases i with _ | i
    · cases e
      refine ⟨fun t' e => ?_, fun j e => by simp at e⟩
      have e : t.fz = t' := by simpa using e
      subst e
      exact q1
    · simp at e
  | pk i =>
    have e : te = tVar i := h
    subst e
    obtain ⟨⟨t, et⟩, d⟩ := d
    obtain ⟨v, ev, q⟩ := re.get et
    refine ⟨v, ev, main S D H env [.inr i] v (Nxt.refl o) re ⟨rfl, fun j v' e => ?_⟩ d⟩
    rcases j with _ | j
    · cases e
      exact ⟨fun t' e => by simp at e, fun j e => by cases e; exact ev⟩
    · simp at e
/-- a.join(xs) -/
def fJoin : List T → (T → Prop) → Prop
  | [.lf (.str a), .nd _ .lst xs], P => ∃ ys : List Str, xs = ys.map (fun i => T.lf (.str i)) ∧ (ys.map (·.length)).sum + ys.length * a.length ≤ 16777216 ∧ P (.lf (.str (Txt.join a ys)))
  | _, _ => False
abbrev rJoin (K : PySem.W.Frag) : V → List V → Hp → VK → Prop := fun x xs H Q => ∃ a p, ∃ ys : List Str, x = .str a ∧ xs = [.ref p] ∧ (SqL K H p (ys.map V.str) ∨ SqT K H p (ys.map V.str)) ∧ (ys.map (·.length)).sum + ys.length * a.length ≤ 16777216 ∧ Q (.str (Txt.join a ys)) H
theorem os_join : OpS K fJoin (rHd (rJoin K)) := by
  intro S H ts vs P Q s r d k
  unfold fJoin at d
  split at d
  · obtain ⟨x, _, rfl, rx, y, _, rfl, ry, rfl⟩ := r
    cases rx.lf
    obtain ⟨a, vs, rfl, ea, ka⟩ := ry.lst s
    obtain ⟨ys, rfl, h, d⟩ := d
    have := kids_strs ka
    subst this
    exact ⟨_, a, ys, rfl, rfl, .inl (.of ea), h, fin_lf s k d⟩
  · exact d.elim
end
section
variable {X : Cx} {W : Wc} {io : List Nat} {pos p apos cpos : Pos} {tg e o : Expr} {es : List Expr} {de : DE} {o1 : Od} {os : List Od} {m : Str} {n : String} {f : List T → (T → Prop) → Prop} {r : V → List V → Hp → VK → Prop}
/-- over a range that is a thing -/
def dRngO (o1 : Od) : DI := fun env P Ex => dLs [o1] env (fun rs env1 => ∃ lo hi xs o, rdAll env1 rs = some [.nd o (.rg lo hi) xs] ∧ (-(2 ^ 62) ≤ lo ∧ lo < 2 ^ 62 ∧ -(2 ^ 62) ≤ hi ∧ hi < 2 ^ 62) ∧ P (irg lo (hi - lo).toNat) env1) Ex
theorem i_rngO (h : TPO X W e o1) : TPI X W tg e (dRngO o1) := by
  obtain ⟨te, a1, a2⟩ := h
  refine ⟨_, pi_rng a1, fun S D H σ env Q P Ex o re d k x => ?_⟩
  have main : SL X.K W (tCons te tNil) (dLs [o1]) := sl_cons a2 sl_nil
  have z := main S D H σ env (fun vs H1 => ∃ x, vs = [x] ∧ ∃ a lo hi, x = V.ref a ∧ H1 a = some (.rng lo hi) ∧ (-(2 ^ 62) ≤ lo ∧ lo < 2 ^ 62 ∧ -(2 ^ 62) ≤ hi ∧ hi < 2 ^ 62) ∧ Q (Itr lo (hi - lo).toNat) H1) _ Ex o re d (fun S1 D1 H1 env1 rs vs n r1 rd ⟨lo, hi, xs, ow, e1, hb, p⟩ => by
    obtain ⟨y, _, rfl, q, rfl⟩ := rdAll_ok r1 rd e1
    obtain ⟨a, rfl, ha⟩ := rd_rg n.ok.sub q
    exact ⟨_, rfl, a, lo, hi, rfl, ha, hb, k _ _ _ _ _ _ n r1 wk_range p⟩) x
  have z : te σ H fun x H1 => ∃ y, [x] = [y] ∧ ∃ a lo hi, y = V.ref a ∧ H1 a = some (.rng lo hi) ∧ (-(2 ^ 62) ≤ lo ∧ lo < 2 ^ 62 ∧ -(2 ^ 62) ≤ hi ∧ hi < 2 ^ 62) ∧ Q (Itr lo (hi - lo).toNat) H1 := z
  have eq : (fun (x : V) (H1 : Hp) => ∃ y, [x] = [y] ∧ ∃ a lo hi, y = V.ref a ∧ H1 a = some (.rng lo hi) ∧ (-(2 ^ 62) ≤ lo ∧ lo < 2 ^ 62 ∧ -(2 ^ 62) ≤ hi ∧ hi < 2 ^ 62) ∧ Q (Itr lo (hi - lo).toNat) H1) = fun x H1 => ∃ a lo hi, x = V.ref a ∧ H1 a = some (.rng lo hi) ∧ (-(2 ^ 62) ≤ lo ∧ lo < 2 ^ 62 ∧ -(2 ^ 62) ≤ hi ∧ hi < 2 ^ 62) ∧ Q (Itr lo (hi - lo).toNat) H1 := by
    funext x H1
    exact propext ⟨fun ⟨y, e, h⟩ => by cases e; exact h, fun h => ⟨_, rfl, h⟩⟩
  rw [eq] at z
  exact z
/-- o.m(e, ..) that reads; the rule is told -/
theorem t_rdm (hn : n ≠ "") (hf : OpS X.K f (rHd r)) (ho : TPO X W o o1) (ha : TPL X W (e :: es) os) (hpe : ∀ {to : TE} {t : TA}, PE X o to → PA X (e :: es) t → PE X (.Call (.Attribute o m apos) (e :: es) [] cpos) (tBM X.K n r to t)) : TPE X W (.Call (.Attribute o m apos) (e :: es) [] cpos) (dRdM n f o1 os) := by
  obtain ⟨to, b1, b2⟩ := ho
  obtain ⟨ta, a1, a2⟩ := ha
  exact ⟨_, hpe b1 a1, se_rdm hn b2 a2 hf⟩
theorem t_rdm0 (hn : n ≠ "") (hf : OpS X.K f (rHd r)) (ho : TPO X W o o1) (hpe : ∀ {to : TE}, PE X o to → PE X (.Call (.Attribute o m apos) [] [] cpos) (tBM0 X.K n r to)) : TPE X W (.Call (.Attribute o m apos) [] [] cpos) (dRdM n f o1 []) := by
  obtain ⟨to, b1, b2⟩ := ho
  exact ⟨_, hpe b1, se_rdm hn b2 sl_nil hf⟩
end
section
variable {P : Program} {w : World} {K : PySem.W.Frag} {mg : Str → Option Value} {base : Heap}
theorem noneX {CX : CXT} {x : Str} {st : Stmt} {ps : List Str} (F : At K mg x st ps) (k : Nat) : Dn P w K mg base CX k x ps (fun _ _ _ _ => False) := by
  obtain ⟨f, fd, F, hm, hb⟩ := F
  exact ⟨f, fd, ⟨fun _ _ _ _ h => h.elim, fun _ _ _ _ _ _ _ _ _ _ _ _ _ h => h.elim⟩, hm, F.kp, hb, F.look⟩
theorem none_t {x : Str} {st : Stmt} {ps : List Str} {io : List Nat} (F : At K mg x st ps) : Dt P w K mg base 0 x ps io (fun _ _ _ => False) := by
  obtain ⟨f, fd, F, r⟩ := noneX (P := P) (w := w) (base := base) (CX := L2.CX P w) F 0
  exact ⟨f, fd, F.imp fun vs H Q E ⟨_, _, _, _, _, _, _, _, h, _⟩ => h, r⟩
def spLaw (K : PySem.W.Frag) : Sp := fun vs H Q _ => ∃ (a : Addr) (ns : List Int), vs = [.ref a] ∧ SqL K H a (ns.map V.int) ∧ ns.length ≤ 63 ∧ ∀ H', Q (.bl true) H'
theorem tok_law {N : List Str} {k : Nat} {f : Addr} {fd : FuncData} {pa : Arguments} {bd : List Stmt} {sc : Scope} {ds : DS} (F : FunD K "law" "law" pa bd sc [] [] f fd) (S : FnScope N ["script"] sc)
    (hbody : ∀ (cdv : Value) (A : Around) (outer : List PySem.Env) (s : Shared) (H : Hp) (E : XK), Room k (A.deeper (envOfC "law" sc s.heap.objs.size f cdv)) → Takes (cxOf CX0 P w K mg base N "law" sc f cdv A outer s H E) (fun _ _ _ _ => False) → PassesOwn (model P w) (A.deeper (envOfC "law" sc s.heap.objs.size f cdv)) (envOfC "law" sc s.heap.objs.size f cdv) (cxOf CX0 P w K mg base N "law" sc f cdv A outer s H E).xe →
      TPSs (cxOf CX0 P w K mg base N "law" sc f cdv A outer s H E) ⟨fun _ _ _ _ => False, G0⟩ [] bd ds)
    (h : ∀ ns : List Int, ns.length ≤ 63 → specOf N.length [] ds [.nd false .seq (ns.map fun i => .lf (.int i))] (fun t _ => t = .lf (.bl true)) (fun _ _ => False)) : FnOk P w K mg base CX0 (k + 1) f fd ["script"] (spLaw K) := by
  refine F.ok S (fun vs H Q E h => by obtain ⟨a, ns, rfl, _⟩ := h; rfl) fun cdv A outer s H vs Q E hr q => ?_
  obtain ⟨ts, h1, h2⟩ := hbody cdv A outer s H E hr takes_none5 PassesOwn.leaving
  refine ⟨ts, h1, ?_⟩
  obtain ⟨a, ns, rfl, hq, hl, hQ⟩ := q
  have r : R K H H (.nd false .seq (ns.map fun i => .lf (.int i))) (.ref a) no := .fz (vs := ns.map V.int) hq trivial (by simp) fun i t v e1 e2 => by
    rw [List.getElem?_map] at e1 e2
    cases z : ns[i]? with
    | none => rw [z] at e1; cases e1
    | some j => rw [z] at e1 e2; cases e1; cases e2; exact .lf
  have re := re_start (N := N) (Rs.cons (D1 := no) (D2 := no) (D := no) (fun _ h => h.elim) (fun _ h => h.elim) (fun _ h => h.elim) r Rs.nil)
  refine h2 H no H (L2.start N [.ref a]) (L2.start N [.ref a]) (env0 N.length _) (endsOf [] _ _) _ ⟨trivial, Same.refl _, fun _ h => h.elim⟩ re (fun _ _ => rfl) (h ns hl) ⟨fun S' D' H' env' σ' n' re i p => ?_, fun _ _ _ _ _ _ _ _ p => p.elim, fun _ _ _ _ _ _ _ _ p => p.elim, fun S' D' H' env' σ' t v n' rz i p => ?_, fun S' D' H' env' σ' ex cls dd n' re i rx p => ?_⟩
  · obtain ⟨outs, _, p⟩ := p; cases p
  · obtain ⟨outs, _, p⟩ := p
    subst p
    obtain ⟨rfl, _⟩ := rz.bl
    exact hQ _
  · obtain ⟨outs, _, p⟩ := p; exact p
end
abbrev DtN (P : Program) (w : World) (K : PySem.W.Frag) (mg : Str → Option Value) (base : Heap) (k : Nat) (x : Str) (ps : List Str) (kw : Str) (io : List Nat) (spec : Spec) : Prop := DnN P w K mg base (L2.CX P w) k x ps kw (spOf K (ps.length + 1) io spec)
section
variable {P : Program} {w : World} {K : PySem.W.Frag} {mg : Str → Option Value} {base : Heap}
theorem _root_.Cm.AtN.tok {x kw : Str} {st : Stmt} {N ps : List Str} {k : Nat} {io : List Nat} {ds : DS} (F : AtN K mg x st ps kw) (S : FnScope N (ps ++ [kw]) (defScope st)) (nd : io.Nodup) (hio : ∀ i ∈ io, i < ps.length + 1)
    (hbody : ∀ (f : Addr) (cdv : Value) (A : Around) (outer : List PySem.Env) (s : Shared) (H : Hp) (E : XK), Room k (A.deeper (envOfC x (defScope st) s.heap.objs.size f cdv)) →
      Takes (cxOf (L2.CX P w) P w K mg base N x (defScope st) f cdv A outer s H E) (fun cls d _ H => E cls d H) → PassesOwn (model P w) (A.deeper (envOfC x (defScope st) s.heap.objs.size f cdv)) (envOfC x (defScope st) s.heap.objs.size f cdv) (cxOf (L2.CX P w) P w K mg base N x (defScope st) f cdv A outer s H E).xe →
      TPSs (cxOf (L2.CX P w) P w K mg base N x (defScope st) f cdv A outer s H E) ⟨fun cls d _ H => E cls d H, G0⟩ io (defBody st) ds) : DtN P w K mg base (k + 1) x ps kw io (specOf N.length io ds) := by
  obtain ⟨f, fd, F, hm, hb⟩ := F
  refine ⟨f, fd, F.ok S (fun vs H Q E h => by rw [h.1]; simp) fun cdv A outer s H vs Q E hr h => ?_, hm, F.kp, hb, F.look⟩
  obtain ⟨ts, h1, h2⟩ := hbody f cdv A outer s H E hr (takes_of rfl rfl rfl rfl) PassesOwn.leaving
  exact ⟨ts, h1, body_ok nd hio h2 h⟩
end
section
variable {X : Cx} {W : WX} {k : Nat} {x kw : Str} {ps : List Str} {sp : Sp} {p pos kp : Pos} {e ek : Expr} {es : List Expr} {t : TA} {tk : TE}
theorem pe_callVX (D : DnN X.prog X.w X.K X.mg X.base (L2.CX X.prog X.w) k x ps kw sp) (hr : Room k X.A) (tk0 : Takes X W) (ha : PA X (e :: es) t) (hk : PE X ek tk) (hg : Gl X x := by rfl)
    (hall : (backToKw pos (keywordEach [⟨some kw, ek, kp⟩] X.env)).all (·.1.isSome) = true := by rfl) (hks : (backToKw pos (keywordEach [⟨some kw, ek, kp⟩] X.env)).filterMap (·.1) = [kw] := by rfl)
    (hdb : (x == ("__debug__" : Str)) = false := by decide) (he : starEach (e :: es) X.env = (false, eval e X.env) :: starEach es X.env := by rfl)
    (hpl : ((backTo pos (starEach (e :: es) X.env)).any (·.1) || (backToKw pos (keywordEach [⟨some kw, ek, kp⟩] X.env)).any (·.1.isNone)) = false := by rfl) :
    PE X (.Call (.Name x p) (e :: es) [⟨some kw, ek, kp⟩] pos) (tCallWX ps.length sp W t tk) := by
  obtain ⟨f, fd, F, hm, hkp, hb, _⟩ := D
  refine ⟨fun pins s σ H Q I h => ?_⟩
  refine wpAny_Call_Name_kw (ld_glob I hg hm ?_ hdb)
  refine PySem.W.callWith_KW (h₀ := X.base) I.ok.mod.kin hkp hall (thn (ha.run pos pins s σ H _ I h) fun us s1 ⟨vs, H1, I1, r, q⟩ => ?_) hpl he
  refine thn ((pk_cons (nm := some kw) (kpos := kp) hk pk_nil).run pos pins s1 σ H1 (fun zs H2 => vs.length = ps.length ∧ zs.length = 1 ∧ sp (vs ++ zs) H2 Q (WE W σ)) I1 ?_) fun ws s2 ⟨zs, H2, I2, rz, l1, l2, q2⟩ => ⟨I2.kIn, ?_⟩
  · exact q
  rw [hks]
  exact run_fnNS (E := WE W) F hr hb (passAt tk0 σ) I2 r rz l1 l2 q2
theorem pe_callVX0 (D : DnN X.prog X.w X.K X.mg X.base (L2.CX X.prog X.w) k x [] kw sp) (hr : Room k X.A) (tk0 : Takes X W) (hk : PE X ek tk) (hg : Gl X x := by rfl)
    (hall : (backToKw pos (keywordEach [⟨some kw, ek, kp⟩] X.env)).all (·.1.isSome) = true := by rfl) (hks : (backToKw pos (keywordEach [⟨some kw, ek, kp⟩] X.env)).filterMap (·.1) = [kw] := by rfl)
    (hdb : (x == ("__debug__" : Str)) = false := by decide)
    (hpl : ((backTo pos (starEach [] X.env)).any (·.1) || (backToKw pos (keywordEach [⟨some kw, ek, kp⟩] X.env)).any (·.1.isNone)) = false := by rfl) :
    PE X (.Call (.Name x p) [] [⟨some kw, ek, kp⟩] pos) (fun σ H Q => tk σ H fun z H2 => [z].length = 1 ∧ sp [z] H2 Q (WE W σ)) := by
  obtain ⟨f, fd, F, hm, hkp, hb, _⟩ := D
  refine ⟨fun pins s σ H Q I h => ?_⟩
  refine wpAny_Call_Name_kw (ld_glob I hg hm ?_ hdb)
  refine PySem.W.callWith_KW0 (h₀ := X.base) I.ok.mod.kin hkp hall ?_ hpl
  refine thn ((pk_cons (nm := some kw) (kpos := kp) hk pk_nil).run pos pins s σ H (fun zs H2 => zs.length = 1 ∧ sp zs H2 Q (WE W σ)) I ?_) fun ws s2 ⟨zs, H2, I2, rz, l2, q2⟩ => ⟨I2.kIn, ?_⟩
  · exact h
  rw [hks]
  exact run_fnNS (us := []) (vs := []) (E := WE W) F hr hb (passAt tk0 σ) I2 .nil rz rfl l2 q2
end
section
variable {X : Cx} {W : Wc} {io bs : List Nat} {p pos kp : Pos} {k : Nat} {x kw : Str} {ps : List Str} {spec : Spec} {e ek : Expr} {es : List Expr} {da : DA} {de : DE} {ms : List (Option Nat)}
theorem t_callN (D : DtN X.prog X.w X.K X.mg X.base k x ps kw io spec) (hr : Room k X.A) (tk : Takes X W.x) (ha : TPA X W ms (e :: es) da) (hk : TPE X W ek de) (hl : ms.length = ps.length) (bs : List Nat) (hb : ∀ (j i : Nat), io[j]? = some i → ∃ s, bs[j]? = some s ∧ (ms ++ [none])[i]? = some (some s)) (hbl : bs.length = io.length) (hg : Gl X x := by rfl)
    (hall : (backToKw pos (keywordEach [⟨some kw, ek, kp⟩] X.env)).all (·.1.isSome) = true := by rfl) (hks : (backToKw pos (keywordEach [⟨some kw, ek, kp⟩] X.env)).filterMap (·.1) = [kw] := by rfl)
    (hdb : (x == ("__debug__" : Str)) = false := by decide) (he : starEach (e :: es) X.env = (false, eval e X.env) :: starEach es X.env := by rfl)
    (hpl : ((backTo pos (starEach (e :: es) X.env)).any (·.1) || (backToKw pos (keywordEach [⟨some kw, ek, kp⟩] X.env)).any (·.1.isNone)) = false := by rfl) : TPE X W (.Call (.Name x p) (e :: es) [⟨some kw, ek, kp⟩] pos) (dCall bs spec (dSnoc da de)) := by
  obtain ⟨ta, a1, a2⟩ := ha
  obtain ⟨te, b1, b2⟩ := hk
  refine ⟨tCallS (spOf X.K (ps.length + 1) io spec) (WE W.x) (tSnoc ta te), ?_, se_call (sa_snoc a2 b2) (by simp [hl]) hb hbl⟩
  have eq : tCallWX ps.length (spOf X.K (ps.length + 1) io spec) W.x ta te = tCallS (spOf X.K (ps.length + 1) io spec) (WE W.x) (tSnoc ta te) := by
    funext σ H Q
    unfold tCallWX tCallS tSnoc
    congr 1
    funext vs H1
    congr 1
    funext z H2
    exact propext ⟨fun h => h.2.2, fun h => ⟨by have := h.1; simp at this; exact this, rfl, h⟩⟩
  rw [← eq]
  exact pe_callVX D hr tk a1 b1 hg hall hks hdb he hpl
theorem t_callN0 (D : DtN X.prog X.w X.K X.mg X.base k x [] kw [] spec) (hr : Room k X.A) (tk : Takes X W.x) (hk : TPE X W ek de) (hg : Gl X x := by rfl)
    (hall : (backToKw pos (keywordEach [⟨some kw, ek, kp⟩] X.env)).all (·.1.isSome) = true := by rfl) (hks : (backToKw pos (keywordEach [⟨some kw, ek, kp⟩] X.env)).filterMap (·.1) = [kw] := by rfl)
    (hdb : (x == ("__debug__" : Str)) = false := by decide)
    (hpl : ((backTo pos (starEach [] X.env)).any (·.1) || (backToKw pos (keywordEach [⟨some kw, ek, kp⟩] X.env)).any (·.1.isNone)) = false := by rfl) : TPE X W (.Call (.Name x p) [] [⟨some kw, ek, kp⟩] pos) (dCall [] spec (dSnoc dNil de)) := by
  obtain ⟨te, b1, b2⟩ := hk
  refine ⟨tCallS (spOf X.K 1 [] spec) (WE W.x) (tSnoc tNil te), ?_, se_call (sa_snoc sa_nil b2) rfl (fun j i e => by simp at e) rfl⟩
  have eq : (fun σ H Q => te σ H fun z H2 => [z].length = 1 ∧ spOf X.K 1 [] spec [z] H2 Q (WE W.x σ)) = tCallS (spOf X.K 1 [] spec) (WE W.x) (tSnoc tNil te) := by
    funext σ H Q
    unfold tCallS tSnoc tNil
    congr 1
    funext z H2
    exact propext ⟨fun h => h.2, fun h => ⟨rfl, h⟩⟩
  rw [← eq]
  exact pe_callVX0 D hr tk b1 hg hall hks hdb hpl
end
local macro_rules | `(tactic| walk_at "vis") => `(tactic| (first | exact Or.inl rfl | exact Or.inr (Or.inl rfl) | exact Or.inr (Or.inr rfl)))
local macro_rules | `(tactic| walk_at "loc") => `(tactic| (first | exact Or.inl rfl | exact Or.inr rfl))
/-! ### e.f in a suite, whatever class flies -/
def dXfK (K : PySem.W.Frag) (a : Addr) (ex : T) (f : Str) (de : DE) : DE := fun env P Ex => (∃ C fs ts, ex = .nd false (.exc C fs) ts ∧ XfC K C ∧ PySem.W.findIn K (.ref C) f = some none) ∧ dXf a ex f de env P Ex
theorem t_xfK {X : Cx} {W : Wc} {a C dd : Addr} {fs : List Str} {ts : List T} {oe : Obj} {pn : List (Addr × Obj)} {e : Expr} {de : DE} {pos : Pos} {n : Str} (hz : Zc (.ref C) (some dd) oe) (hf : ∃ vs, oe.data = .fields vs) (he : TPE (X.suite a ((a, oe) :: pn)) (suW X.K W (.nd false (.exc C fs) ts) (.ref C) (some dd)) e de) (hb : attributeBase e n X.env (eval e X.env) = eval e X.env := by rfl) :
    TPE (X.suite a ((a, oe) :: pn)) (suW X.K W (.nd false (.exc C fs) ts) (.ref C) (some dd)) (.Attribute e n pos) (dXfK X.K a (.nd false (.exc C fs) ts) n de) := by
  by_cases h : XfC X.K C ∧ PySem.W.findIn X.K (.ref C) n = some none
  · obtain ⟨te, h1, h2⟩ := t_xf (W := W) (pos := pos) h.1 h.2 hz hf he hb
    exact ⟨te, h1, fun S D H σ env Q P Ex o r d k x => h2 S D H σ env Q P Ex o r d.2 k x⟩
  · refine ⟨fun _ _ _ => False, ⟨fun pins s σ H Q I q => q.elim⟩, fun S D H σ env Q P Ex o r d k x => ?_⟩
    obtain ⟨⟨C', fs', ts', e1, e2, e3⟩, _⟩ := d
    cases e1
    exact h ⟨e2, e3⟩
end Tr

set_option Elab.async false
set_option linter.all false
set_option maxRecDepth 100000
set_option maxHeartbeats 1000000
set_option autoImplicit false
namespace Tr
open PySem PySem.Spec PyProof.Rows L2 Cm
local macro_rules | `(tactic| walk_at "vis") => `(tactic| (first | exact Or.inl rfl | exact Or.inr (Or.inl rfl) | exact Or.inr (Or.inr rfl)))
local macro_rules | `(tactic| walk_at "loc") => `(tactic| (first | exact Or.inl rfl | exact Or.inr rfl))
/-! ### dicts of data, equal or not -/
inductive HitsD (K : PySem.W.Frag) (H : Hp) (ls : List (Key × V)) : List (Key × V) → Bool → Prop
  | nil : HitsD K H ls [] true
  | miss {k : Key} {v : V} {r : List (Key × V)} : valV ls k = none → HitsD K H ls ((k, v) :: r) false
  | hit {k : Key} {v u : V} {d e : PyData} {r : List (Key × V)} {b : Bool} : valV ls k = some u → L2.Dp K H v d → L2.Dp K H u e → SeqAt.shaped d = true → SeqAt.shaped e = true → HitsD K H ls r b → HitsD K H ls ((k, v) :: r) (d.eqv e && b)
def rEqDt (K : PySem.W.Frag) (n : Bool) : R2 := fun x y H Q => ∃ (a b : Addr) (ks ls : List (Key × V)) (r : Bool), x = .ref a ∧ y = .ref b ∧ L2.Rd H a (.dK ks) ∧ L2.Rd H b (.dK ls) ∧ (ks.length = ls.length → HitsD K H ls ks r) ∧ Q (.bl (n ^^ (ks.length == ls.length && r))) H
theorem rd_ok {X : Cx} {pins : List (Addr × Obj)} {σ : L2.St} {H : Hp} {s : Shared} {a : Addr} {ks : List (Key × V)} (I : L2.Inv X pins σ H s) (h : L2.Rd H a (.dK ks)) : (a == sysModules) = false ∧ ∃ vs, L2.KV ks vs ∧ Heap.DictOf (mixKind X.prog X.w) s.heap a vs := by
  rcases h with h | ⟨o, h⟩
  · have := I.hok a _ h
    exact this.2
  · have := I.hok a _ h
    exact this.2.2
theorem kv_len {κ : Type} {ks : List (κ × V)} {vs : List (κ × Value)} (h : L2.KV ks vs) : ks.length = vs.length := by
  induction h with
  | nil => rfl
  | cons _ _ ih => simp [ih]
theorem kv_at : ∀ {ks : List (Key × V)} {vs : List (Key × Value)} (k : Key), L2.KV ks vs → (valV ks k = none ∧ valueAt vs k = none) ∨ ∃ v u, valV ks k = some v ∧ valueAt vs k = some u ∧ L2.RelV v u
  | _, _, k, .nil => .inl ⟨rfl, rfl⟩
  | _, _, k, .cons (a := p) (b := q) (l₁ := r) (l₂ := r') h t => by
    obtain ⟨k1, v⟩ := p
    obtain ⟨k2, u⟩ := q
    obtain ⟨e, hr⟩ := h
    have e : k1 = k2 := e
    subst e
    by_cases h : k1 = k
    · subst h
      exact .inr ⟨v, u, valV_pos rfl, by unfold valueAt; simp, hr⟩
    · rcases kv_at k t with ⟨h1, h2⟩ | ⟨v', u', h1, h2, h3⟩
      · exact .inl ⟨by rw [valV_neg h]; exact h1, by unfold valueAt at h2 ⊢; rw [List.find?_cons_of_neg (by simpa using h)]; exact h2⟩
      · exact .inr ⟨v', u', by rw [valV_neg h]; exact h1, by unfold valueAt at h2 ⊢; rw [List.find?_cons_of_neg (by simpa using h)]; exact h2, h3⟩
theorem hits_ok {X : Cx} {pins : List (Addr × Obj)} {σ : L2.St} {H : Hp} {s : Shared} (I : L2.Inv X pins σ H s) (hu : X.A.units + 65 < cLine) {ls : List (Key × V)} {us : List (Key × Value)} (hl : L2.KV ls us) : ∀ {ks : List (Key × V)} {vs : List (Key × Value)} {r : Bool}, L2.KV ks vs → HitsD X.K H ls ks r → W.KeqHits X.A.in1 s us vs r := by
  intro ks vs r hk h
  induction h generalizing vs with
  | nil => cases hk; exact .nil
  | @miss k v r e =>
    cases hk with
    | @cons _ q _ _ h t =>
      obtain ⟨k2, u⟩ := q
      have e2 : k = k2 := h.1
      subst e2
      rcases kv_at k hl with ⟨_, h2⟩ | ⟨v', u', h1, _⟩
      · exact .miss h2
      · rw [e] at h1; cases h1
  | @hit k v u d e r b e1 hd he sd se _ ih =>
    cases hk with
    | @cons _ q _ _ h t =>
      obtain ⟨k2, w⟩ := q
      have e2 : k = k2 := h.1
      subst e2
      rcases kv_at k hl with ⟨h1, _⟩ | ⟨v', u', h1, h2, h3⟩
      · rw [e1] at h1; cases h1
      · rw [e1] at h1
        cases h1
        obtain ⟨as, ra⟩ := L2.Dp.reads I d v w hd h.2
        obtain ⟨bs, rb⟩ := L2.Dp.reads I e u u' he h3
        unfold SeqAt.shaped at sd se
        rw [Bool.and_eq_true, decide_eq_true_eq] at sd se
        refine .hit h2 (SeqAt.eqAt_reads d e _ s w u' as bs ra rb sd.1 se.1 ?_) (ih t)
        have : min d.depth e.depth ≤ 64 := Nat.le_trans (Nat.min_le_left _ _) sd.2
        show X.A.units + 1 + min d.depth e.depth < cLine
        omega
theorem op_eqDt {X : Cx} (hu : X.A.units + 65 < cLine) : OpR X (compareOp .Eq) (rEqDt X.K false) := by
  rintro pins s σ H x y v u Q I rx ry ⟨a, b, ks, ls, r, rfl, rfl, ha, hb, hh, q⟩
  cases rx
  cases ry
  obtain ⟨h1, va, ka, da⟩ := rd_ok I ha
  obtain ⟨h2, vb, kb, db⟩ := rd_ok I hb
  refine W.keq_eq h1 h2 da db (by omega) (fun e => hits_ok I hu kb ka (hh (by rw [kv_len ka, kv_len kb]; exact e))) ⟨.bl _, H, I, rfl, ?_⟩
  rw [Bool.false_xor] at q
  rw [← kv_len ka, ← kv_len kb]
  exact q
theorem op_neDt {X : Cx} (hu : X.A.units + 65 < cLine) : OpR X (compareOp .NotEq) (rEqDt X.K true) := by
  rintro pins s σ H x y v u Q I rx ry ⟨a, b, ks, ls, r, rfl, rfl, ha, hb, hh, q⟩
  cases rx
  cases ry
  obtain ⟨h1, va, ka, da⟩ := rd_ok I ha
  obtain ⟨h2, vb, kb, db⟩ := rd_ok I hb
  refine W.keq_ne h1 h2 da db (by omega) (fun e => hits_ok I hu kb ka (hh (by rw [kv_len ka, kv_len kb]; exact e))) ⟨.bl _, H, I, rfl, ?_⟩
  rw [Bool.true_xor] at q
  rw [← kv_len ka, ← kv_len kb]
  exact q
/-- the answer on trees: ks, xs against ls, ys -/
def hitsT (ls : List Key) (ys : List T) : List Key → List T → Option Bool
  | k :: ks, x :: xs => match dg ls ys k with
    | none => some false
    | some y => match x.py, y.py, hitsT ls ys ks xs with
      | some d, some e, some b => if SeqAt.shaped d = true ∧ SeqAt.shaped e = true then some (d.eqv e && b) else none
      | _, _, _ => none
  | _, _ => some true
def fEqT (n : Bool) : List T → (T → Prop) → Prop
  | [.nd o (.dk ks) xs, .nd o' (.dk ls) ys], P => ∃ r, (ks.length = ls.length → hitsT ls ys ks xs = some r) ∧ P (.lf (.bl (n ^^ (ks.length == ls.length && r))))
  | [t, u], P => ∃ d e, t.py = some d ∧ u.py = some e ∧ SeqAt.shaped d = true ∧ SeqAt.shaped e = true ∧ P (.lf (.bl (n ^^ d.eqv e)))
  | _, _ => False
section
variable {K : PySem.W.Frag}
theorem hitsT_ok {S H : Hp} (s : Same S H) {w' : Bool} {ls : List Key} {ys : List T} {ws : List V} (hl : ls.length = ws.length) (kb : Kids K S H w' ys ws) : ∀ {ks : List Key} {xs : List T} {vs : List V} {r : Bool}, ks.length = vs.length → xs.length = vs.length → (∀ (i : Nat) (t : T) (v : V), xs[i]? = some t → vs[i]? = some v → Rd1 K S H t v) → hitsT ls ys ks xs = some r → HitsD K H (ls.zip ws) (ks.zip vs) r
  | [], _, _, r, _, _, _, e => by
    have e : some true = some r := by
      revert e
      unfold hitsT
      exact id
    cases e
    exact .nil
  | k :: ks, [], vs, r, h1, h2, _, e => by simp at h1 h2; omega
  | k :: ks, x :: xs, [], r, h1, h2, _, e => by simp at h1
  | k :: ks, x :: xs, v :: vs, r, h1, h2, hr, e => by
    unfold hitsT at e
    have a := ans_of (K := K) (S := S) (H := H) hl kb k
    cases q : dg ls ys k with
    | none =>
      rw [q] at e a
      cases e
      rcases a with ⟨_, a⟩ | ⟨_, _, a, _⟩
      · exact .miss a
      · cases a
    | some y =>
      rw [q] at e a
      rcases a with ⟨a, _⟩ | ⟨t, v', a1, a2, a3⟩
      · cases a
      · cases a1
        dsimp only at e
        split at e
        · rename_i d e' b e1 e2 e3
          split at e
          · rename_i sh
            cases e
            exact .hit a2 (dp_of s _ _ _ (hr 0 x v rfl rfl) e1) (dp_of s _ _ _ a3 e2) sh.1 sh.2 (hitsT_ok s hl kb (by simpa using h1) (by simpa using h2) (fun i t v e1 e2 => hr (i + 1) t v (by simpa using e1) (by simpa using e2)) e3)
          · cases e
        · cases e
def rEqA2 (K : PySem.W.Frag) (n : Bool) : R2 := fun x y H Q => rEqDt K n x y H Q ∨ ∃ d e, L2.Dp K H x d ∧ L2.Dp K H y e ∧ SeqAt.shaped d = true ∧ SeqAt.shaped e = true ∧ Q (.bl (n ^^ d.eqv e)) H
theorem op_eqT {X : Cx} (hu : X.A.units + 65 < cLine) : OpR X (compareOp .Eq) (rEqA2 X.K false) := by
  rintro pins s σ H x y v u Q I rx ry (h | ⟨d, e, h1, h2, h3, h4, q⟩)
  · exact op_eqDt hu pins s σ H x y v u Q I rx ry h
  · exact op_eqD (by omega) pins s σ H x y v u Q I rx ry ⟨d, e, h1, h2, h3, h4, by simpa using q⟩
theorem op_neT {X : Cx} (hu : X.A.units + 65 < cLine) : OpR X (compareOp .NotEq) (rEqA2 X.K true) := by
  rintro pins s σ H x y v u Q I rx ry (h | ⟨d, e, h1, h2, h3, h4, q⟩)
  · exact op_neDt hu pins s σ H x y v u Q I rx ry h
  · exact op_neD (by omega) pins s σ H x y v u Q I rx ry ⟨d, e, h1, h2, h3, h4, by simpa using q⟩
theorem os_eqT {n : Bool} : OpS K (fEqT n) (r2 (rEqA2 K n)) := by
  intro S H ts vs P Q s r d k
  unfold fEqT at d
  split at d
  · rename_i o ks xs o' ls ys
    obtain ⟨x, _, rfl, rx, y, _, rfl, ry, rfl⟩ := r
    obtain ⟨b, e, d⟩ := d
    obtain ⟨p, vs, rfl, ea, hk, nd, ka⟩ := rx.dk s
    obtain ⟨q, ws, rfl, eb, hl, nd', kb⟩ := ry.dk s
    have l1 : (ks.zip vs).length = ks.length := by rw [List.length_zip, hk, Nat.min_self]
    have l2 : (ls.zip ws).length = ls.length := by rw [List.length_zip, hl, Nat.min_self]
    refine .inl ⟨p, q, _, _, b, rfl, rfl, ea, eb, fun h => hitsT_ok s hl kb hk ka.len ka.rd (e (by rw [← l1, ← l2]; exact h)), ?_⟩
    rw [l1, l2]
    exact fin_lf s k d
  · obtain ⟨x, _, rfl, rx, y, _, rfl, ry, rfl⟩ := r
    obtain ⟨d1, d2, e1, e2, s1, s2, d⟩ := d
    exact .inr ⟨d1, d2, dp_of s _ _ _ rx e1, dp_of s _ _ _ ry e2, s1, s2, fin_lf s k d⟩
  · exact d.elim
end
end Tr

set_option Elab.async false
set_option linter.all false
set_option maxRecDepth 100000
set_option maxHeartbeats 4000000
set_option autoImplicit false
namespace Tr
open PySem PySem.Spec PyProof.Rows L2 Cm
local macro_rules | `(tactic| walk_at "vis") => `(tactic| (first | exact Or.inl rfl | exact Or.inr (Or.inl rfl) | exact Or.inr (Or.inr rfl)))
local macro_rules | `(tactic| walk_at "loc") => `(tactic| (first | exact Or.inl rfl | exact Or.inr rfl))
/-! ### sets of texts: what is met first -/
def dd (xs : List Str) : List Str := xs.foldl (fun ys x => if ys.any (· == x) then ys else ys ++ [x]) []
theorem dd_snoc (xs : List Str) (x : Str) : dd (xs ++ [x]) = if (dd xs).any (· == x) then dd xs else dd xs ++ [x] := by
  unfold dd
  rw [List.foldl_append]
  rfl
theorem any_mem (xs : List Str) (k : Str) : xs.any (· == k) = decide (k ∈ xs) := by
  rw [Bool.eq_iff_iff, List.any_eq_true, decide_eq_true_eq]
  exact ⟨fun ⟨y, h, e⟩ => by rw [← (beq_iff_eq.mp e)]; exact h, fun h => ⟨k, h, beq_self_eq_true k⟩⟩
theorem snoc_ind {α : Type} {p : List α → Prop} (h0 : p []) (h1 : ∀ xs x, p xs → p (xs ++ [x])) (xs : List α) : p xs := by
  rw [← List.reverse_reverse xs]
  induction xs.reverse with
  | nil => exact h0
  | cons x ys ih => rw [List.reverse_cons]; exact h1 _ _ ih
theorem dd_mem (xs : List Str) (k : Str) : k ∈ dd xs ↔ k ∈ xs := by
  revert k
  refine snoc_ind (p := fun xs => ∀ k, k ∈ dd xs ↔ k ∈ xs) (fun k => Iff.rfl) (fun xs x ih k => ?_) xs
  rw [dd_snoc, any_mem]
  by_cases h : x ∈ dd xs
  · rw [if_pos (by simpa using h), ih k, List.mem_append]
    exact ⟨.inl, fun z => z.elim id fun z => by rw [List.mem_singleton.mp z]; exact (ih x).mp h⟩
  · rw [if_neg (by simpa using h), List.mem_append, List.mem_append, ih k]
theorem dd_nodup (xs : List Str) : (dd xs).Nodup := by
  refine snoc_ind (p := fun xs => (dd xs).Nodup) List.nodup_nil (fun xs x ih => ?_) xs
  rw [dd_snoc, any_mem]
  by_cases h : x ∈ dd xs
  · rw [if_pos (by simpa using h)]; exact ih
  · rw [if_neg (by simpa using h), List.nodup_append]
    exact ⟨ih, by simp, fun a ha b hb e => h (by rw [← List.mem_singleton.mp hb, ← e]; exact ha)⟩
theorem dd_le (xs : List Str) : (dd xs).length ≤ xs.length := by
  refine snoc_ind (p := fun xs => (dd xs).length ≤ xs.length) (Nat.le_refl _) (fun xs x ih => ?_) xs
  rw [dd_snoc]
  split <;> simp <;> omega
theorem dd_self {xs : List Str} (h : xs.Nodup) : dd xs = xs := by
  revert h
  refine snoc_ind (p := fun xs => xs.Nodup → dd xs = xs) (fun _ => rfl) (fun xs x ih nd => ?_) xs
  rw [List.nodup_append] at nd
  rw [dd_snoc, ih nd.1, any_mem, if_neg]
  simp only [decide_eq_true_eq]
  exact fun z => nd.2.2 x z x (by simp) rfl
theorem dd_len {xs : List Str} : (dd xs).length = xs.length ↔ xs.Nodup := by
  refine ⟨?_, fun h => by rw [dd_self h]⟩
  refine snoc_ind (p := fun xs => (dd xs).length = xs.length → xs.Nodup) (fun _ => List.nodup_nil) (fun xs x ih e => ?_) xs
  rw [dd_snoc, any_mem] at e
  have l := dd_le xs
  by_cases h : x ∈ dd xs
  · rw [if_pos (by simpa using h), List.length_append] at e
    simp at e
    omega
  · rw [if_neg (by simpa using h), List.length_append, List.length_append] at e
    rw [List.nodup_append]
    exact ⟨ih (by simpa using e), by simp, fun a ha b hb z => h (by rw [← List.mem_singleton.mp hb, ← z]; exact (dd_mem xs a).mpr ha)⟩
section
variable {prog : Program} {w : World} {A : Around} {R : Result → Shared → Prop} {It : Addr} {fp wr : List Addr} {G : Array GenState → Array GenState → Prop} {n : Nat} {P : Nat → Value → Prop} {St : Nat → Shared → Prop}
/-- S holds what of xs is met -/
abbrev Met (prog : Program) (w : World) (h : Heap) (S : Addr) (xs : List Str) : Prop := h.SetOf (PySem.strKind prog w) S (fun k => (dd xs).any (· == k)) (dd xs).length
theorem Met.mv {h h' : Heap} {S : Addr} {xs : List Str} (m : Met prog w h S xs) (k : ∀ o, h.get? S = some o → h'.get? S = some o) : Met prog w h' S xs := by
  obtain ⟨o, es, ep, t, ho, r⟩ := m
  exact ⟨o, es, ep, t, k o ho, r⟩
theorem Met.add {h : Heap} {S : Addr} {xs : List Str} {x : Str} (m : h.SetOf (PySem.strKind prog w) S (fun j => (dd xs).any (· == j) || decide (j = x)) (if (dd xs).any (· == x) = true then (dd xs).length else (dd xs).length + 1)) : Met prog w h S (xs ++ [x]) := by
  refine SetOf_congr m (fun j => ?_) ?_
  · rw [any_mem, any_mem, Bool.eq_iff_iff, Bool.or_eq_true, decide_eq_true_eq, decide_eq_true_eq, decide_eq_true_eq, dd_mem, dd_mem, List.mem_append, List.mem_singleton]
  · rw [dd_snoc]
    split <;> simp
theorem loop_strs (W : WalksS prog w A.in1 It fp wr G n P St) (S : Addr) (hS0 : S ∉ fp) (xs : List Str) (hx : xs.length = n) (hb : n + 1 < scanBound) (hv : ∀ i v, P i v → ∃ x t, xs[i]? = some x ∧ v = .str x t) :
    ∀ (r i : Nat) (s : Shared), n - i = r → i ≤ n → St i s → Met prog w s.heap S (xs.take i) → (∀ s', Moved (S :: wr) G s s' → Met prog w s'.heap S xs → R (.ok (.ret .none)) s') →
      codeAny (model prog w) A (.builtin "set.update.loop" ⟨[.ref S, .ref It], []⟩) R s
  | 0, i, s, hr, hi, hst, hm, fin => by
    obtain rfl : i = n := by omega
    refine codeAny_builtin PyProof.Rows.F.entry_set_update_loop ?_; rw [Around.under_plainId PyProof.Rows.F.plain_set_update_loop _]
    refine wpAny_bind (f := fun _ => _) (W.done s _ _ hst fun s' mv => wpAny_pure (fin s' (mv.mono fun b z => List.mem_cons_of_mem _ z) ?_))
    rw [List.take_of_length_le (by omega)] at hm
    exact hm.mv fun o e => mv.heap S o (fun z => hS0 (W.sub _ z)) e
  | r + 1, i, s, hr, hi, hst, hm, fin => by
    have lt : i < n := by omega
    refine codeAny_builtin PyProof.Rows.F.entry_set_update_loop ?_; rw [Around.under_plainId PyProof.Rows.F.plain_set_update_loop _]
    refine wpAny_bind (f := fun _ => _) (W.item i s _ _ lt hst fun v s' hP hst' mv => ?_)
    obtain ⟨x, t, ex, rfl⟩ := hv i v hP
    have htk : xs.take (i + 1) = xs.take i ++ [x] := by rw [List.take_succ, ex]; rfl
    have hm' : Met prog w s'.heap S (xs.take i) := hm.mv fun o e => mv.heap S o (fun z => hS0 (W.sub _ z)) e
    refine wpAny_bind (f := fun _ => _) (wpAny_holding ?_); unfold setAdd; refine wpAny_holding (wpAny_bind ((PySem.strKind prog w).pyHash (k := x) (strKind_is _ _ _ _) ?_))
    have room : (dd (xs.take i)).length + 1 < scanBound := by
      have := dd_le (xs.take i)
      rw [List.length_take] at this
      omega
    refine wpAny_setAddHashed_of (knd := PySem.strKind prog w) (s := { s' with toks := s'.toks + 1 }) (strKind_is _ _ _ _) rfl hm' room fun h' sb hm2 => ?_
    refine wpAny_pure ⟨plainId_quiet PyProof.Rows.F.plain_set_update_loop _, loop_strs W S hS0 xs hx hb hv r (i + 1) _ (by omega) lt (W.frame _ s' _ _ hst' (Nat.le_succ _) fun b z o e => ?_) ?_ fun s2 mv2 m2 => fin s2 ?_ m2⟩
    · rw [sb.2 b fun y => hS0 (y ▸ z)]; exact e
    · rw [htk]; exact Met.add hm2
    · exact Moved.trans W.gtrans ((mv.mono fun b z => List.mem_cons_of_mem _ z).then_heap (Nat.le_succ _) fun b o z e => by rw [sb.2 b fun y => z (y ▸ List.mem_cons_self)]; exact e) mv2
end
section
variable {prog : Program} {w : World} {A : Around} {E : Value → Shared → Prop} {s : Shared}
/-- an empty set -/
abbrev so (b : Bool) : Obj := { cls := .type "set", dict := none, data := .set #[] 0 (.fresh 0 0 b) }

theorem set_of_lists {l : Addr} {its : Array Value} {xs : List Str} {Q : Value → Shared → Prop} (hh : A.handled = none) (hl : s.heap.IsList l its) (hi : StrsAre its.toList xs) (hb : xs.length + 1 < scanBound)
    (fin : ∀ (h' : Heap) (tk : Nat), Met prog w h' s.heap.objs.size xs → (∀ b o, b < s.heap.objs.size → s.heap.get? b = some o → h'.get? b = some o) → Q (.ref s.heap.objs.size) { s with heap := h', toks := tk }) : wpAny (model prog w) A (call (.type "set") [.ref l]) Q E s := by
  have ⟨c, tl, m1⟩ := PySem.F.called_set.mro; have m2 := PySem.F.called_set.made; have m3 := PySem.F.called_set.sub
  refine wpAny_call (codeAny_of_tree ?_); show wpAny _ _ (callAny (.type "set") _) _ _ _
  refine wpAny_pure ⟨Code.quiet_builtin _ (by decide +kernel), codeAny_builtin PySem.F.entry_type_call ?_⟩; rw [Around.under_plain (weight_type_call_type "set" [.ref l] []) rfl]
  have m4 := PySem.F.called_set.notType; have m5 := PySem.F.called_set.canCreate; have m6 := PySem.F.typeCall_set_1 (.ref l)
  repeat (any_goals (first | assumption | wp_step))
  refine codeAny_mono (code_set_new_1 (.ref l) (E := E) (Q₁ := fun z s1 => ∃ b, z = .ref s.heap.objs.size ∧ s1 = { s with heap := s.heap.push (so b) }) fun b => ⟨b, rfl, rfl⟩) fun r s1 hr => ?_
  match r, hr with
  | .error e, hr => exact hr
  | .ok (.ret z), hr =>
    obtain ⟨b, rfl, rfl⟩ := hr
    have at1 : (s.heap.push (so b)).get? s.heap.objs.size = some (so b) := Heap.get?_push_size _ rfl
    have ty1 : Shared.TypeIs { s with heap := s.heap.push (so b) } (.ref s.heap.objs.size) "set" := ⟨_, at1, rfl⟩
    have m7 := PySem.F.called_set.init.lookup; have m8 := PySem.F.called_set.init.bind (.ref s.heap.objs.size)
    repeat (any_goals (first | assumption | wp_step))
    refine codeAny_mono (codeAny_call_builtin (R := wants (fun r s2 => r = .none ∧ ∃ h' tk, s2 = { s with heap := h', toks := tk } ∧ Met prog w h' s.heap.objs.size xs ∧ ∀ b o, b < s.heap.objs.size → s.heap.get? b = some o → h'.get? b = some o) E) PySem.F.called_set.init.plain PySem.F.entry_set_init (check_set_init_1 ty1 ?_)) fun r2 s2 h2 => ?_
    · obtain ⟨⟨oc, od, oo, os⟩, g1, g2, nl, g3⟩ := hl
      simp only at g2 g3; subst g2; subst g3
      have at2 : (s.heap.push (so b)).get? l = some { cls := .type "list", dict := od, data := .seq its nl, slots := os } := Heap.get?_push_of_some _ g1
      have n1 := PySem.F.sub_list_set; have n2 := PySem.F.sub_list_frozenset; have n3 : (Value.type "list" == Value.type "dict") = false := by decide
      have il : (s.heap.push (so b)).IsList l its := ⟨_, at2, rfl, nl, rfl⟩
      unfold Builtin.«set.__init__» noKeywords Builtin.Frozenset.updateFrom
      generalize e0 : pyIter = PI
      wp_walk
      subst e0
      refine wpAny_pyIter_list il (wpAny_bind (wpAny_runValue ?_))
      have ls : l < s.heap.objs.size := Heap.lt_size g1
      have h3 : A.in1.in1.in1.handled = none := by simp [hh]
      have sz : (s.heap.push (so b)).objs.size = s.heap.objs.size + 1 := Heap.size_push _ _
      have ne : l ≠ (s.heap.push (so b)).objs.size := by rw [sz]; exact Nat.ne_of_lt (Nat.lt_succ_of_lt ls)
      have out : s.heap.objs.size ∉ [(s.heap.push (so b)).objs.size, l] := by
        rw [sz, List.mem_cons, List.mem_singleton, not_or]
        exact ⟨Nat.ne_of_lt (Nat.lt_succ_self _), Nat.ne_of_gt ls⟩
      have xl : xs.length = its.size := by rw [← StrsAre.len_eq hi, Array.length_toList]
      refine loop_strs ((Walks.list h3 _ l ne its).toS) s.heap.objs.size out xs xl (by omega) (fun i v hv => ?_) (its.size - 0) 0 _ rfl (Nat.zero_le _) ⟨⟨_, Heap.get?_push_size _ rfl, rfl, rfl⟩, (il.push _)⟩ ?_ fun s' mv m => ?_
      · have hv' : its.toList[i]? = some v := by rw [Array.getElem?_toList]; exact hv
        obtain ⟨t, e⟩ := SS.strs_at hi i v hv'
        have hx : i < xs.length := by
          rw [xl, ← Array.length_toList]
          exact (List.getElem?_eq_some_iff.mp hv').1
        exact ⟨xs[i], t, List.getElem?_eq_getElem hx, by rw [e, List.getD_eq_getElem?_getD, List.getElem?_eq_getElem hx]; rfl⟩
      · exact SetOf_congr ((PyProof.Rows.setObjOf_fresh (knd := PySem.strKind prog w) b).setOf (Heap.get?_push_of_some _ at1) (by unfold scanBound; omega)) (fun _ => rfl) rfl
      · obtain ⟨h', g', d', tk', os'⟩ := s'
        obtain rfl : g' = s.gens := mv.gens
        obtain rfl : d' = s.drawn := mv.drawn
        obtain rfl : os' = s.os := mv.os
        refine wpAny_pure (wpAny_pure ⟨rfl, h', tk', rfl, m, fun b2 o hb2 e => ?_⟩)
        exact mv.heap b2 o (by
          rw [sz, List.mem_cons, List.mem_cons, not_or, not_or]
          exact ⟨Nat.ne_of_lt hb2, Nat.ne_of_lt (Nat.lt_succ_of_lt hb2), List.not_mem_nil⟩) (Heap.get?_push_of_some _ (Heap.get?_push_of_some _ e))
    · match r2, h2 with
      | .error e, h2 => exact h2
      | .ok (.ret _), h2 =>
        obtain ⟨rfl, h', tk, rfl, m, k⟩ := h2
        repeat (any_goals (first | assumption | wp_step))
        exact fin _ _ m k

theorem set_of_tuples {l : Addr} {its : Array Value} {xs : List Str} {Q : Value → Shared → Prop} (hh : A.handled = none) (hl : s.heap.IsTuple l its) (hi : StrsAre its.toList xs) (hb : xs.length + 1 < scanBound)
    (fin : ∀ (h' : Heap) (tk : Nat), Met prog w h' s.heap.objs.size xs → (∀ b o, b < s.heap.objs.size → s.heap.get? b = some o → h'.get? b = some o) → Q (.ref s.heap.objs.size) { s with heap := h', toks := tk }) : wpAny (model prog w) A (call (.type "set") [.ref l]) Q E s := by
  have ⟨c, tl, m1⟩ := PySem.F.called_set.mro; have m2 := PySem.F.called_set.made; have m3 := PySem.F.called_set.sub
  refine wpAny_call (codeAny_of_tree ?_); show wpAny _ _ (callAny (.type "set") _) _ _ _
  refine wpAny_pure ⟨Code.quiet_builtin _ (by decide +kernel), codeAny_builtin PySem.F.entry_type_call ?_⟩; rw [Around.under_plain (weight_type_call_type "set" [.ref l] []) rfl]
  have m4 := PySem.F.called_set.notType; have m5 := PySem.F.called_set.canCreate; have m6 := PySem.F.typeCall_set_1 (.ref l)
  repeat (any_goals (first | assumption | wp_step))
  refine codeAny_mono (code_set_new_1 (.ref l) (E := E) (Q₁ := fun z s1 => ∃ b, z = .ref s.heap.objs.size ∧ s1 = { s with heap := s.heap.push (so b) }) fun b => ⟨b, rfl, rfl⟩) fun r s1 hr => ?_
  match r, hr with
  | .error e, hr => exact hr
  | .ok (.ret z), hr =>
    obtain ⟨b, rfl, rfl⟩ := hr
    have at1 : (s.heap.push (so b)).get? s.heap.objs.size = some (so b) := Heap.get?_push_size _ rfl
    have ty1 : Shared.TypeIs { s with heap := s.heap.push (so b) } (.ref s.heap.objs.size) "set" := ⟨_, at1, rfl⟩
    have m7 := PySem.F.called_set.init.lookup; have m8 := PySem.F.called_set.init.bind (.ref s.heap.objs.size)
    repeat (any_goals (first | assumption | wp_step))
    refine codeAny_mono (codeAny_call_builtin (R := wants (fun r s2 => r = .none ∧ ∃ h' tk, s2 = { s with heap := h', toks := tk } ∧ Met prog w h' s.heap.objs.size xs ∧ ∀ b o, b < s.heap.objs.size → s.heap.get? b = some o → h'.get? b = some o) E) PySem.F.called_set.init.plain PySem.F.entry_set_init (check_set_init_1 ty1 ?_)) fun r2 s2 h2 => ?_
    · obtain ⟨⟨oc, od, oo, os⟩, g1, g2, nl, g3⟩ := hl
      simp only at g2 g3; subst g2; subst g3
      have at2 : (s.heap.push (so b)).get? l = some { cls := .type "tuple", dict := od, data := .seq its nl, slots := os } := Heap.get?_push_of_some _ g1
      have n1 := PySem.F.sub_tuple_set; have n2 := PySem.F.sub_tuple_frozenset; have n3 : (Value.type "tuple" == Value.type "dict") = false := by decide
      have il : (s.heap.push (so b)).IsTuple l its := ⟨_, at2, rfl, nl, rfl⟩
      unfold Builtin.«set.__init__» noKeywords Builtin.Frozenset.updateFrom
      generalize e0 : pyIter = PI
      wp_walk
      subst e0
      refine wpAny_pyIter_tuple il (wpAny_bind (wpAny_runValue ?_))
      have ls : l < s.heap.objs.size := Heap.lt_size g1
      have h3 : A.in1.in1.in1.handled = none := by simp [hh]
      have sz : (s.heap.push (so b)).objs.size = s.heap.objs.size + 1 := Heap.size_push _ _
      have ne : l ≠ (s.heap.push (so b)).objs.size := by rw [sz]; exact Nat.ne_of_lt (Nat.lt_succ_of_lt ls)
      have out : s.heap.objs.size ∉ [(s.heap.push (so b)).objs.size, l] := by
        rw [sz, List.mem_cons, List.mem_singleton, not_or]
        exact ⟨Nat.ne_of_lt (Nat.lt_succ_self _), Nat.ne_of_gt ls⟩
      have xl : xs.length = its.size := by rw [← StrsAre.len_eq hi, Array.length_toList]
      refine loop_strs ((Walks.tuple h3 _ l ne its).toS) s.heap.objs.size out xs xl (by omega) (fun i v hv => ?_) (its.size - 0) 0 _ rfl (Nat.zero_le _) ⟨⟨_, Heap.get?_push_size _ rfl, rfl, rfl⟩, (il.push _)⟩ ?_ fun s' mv m => ?_
      · have hv' : its.toList[i]? = some v := by rw [Array.getElem?_toList]; exact hv
        obtain ⟨t, e⟩ := SS.strs_at hi i v hv'
        have hx : i < xs.length := by
          rw [xl, ← Array.length_toList]
          exact (List.getElem?_eq_some_iff.mp hv').1
        exact ⟨xs[i], t, List.getElem?_eq_getElem hx, by rw [e, List.getD_eq_getElem?_getD, List.getElem?_eq_getElem hx]; rfl⟩
      · exact SetOf_congr ((PyProof.Rows.setObjOf_fresh (knd := PySem.strKind prog w) b).setOf (Heap.get?_push_of_some _ at1) (by unfold scanBound; omega)) (fun _ => rfl) rfl
      · obtain ⟨h', g', d', tk', os'⟩ := s'
        obtain rfl : g' = s.gens := mv.gens
        obtain rfl : d' = s.drawn := mv.drawn
        obtain rfl : os' = s.os := mv.os
        refine wpAny_pure (wpAny_pure ⟨rfl, h', tk', rfl, m, fun b2 o hb2 e => ?_⟩)
        exact mv.heap b2 o (by
          rw [sz, List.mem_cons, List.mem_cons, not_or, not_or]
          exact ⟨Nat.ne_of_lt hb2, Nat.ne_of_lt (Nat.lt_succ_of_lt hb2), List.not_mem_nil⟩) (Heap.get?_push_of_some _ (Heap.get?_push_of_some _ e))
    · match r2, h2 with
      | .error e, h2 => exact h2
      | .ok (.ret _), h2 =>
        obtain ⟨rfl, h', tk, rfl, m, k⟩ := h2
        repeat (any_goals (first | assumption | wp_step))
        exact fin _ _ m k
end
/-! ### len(set(xs)), xs a list or a tuple of texts -/
def tLenS (K : PySem.W.Frag) (ta : TE) : TE := fun σ H Q => ta σ H fun x H1 => ∃ l, ∃ xs : List Str, x = .ref l ∧ (SqL K H1 l (xs.map V.str) ∨ SqT K H1 l (xs.map V.str)) ∧ xs.length < 4000 ∧ Q (.int (dd xs).length) H1
section
variable {X : Cx}
theorem pe_lenS {a : Expr} {ta : TE} {p1 p2 p3 p4 : Pos} (hc : X.calm = true) (g1 : Gl X "len") (m1 : X.mg "len" = none) (g2 : Gl X "set") (m2 : X.mg "set" = none) (ha : PE X a ta) (na : starEach [a] X.env = (false, eval a X.env) :: starEach [] X.env := by rfl) : PE X (.Call (.Name "len" p1) [.Call (.Name "set" p2) [a] [] p3] [] p4) (tLenS X.K ta) := by
  refine ⟨fun pins s σ H Q I h => Call_ (ld_blt I g1 m1 boot_len (PyProof.Rows.callWith_builtin1 (PyProof.Rows.args_cons (Call_ (ld_blt I g2 m2 boot_set (PyProof.Rows.callWith_type1 (PyProof.Rows.args_cons (thn (ha.run pins s σ H _ I h) fun v s1 ⟨x, H1, I1, r1, q1⟩ => PyProof.Rows.args_nil ?_) na) na rfl))) rfl) rfl rfl))⟩
  obtain ⟨l, xs, rfl, hq, hl, q⟩ := q1
  cases r1
  have hb : xs.length + 1 < scanBound := by unfold scanBound; omega
  have fin : ∀ (h' : Heap) (tk : Nat), Met X.prog X.w h' s1.heap.objs.size xs → (∀ b o, b < s1.heap.objs.size → s1.heap.get? b = some o → h'.get? b = some o) →
      wpAny (model X.prog X.w) X.A (spliced (backTo p4 (starEach [] X.env))) (fun vs s2 => wpAny (model X.prog X.w) X.A (call (.builtin "len") (Value.ref s1.heap.objs.size :: vs)) (EP X pins σ Q) X.xe s2) X.xe { s1 with heap := h', toks := tk } := fun h' tk m k => by
    obtain ⟨o, es, ep, t, ho, hex, hd, _, _, _, hf, hn⟩ := m
    have I2 : Inv X pins σ H1 { s1 with heap := h', toks := tk } := I1.kept fun b o e => k b o (Heap.lt_size e) e
    have := dd_le xs
    exact PyProof.Rows.args_nil (call_len_set ho hex hd hf (by rw [hn] <;> omega) ⟨.int (dd xs).length, H1, I2.tok _, ⟨_, by rw [hn]⟩, q⟩)
  rcases hq with hq | hq
  · obtain ⟨its, r, pl, _⟩ := I1.list hq
    exact set_of_lists (I1.ok.hd hc) pl.isList (by simpa using strsAre_of r) hb fun h' tk m k => fin h' tk m k
  · obtain ⟨its, r, pl, _⟩ := I1.tuple hq
    exact set_of_tuples (I1.ok.hd hc) pl (by simpa using strsAre_of r) hb fun h' tk m k => fin h' tk m k
end
def fLenS : List T → (T → Prop) → Prop
  | [.nd _ .lst xs], P => ∃ ys : List Str, xs = ys.map (fun i => T.lf (.str i)) ∧ ys.length < 4000 ∧ P (.lf (.int (dd ys).length))
  | [.nd _ .tup xs], P => ∃ ys : List Str, xs = ys.map (fun i => T.lf (.str i)) ∧ ys.length < 4000 ∧ P (.lf (.int (dd ys).length))
  | _, _ => False
theorem os_lenS {K : PySem.W.Frag} : OpS K fLenS (r1 fun x H Q => ∃ l, ∃ xs : List Str, x = .ref l ∧ (SqL K H l (xs.map V.str) ∨ SqT K H l (xs.map V.str)) ∧ xs.length < 4000 ∧ Q (.int (dd xs).length) H) := by
  intro S H ts vs P Q s rr d k
  unfold fLenS at d
  split at d
  · obtain ⟨x, _, rfl, rx, rfl⟩ := rr
    obtain ⟨a, vs, rfl, ea, ka⟩ := rx.lst s
    obtain ⟨ys, rfl, hl, d⟩ := d
    have := kids_strs ka
    subst this
    exact ⟨a, ys, rfl, .inl (.of ea), hl, fin_lf s k d⟩
  · obtain ⟨x, _, rfl, rx, rfl⟩ := rr
    obtain ⟨a, vs, rfl, ea, ka⟩ := rx.tup s
    obtain ⟨ys, rfl, hl, d⟩ := d
    have := kids_strs ka
    subst this
    exact ⟨a, ys, rfl, .inr (.of ea), hl, fin_lf s k d⟩
  · exact d.elim
section
variable {X : Cx} {W : Wc}
theorem t_lenS {e : Expr} {o1 : Od} {p1 p2 p3 p4 : Pos} (hc : X.calm = true) (g1 : Gl X "len") (m1 : X.mg "len" = none) (g2 : Gl X "set") (m2 : X.mg "set" = none) (h : TPO X W e o1) (na : starEach [e] X.env = (false, eval e X.env) :: starEach [] X.env := by rfl) : TPE X W (.Call (.Name "len" p1) [.Call (.Name "set" p2) [e] [] p3] [] p4) (dOp fLenS [o1]) := by
  obtain ⟨te, a1, a2⟩ := h
  exact ⟨_, pe_lenS hc g1 m1 g2 m2 a1 na, se_op (r := r1 fun x H Q => ∃ l, ∃ xs : List Str, x = .ref l ∧ (SqL X.K H l (xs.map V.str) ∨ SqT X.K H l (xs.map V.str)) ∧ xs.length < 4000 ∧ Q (.int (dd xs).length) H) (sl_cons a2 sl_nil) os_lenS⟩
end
end Tr

set_option Elab.async false
set_option linter.all false
set_option maxRecDepth 100000
set_option maxHeartbeats 1000000
set_option autoImplicit false
namespace Cm
open PySem PySem.Spec PyProof.Rows L2
/-! ### the head's facts, one Bool more, and tables with text keys -/
abbrev AlBT : Type := AlB × List (Option (List (Option (Str × Int))))
def obsBT (n : Nat) (fa : List He.Fa) (fn : List He.DefD) (ex : PySem.W.Frag → Bool) (ts : List He.Tab) (g : Addr → Option Obj) : AlBT := (obsB n fa fn ex g, ts.map fun t => He.dicW (He.frG g (He.asD g n)) (t.1 (He.frG g (He.asD g n))))
def valBT (fn : List He.DefD) (ts : List He.Tab) (w : World) : AlBT := ((He.valD fn, true), ts.map fun t => some (He.keysIn w.params t.2))
def SaysBT (ts : List He.Tab) (w : World) (K : PySem.W.Frag) : Prop := (ts.map fun t => He.dicW K (t.1 K)) = ts.map fun t => some (He.keysIn w.params t.2)
def hookBT (n : Nat) (fa : List He.Fa) (fn : List He.DefD) (ex : PySem.W.Frag → Bool) (ts : List He.Tab) : PySem.W.Hook where
  α := AlBT
  obs := fun s => obsBT n fa fn ex ts s.heap.get?
  val := fun w => valBT fn ts w
  says := fun w h => ∃ K : PySem.W.Frag, K.In h ∧ (He.SaysD fa fn K ∧ ex K = true) ∧ SaysBT ts w K
  of := fun _ _ e => ⟨_, He.frG_in, ⟨congrArg (fun z : AlBT => z.1.1) e, congrArg (fun z : AlBT => z.1.2) e⟩, congrArg (fun z : AlBT => z.2) e⟩
  keeps := fun _ _ _ ⟨K, hK, c⟩ k => ⟨K, PySem.W.Frag.In.keeps hK k, c⟩
theorem obsBT_eq {n : Nat} {fa : List He.Fa} {fn : List He.DefD} {ex : PySem.W.Frag → Bool} {ts : List He.Tab} {g : Addr → Option Obj} {s : Shared} (h : ∀ a, g a = s.heap.get? a) : obsBT n fa fn ex ts g = (hookBT n fa fn ex ts).obs s := by
  have e : g = s.heap.get? := funext h
  rw [e] <;> rfl
theorem SaysBT.tab {ts : List He.Tab} {w : World} {K : PySem.W.Frag} (c : SaysBT ts w K) (i : Nat) {t : He.Tab} (h : ts[i]? = some t := by rfl) : ∃ es n, KDict K w (t.1 K) es n := by
  have e2 : (ts.map fun t => He.dicW K (t.1 K))[i]? = (ts.map fun t => some (He.keysIn w.params t.2))[i]? := congrArg (fun z => z[i]?) c
  rw [List.getElem?_map, List.getElem?_map, h] at e2
  exact He.dicW_ok (Option.some.inj e2)
/-! ### what a table holds -/
/-- a value that is a number, or a tuple of texts -/
inductive Tv where | int (i : Int) | tx (xs : List Str)
  deriving DecidableEq
def keyS (e : DictEntry) : Option Str := match e.key with
  | .str x _ => some x
  | _ => none
def strsV : List Value → Option (List Str)
  | [] => some []
  | .str x _ :: vs => (strsV vs).map (x :: ·)
  | _ :: _ => none
def tvB (K : PySem.W.Frag) : Value → Tv → Bool
  | .int i _, .int j => decide (i = j)
  | .ref p, .tx xs => (match K.lookup p with
    | some ⟨.type c, _, .seq its _, _⟩ => decide (c = "tuple") && (decide (its.size ≤ sizeLine) && decide (strsV its.toList = some xs))
    | _ => false)
  | _, _ => false
def entsB (K : PySem.W.Frag) : List DictEntry → List (Str × Tv) → Bool
  | [], [] => true
  | e :: es, (k, v) :: kvs => decide (keyS e = some k) && (tvB K e.val v && entsB K es kvs)
  | _, _ => false
def dictB (K : PySem.W.Frag) (d : Str) (kvs : List (Str × Tv)) : Bool := match K.lookup (He.ga K d) with
  | some ⟨_, _, .dict es _, _⟩ => entsB K es.toList kvs
  | _ => false
theorem isStr_key {e : DictEntry} {k z : Str} (h : keyS e = some k) : e.key.isStr z = (k == z) ∧ e.refKey = false := by
  unfold keyS at h
  unfold DictEntry.refKey
  split at h
  · rename_i x t q
    cases h
    rw [q]
    exact ⟨rfl, rfl⟩
  · cases h
theorem ents_ok {K : PySem.W.Frag} {z : Str} : ∀ {es : List DictEntry} {kvs : List (Str × Tv)}, entsB K es kvs = true → es.any (·.refKey) = false ∧ (kvs.lookup z = none → es.find? (·.key.isStr z) = none) ∧ ∀ v, kvs.lookup z = some v → ∃ e, es.find? (·.key.isStr z) = some e ∧ tvB K e.val v = true
  | [], [], _ => ⟨rfl, fun _ => rfl, fun v h => by cases h⟩
  | [], _ :: _, h => by cases h
  | _ :: _, [], h => by cases h
  | e :: es, (k, v) :: kvs, h => by
    obtain ⟨h1, h2⟩ := He.ba (show (decide (keyS e = some k) && (tvB K e.val v && entsB K es kvs)) = true from h)
    obtain ⟨h3, h4⟩ := He.ba h2
    obtain ⟨i1, i2, i3⟩ := ents_ok (z := z) h4
    obtain ⟨g1, g2⟩ := isStr_key (z := z) (of_decide_eq_true h1)
    refine ⟨by rw [List.any_cons, g2, i1]; rfl, fun h => ?_, fun w h => ?_⟩
    · rw [List.lookup_cons] at h
      cases q : z == k with
      | true => rw [q] at h; cases h
      | false =>
        rw [q] at h
        have q2 : (k == z) = false := by
          rw [← q]
          exact Bool.eq_iff_iff.mpr ⟨fun z => by rw [beq_iff_eq] at z ⊢; exact z.symm, fun z => by rw [beq_iff_eq] at z ⊢; exact z.symm⟩
        rw [List.find?_cons, g1, q2]
        exact i2 h
    · rw [List.lookup_cons] at h
      cases q : z == k with
      | true =>
        rw [q] at h
        cases h
        have : k = z := (beq_iff_eq.mp q).symm
        subst this
        exact ⟨e, by rw [List.find?_cons, g1, beq_self_eq_true], h3⟩
      | false =>
        rw [q] at h
        have q2 : (k == z) = false := by
          rw [← q]
          exact Bool.eq_iff_iff.mpr ⟨fun z => by rw [beq_iff_eq] at z ⊢; exact z.symm, fun z => by rw [beq_iff_eq] at z ⊢; exact z.symm⟩
        rw [List.find?_cons, g1, q2]
        exact i3 w h
theorem dictB_ok {K : PySem.W.Frag} {d : Str} {kvs : List (Str × Tv)} (h : dictB K d kvs = true) (z : Str) : (kvs.lookup z = none → PySem.W.nsIn K (He.ga K d) z = some none) ∧ ∀ v, kvs.lookup z = some v → ∃ u, PySem.W.nsIn K (He.ga K d) z = some (some u) ∧ tvB K u v = true := by
  unfold dictB at h
  split at h
  · rename_i x1 x2 es x3 x4 q
    obtain ⟨i1, i2, i3⟩ := ents_ok (z := z) h
    refine ⟨fun e => ?_, fun v e => ?_⟩
    · unfold PySem.W.nsIn
      rw [q]
      simp only [i2 e, i1, Bool.false_eq_true, if_false]
    · obtain ⟨en, e1, e2⟩ := i3 v e
      refine ⟨en.val, ?_, e2⟩
      unfold PySem.W.nsIn
      rw [q]
      simp only [e1]
  · cases h
theorem strsV_ok : ∀ {vs : List Value} {xs : List Str}, strsV vs = some xs → Vals (xs.map V.str) vs
  | [], xs, h => by cases h; exact .nil
  | .str x t :: vs, xs, h => by
    have h : (strsV vs).map (x :: ·) = some xs := h
    cases q : strsV vs with
    | none => rw [q] at h; cases h
    | some ys =>
      rw [q] at h
      cases h
      exact .cons ⟨t, rfl⟩ (strsV_ok q)
  | .none :: _, _, h => by cases h
  | .bool _ :: _, _, h => by cases h
  | .int _ _ :: _, _, h => by cases h
  | .ref _ :: _, _, h => by cases h
theorem tvB_int {K : PySem.W.Frag} {u : Value} {i : Int} (h : tvB K u (.int i) = true) : RelV (.int i) u := by
  unfold tvB at h
  split at h
  · rename_i j t k e
    cases e
    obtain rfl : j = i := of_decide_eq_true h
    exact ⟨t, rfl⟩
  · rename_i e; cases e
  · cases h
theorem tvB_strs {K : PySem.W.Frag} {u : Value} {xs : List Str} (h : tvB K u (.tx xs) = true) : ∃ p, u = .ref p ∧ ∀ H, SqT K H p (xs.map V.str) := by
  unfold tvB at h
  split at h
  · rename_i e; cases e
  · rename_i p ys e
    cases e
    refine ⟨p, rfl, fun H => ?_⟩
    split at h
    · rename_i c x2 its x3 x4 q
      obtain ⟨h1, h2⟩ := He.ba h
      obtain ⟨h3, h4⟩ := He.ba h2
      exact .inr ⟨_, its, _, q, congrArg Value.type (of_decide_eq_true h1), rfl, of_decide_eq_true h3, strsV_ok (of_decide_eq_true h4)⟩
    · cases h
  · cases h
end Cm
namespace Tr
open PySem PySem.Spec PyProof.Rows L2 Cm
local macro_rules | `(tactic| walk_at "vis") => `(tactic| (first | exact Or.inl rfl | exact Or.inr (Or.inl rfl) | exact Or.inr (Or.inr rfl)))
local macro_rules | `(tactic| walk_at "loc") => `(tactic| (first | exact Or.inl rfl | exact Or.inr rfl))
/-! ### zip of tuples -/
theorem walk_zipT {K : PySem.W.Frag} {a b : Addr} {xs ys : List V} {n : Nat} (hn : n = min xs.length ys.length) : Walk (RZ.ItzT K a b) n (fun H => SqT K H a xs ∧ SqT K H b ys) (YPair (fun i => xs[i]?) (fun i => ys[i]?)) := by
  subst hn
  refine ⟨fun i _ hi q => ⟨xs, ys, xs[i]'(by omega), ys[i]'(by omega), q.1, q.2, List.getElem?_eq_getElem _, List.getElem?_eq_getElem _⟩, fun _ q => ⟨xs, ys, q.1, q.2, by omega⟩, fun i H v H' _ q y => ?_⟩
  obtain ⟨T, x, z, e1, e2, e3, e4, e5⟩ := y
  exact ⟨T, x, z, e1, e2, e3, e4 xs q.1, e5 ys q.2⟩
theorem tupl_le {K : PySem.W.Frag} {S S' : Hp} {a : Addr} {vs : List V} (s : Sle S S') (h : SqT K S a vs) : SqT K S' a vs := by
  rcases h with (h | ⟨o, h⟩) | h
  · exact .inl (.inl (s.at h fun z => z))
  · exact .inl (.inr ⟨o, s.at h fun z => z⟩)
  · exact .inr h
theorem tupl_sm {K : PySem.W.Frag} {S S' : Hp} {a : Addr} {vs : List V} (s : Same S S') (h : SqT K S a vs) : SqT K S' a vs := tupl_le (Sle.of s) h
theorem wk_zipT {K : PySem.W.Frag} {S : Hp} {a b : Addr} {vs ws : List V} {ts us : List T} (h : SqT K S a vs) (h' : SqT K S b ws) (hl : ts.length = vs.length) (hl' : us.length = ws.length) (r : ∀ (i : Nat) (t : T) (v : V), ts[i]? = some t → vs[i]? = some v → R K S S t v no) (r' : ∀ (i : Nat) (t : T) (v : V), us[i]? = some t → ws[i]? = some v → R K S S t v no) : Wk K S (RZ.ItzT K a b) (zipF ts us) := by
  refine ⟨fun H => SqT K H a vs ∧ SqT K H b ws, _, by rw [zipF_len]; exact walk_zipT (xs := vs) (ys := ws) (by rw [hl, hl']), fun S' H s1 s => ⟨tupl_sm s (tupl_le s1 h), tupl_sm s (tupl_le s1 h')⟩, fun i H x H' t e y => ?_⟩
  obtain ⟨t0, t1, e0, e1, rfl⟩ := zipF_at e
  obtain ⟨q, x1, y1, rfl, hq, rfl, f1, f2⟩ := y
  refine ⟨fun a => a = q, fun b hb => by subst hb; exact ⟨hq, by rw [upd_same]; simp⟩, Same.new hq, fun S' s1 s2 => ?_⟩
  exact (pair_R (K := K) (S := S') (H := H) hq ((r i t0 x1 e0 f1).mono (H' := H) s1 (fun _ _ h => h.elim) fun _ h => h) ((r' i t1 y1 e1 f2).mono (H' := H) s1 (fun _ _ h => h.elim) fun _ h => h)).2.2
def tupOf : T → Option (List T)
  | .nd _ .tup xs => some xs
  | .nd _ .tpk xs => some xs
  | _ => none
theorem tup_fz {K : PySem.W.Frag} {S H : Hp} {t : T} {v : V} {xs : List T} (h : tupOf t = some xs) (r : R K S H t v no) : ∃ a vs, v = .ref a ∧ SqT K S a vs ∧ xs.length = vs.length ∧ ∀ (i : Nat) (t : T) (v : V), xs[i]? = some t → vs[i]? = some v → R K S S t v no := by
  cases r with
  | lf => cases h
  | own _ hD => exact hD.elim
  | @fz a kd ys vs _ hk hn hl h3 =>
    cases kd with
    | tup => cases h; exact ⟨a, vs, rfl, .of hk, hl, fun i t v e1 e2 => (h3 i t v e1 e2).mono (.refl _) (fun _ _ h => h.elim) fun _ h => h⟩
    | tpk => cases h; exact ⟨a, vs, rfl, hk, hl, fun i t v e1 e2 => (h3 i t v e1 e2).mono (.refl _) (fun _ _ h => h.elim) fun _ h => h⟩
    | _ => cases h
def dZipT (da : DA) : DI := fun env P Ex => da env (fun ts env' => ∃ t u xs ys, ts = [t, u] ∧ tupOf t.fz = some xs ∧ tupOf u.fz = some ys ∧ P (zipF xs ys) env') Ex
section
variable {X : Cx} {W : Wc} {e e2 : Expr} {da : DA} {ms : List (Option Nat)} {p pos tpos : Pos} {elts : List Expr} {kk : Nat}
theorem i_zipT (hg : Gl X "zip") (hm : X.mg "zip" = none) (ha : TPA X W ms [e, e2] da) (hs : starEach [e, e2] X.env = (false, eval e X.env) :: starEach [e2] X.env := by rfl) (hpl : (backTo pos (starEach [e2] X.env)).any (·.1) = false := by rfl) : TPI X W (.Tuple elts kk tpos) (.Call (.Name "zip" p) [e, e2] [] pos) (dZipT da) := by
  obtain ⟨ta, a1, a2⟩ := ha
  refine ⟨_, RZ.pi_zipA hg hm a1 hs hpl, fun S D H σ env Q P Ex o r d k x => a2 S D H σ env _ _ Ex o r d (fun S' D' H' env' ts vs n rzs _ ⟨t, u, xs, ys, e1, e2, e3, p⟩ => ?_) x⟩
  subst e1
  obtain ⟨S2, D2, n2, r2, hl, kids⟩ := rzs.frz n.ok
  rcases vs with _ | ⟨v, _ | ⟨w, _ | ⟨z, vs⟩⟩⟩ <;> simp at hl
  obtain ⟨a, ws, rfl, hq, hl2, kd⟩ := tup_fz e2 (kids 0 t v rfl rfl)
  obtain ⟨b, ws', rfl, hq', hl2', kd'⟩ := tup_fz e3 (kids 1 u w rfl rfl)
  exact ⟨a, b, ws, ws', rfl, .inr ⟨tupl_sm n2.ok.sub hq, tupl_sm n2.ok.sub hq', k _ _ _ _ _ _ (Nxt.trans o n n2) r2 (wk_zipT hq hq' hl2 hl2' kd kd') p⟩⟩
end
/-! ### tables with text keys -/
def tvT : Tv → T
  | .int i => .lf (.int i)
  | .tx xs => .nd false .tpk (xs.map fun x => T.lf (.str x))
def fKIn (n : Bool) (kvs : List (Str × Tv)) : List T → (T → Prop) → Prop
  | [.lf (.str z)], P => P (.lf (.bl (n ^^ (kvs.lookup z).isSome)))
  | _, _ => False
def fKGet (kvs : List (Str × Tv)) : List T → (T → Prop) → Prop
  | [.lf (.str z)], P => ∃ v, kvs.lookup z = some v ∧ P (tvT v)
  | _, _ => False
def rKIn (K : PySem.W.Frag) (d : Addr) (n : Bool) : V → Hp → VK → Prop := fun x H Q => ∃ (z : Str) (r : Option Value), x = .str z ∧ PySem.W.nsIn K d z = some r ∧ Q (.bl (n ^^ r.isSome)) H
def rKGet (K : PySem.W.Frag) (d : Addr) : V → Hp → VK → Prop := fun x H Q => ∃ (z : Str) (u : Value) (v : V), x = .str z ∧ PySem.W.nsIn K d z = some (some u) ∧ RelV v u ∧ Q v H
section
variable {K : PySem.W.Frag} {d : Str} {kvs : List (Str × Tv)} {n : Bool}
theorem os_kin (h : dictB K d kvs = true) : OpS K (fKIn n kvs) (r1 (rKIn K (He.ga K d) n)) := by
  intro S H ts vs P Q s rr p k
  unfold fKIn at p
  split at p
  · rename_i z
    obtain ⟨x, _, rfl, rx, rfl⟩ := rr
    cases rx.lf
    obtain ⟨g1, g2⟩ := dictB_ok h z
    cases e : kvs.lookup z with
    | none =>
      rw [e] at p
      exact ⟨z, none, rfl, g1 e, fin_lf s k p⟩
    | some v =>
      rw [e] at p
      obtain ⟨u, hu, _⟩ := g2 v e
      exact ⟨z, some u, rfl, hu, fin_lf s k p⟩
  · exact p.elim
theorem os_kget (h : dictB K d kvs = true) : OpS K (fKGet kvs) (r1 (rKGet K (He.ga K d))) := by
  intro S H ts vs P Q s rr p k
  unfold fKGet at p
  split at p
  · rename_i z
    obtain ⟨x, _, rfl, rx, rfl⟩ := rr
    cases rx.lf
    obtain ⟨v, e, p⟩ := p
    obtain ⟨u, hu, hv⟩ := (dictB_ok h z).2 v e
    cases v with
    | int i => exact ⟨z, u, .int i, rfl, hu, tvB_int hv, fin_lf s k p⟩
    | tx xs =>
      obtain ⟨q, rfl, hq⟩ := tvB_strs hv
      refine ⟨z, .ref q, .ref q, rfl, hu, rfl, fin_old (t := .nd false .tpk (xs.map fun x => T.lf (.str x))) s k (.fz (vs := xs.map V.str) (hq S) trivial (by simp) fun i t w e1 e2 => ?_) p⟩
      rw [List.getElem?_map] at e1 e2
      cases z : xs[i]? with
      | none => rw [z] at e1; cases e1
      | some y => rw [z] at e1 e2; cases e1; cases e2; exact .lf
  · exact p.elim
end
section
variable {X : Cx} {W : Wc} {a : Expr} {o1 : Od} {d : Str} {kvs : List (Str × Tv)} {p pos : Pos}
theorem pe_kget {ti : TE} {D : Addr} {es : Array DictEntry} {n : Nat} (kd : KDict X.K X.w D es n) (ho : PE X (.Name d p) (tC (.ref D))) (hi : PE X a ti) (hs : NoSl a) : PE X (.Subscript (.Name d p) a pos) (fun σ H Q => ti σ H fun y H1 => rKGet X.K D y H1 Q) :=
  ⟨fun pins s σ H Q I h => subD_of PySem.F.slot_dict_getitem.lookup hs (thn (ho.run pins s σ H (fun x H1 => x = .ref D ∧ ti σ H1 fun y H2 => rKGet X.K D y H2 Q) I ⟨rfl, h⟩) fun u s1 ⟨x, H1, I1, rx, ex, q1⟩ => by
    subst ex
    cases rx
    exact thn (hi.run pins s1 σ H1 _ I1 q1) fun iv s2 ⟨y, H2, I2, ry, z, uu, v, ey, e, rv, q⟩ => ⟨kd_type kd I2, op_item_kd kd pins s2 σ H2 (.ref D) y (.ref D) iv Q I2 rfl ry ⟨z, uu, v, rfl, ey, e, rv, q⟩⟩)⟩
theorem t_kget (kd : ∃ es n, KDict X.K X.w (He.ga X.K d) es n) (hB : dictB X.K d kvs = true) (hg : Gl X d) (hm : X.mg d = some (.ref (He.ga X.K d))) (ha : TPO X W a o1) (hd : (d == ("__debug__" : Str)) = false := by decide) (hs : NoSl a := by exact fun _ _ => rfl) : TPE X W (.Subscript (.Name d p) a pos) (dOp (fKGet kvs) [o1]) := by
  obtain ⟨te, a1, a2⟩ := ha
  obtain ⟨es, n, kd⟩ := kd
  exact ⟨_, pe_kget kd (pe_glob (v := .ref _) hg hm rfl hd) a1 hs, se_op (r := r1 (rKGet X.K (He.ga X.K d))) (sl_cons a2 sl_nil) (os_kget hB)⟩
def gkin (K : PySem.W.Frag) (D : Addr) (Q : VK) : List V → Hp → Prop
  | [x], H1 => ∃ (z : Str) (r : Option Value), x = .str z ∧ V.ref D = .ref D ∧ PySem.W.nsIn K D z = some r ∧ Q (.bl r.isSome) H1
  | _, _ => False
theorem se_kin {K : PySem.W.Frag} {W : Wc} {te : TE} (hB : dictB K d kvs = true) (a2 : SO K W te o1) : SE K W (tOp (fun x y H Q => ∃ (z : Str) (r : Option Value), x = .str z ∧ y = .ref (He.ga K d) ∧ PySem.W.nsIn K (He.ga K d) z = some r ∧ Q (.bl r.isSome) H) te (tC (.ref (He.ga K d)))) (dOp (fKIn false kvs) [o1]) := fun S D H σ env Q P Ex o re dd k x => by
  have hl : SL K W (tCons te tNil) (dLs [o1]) := sl_cons a2 sl_nil
  exact hl S D H σ env (gkin K (He.ga K d) Q) _ Ex o re dd (fun S' D' H' env' rs vs n r' rd p => by
    obtain ⟨ts, e1, p⟩ := p
    have q := os_kin (n := false) hB S' H' ts vs _ Q n.ok.sub (rdAll_ok r' rd e1) p fun t v S2 H2 Dn f rt p2 => by
      obtain ⟨n2, dj⟩ := Nxt.frs n.ok f
      exact k _ _ _ _ _ _ (Nxt.trans o n n2) (Rz.mk dj (r'.mono f.s1 (fun a ob _ e => f.s _ _ e) fun _ h => h) rt) p2
    match vs, q with
    | [x], ⟨z, r, ex, e, q⟩ => exact ⟨z, r, ex, rfl, e, by simpa using q⟩) x
theorem t_kin (kd : ∃ es n, KDict X.K X.w (He.ga X.K d) es n) (hB : dictB X.K d kvs = true) (hg : Gl X d) (hm : X.mg d = some (.ref (He.ga X.K d))) (ha : TPO X W a o1) (hd : (d == ("__debug__" : Str)) = false := by decide) (hb : behindInMarks .In (.Name d p) = false := by rfl) : TPE X W (.Compare a [.In] [.Name d p] pos) (dOp (fKIn false kvs) [o1]) :=
  let ⟨_, a1, a2⟩ := ha; let ⟨_, _, kd⟩ := kd; ⟨_, pe_cmpR (op_in_kd kd) a1 (pe_glob (v := .ref _) hg hm rfl hd) hb, se_kin hB a2⟩
theorem b_kin (kd : ∃ es n, KDict X.K X.w (He.ga X.K d) es n) (hB : dictB X.K d kvs = true) (hg : Gl X d) (hm : X.mg d = some (.ref (He.ga X.K d))) (ha : TPO X W a o1) (hd : (d == ("__debug__" : Str)) = false := by decide) (hb : behindInMarks .In (.Name d p) = false := by rfl) : TPB X W (.Compare a [.In] [.Name d p] pos) (dT (dOp (fKIn false kvs) [o1])) :=
  let ⟨_, a1, a2⟩ := ha; let ⟨_, _, kd⟩ := kd; ⟨_, pt_cmpR (op_in_kd kd) a1 (pe_glob (v := .ref _) hg hm rfl hd) hb, (se_kin hB a2).test⟩
def gknin (K : PySem.W.Frag) (D : Addr) (Q : VK) : List V → Hp → Prop
  | [x], H1 => ∃ (z : Str) (r : Option Value), x = .str z ∧ V.ref D = .ref D ∧ PySem.W.nsIn K D z = some r ∧ Q (.bl (!r.isSome)) H1
  | _, _ => False
theorem se_knin {K : PySem.W.Frag} {W : Wc} {te : TE} (hB : dictB K d kvs = true) (a2 : SO K W te o1) : SE K W (tOp (fun x y H Q => ∃ (z : Str) (r : Option Value), x = .str z ∧ y = .ref (He.ga K d) ∧ PySem.W.nsIn K (He.ga K d) z = some r ∧ Q (.bl (!r.isSome)) H) te (tC (.ref (He.ga K d)))) (dOp (fKIn true kvs) [o1]) := fun S D H σ env Q P Ex o re dd k x => by
  have hl : SL K W (tCons te tNil) (dLs [o1]) := sl_cons a2 sl_nil
  exact hl S D H σ env (gknin K (He.ga K d) Q) _ Ex o re dd (fun S' D' H' env' rs vs n r' rd p => by
    obtain ⟨ts, e1, p⟩ := p
    have q := os_kin (n := true) hB S' H' ts vs _ Q n.ok.sub (rdAll_ok r' rd e1) p fun t v S2 H2 Dn f rt p2 => by
      obtain ⟨n2, dj⟩ := Nxt.frs n.ok f
      exact k _ _ _ _ _ _ (Nxt.trans o n n2) (Rz.mk dj (r'.mono f.s1 (fun a ob _ e => f.s _ _ e) fun _ h => h) rt) p2
    match vs, q with
    | [x], ⟨z, r, ex, e, q⟩ => exact ⟨z, r, ex, rfl, e, by simpa using q⟩) x
theorem t_knin (kd : ∃ es n, KDict X.K X.w (He.ga X.K d) es n) (hB : dictB X.K d kvs = true) (hg : Gl X d) (hm : X.mg d = some (.ref (He.ga X.K d))) (ha : TPO X W a o1) (hd : (d == ("__debug__" : Str)) = false := by decide) (hb : behindInMarks .NotIn (.Name d p) = false := by rfl) : TPE X W (.Compare a [.NotIn] [.Name d p] pos) (dOp (fKIn true kvs) [o1]) :=
  let ⟨_, a1, a2⟩ := ha; let ⟨_, _, kd⟩ := kd; ⟨_, pe_cmpR (op_notIn_kd kd) a1 (pe_glob (v := .ref _) hg hm rfl hd) hb, se_knin hB a2⟩
theorem b_knin (kd : ∃ es n, KDict X.K X.w (He.ga X.K d) es n) (hB : dictB X.K d kvs = true) (hg : Gl X d) (hm : X.mg d = some (.ref (He.ga X.K d))) (ha : TPO X W a o1) (hd : (d == ("__debug__" : Str)) = false := by decide) (hb : behindInMarks .NotIn (.Name d p) = false := by rfl) : TPB X W (.Compare a [.NotIn] [.Name d p] pos) (dT (dOp (fKIn true kvs) [o1])) :=
  let ⟨_, a1, a2⟩ := ha; let ⟨_, _, kd⟩ := kd; ⟨_, pt_cmpR (op_notIn_kd kd) a1 (pe_glob (v := .ref _) hg hm rfl hd) hb, (se_knin hB a2).test⟩
end
end Tr
namespace Tr
open PySem PySem.Spec PyProof.Rows L2 Cm
local macro_rules | `(tactic| walk_at "vis") => `(tactic| (first | exact Or.inl rfl | exact Or.inr (Or.inl rfl) | exact Or.inr (Or.inr rfl)))
local macro_rules | `(tactic| walk_at "loc") => `(tactic| (first | exact Or.inl rfl | exact Or.inr rfl))
/-! ### a, b = e1, e2 -/
def dParF (i j : Nat) (da : DA) : DS := fun DT env => da env (fun ts env1 => ∃ t u, ts = [t, u] ∧ DT.nx ((env1.set i (some t.fz)).set j (some u.fz))) DT.ex
theorem ss_parF {K : PySem.W.Frag} {W : Wc} {io : List Nat} {i j : Nat} {ta : TA} {da : DA} {ms : List (Option Nat)} (h : SA K W ms ta da) (d : ∀ l ∈ io, l ≠ i ∧ l ≠ j) : SS K W io (tPar i j ta) (dParF i j da) := fun S D H σ0 σ env DT DD o r iov dd l =>
  h S D H σ env _ _ _ o r dd (fun S' D' H' env' ts vs n rzs _ ⟨t, u, e, p⟩ => by
    subst e
    obtain ⟨S2, D2, n2, r2, hl, kids⟩ := rzs.frz n.ok
    rcases vs with _ | ⟨v, _ | ⟨w, _ | ⟨z, vs⟩⟩⟩ <;> simp at hl
    have q1 := kids 0 t v rfl rfl
    have q2 := kids 1 u w rfl rfl
    have r3 := Re.put (D2 := no) (fun _ _ h => h) (fun _ h => h) (fun _ h => h.elim) r2 i q1
    have r4 := Re.put (D2 := no) (fun _ _ h => h) (fun _ h => h) (fun _ h => h.elim) r3 j q2
    refine ⟨v, w, rfl, l.nx _ _ _ _ _ (Nxt.trans o n n2) r4 (fun m hm => ?_) p⟩
    rw [List.getElem?_set_ne (Ne.symm (d m hm).2), List.getElem?_set_ne (Ne.symm (d m hm).1)]
    exact iov m hm) (l.kx iov)
section
variable {X : Cx} {W : Wc} {io : List Nat}
theorem s_parF {i j : Nat} {x y : Str} {a b : Expr} {da : DA} {ms : List (Option Nat)} {px py pt pos : Pos} {kt k2 pt2} (hc : X.calm = true) (hN : X.N.Nodup) (hi : X.N[i]? = some x) (hj : X.N[j]? = some y) (hij : i ≠ j) (hx : X.env.scope.names.lookup x = some .local) (hy : X.env.scope.names.lookup y = some .local) (ha : TPA X W ms [a, b] da) (d : ∀ l ∈ io, l ≠ i ∧ l ≠ j)
    (hw : swappedStores [.Tuple [.Name x px, .Name y py] kt pt] (.Tuple [a, b] k2 pt2) X.env = pure (some [x, y])) (hs : swapsWithSole [.Tuple [.Name x px, .Name y py] kt pt] (.Tuple [a, b] k2 pt2) pos.line X.env = pure false := by rfl) : TPS X W io (.Assign [.Tuple [.Name x px, .Name y py] kt pt] (.Tuple [a, b] k2 pt2) pos) (dParF i j da) := by
  obtain ⟨ta, a1, a2⟩ := ha
  exact ⟨_, ps_par hc hN hi hj hij hx hy a1 hw hs, ss_parF a2 d⟩
end
end Tr

set_option Elab.async false
set_option linter.all false
set_option maxRecDepth 100000
set_option maxHeartbeats 1000000
set_option autoImplicit false
namespace Tr
open PySem PySem.Spec PyProof.Rows L2 Cm
local macro_rules | `(tactic| walk_at "vis") => `(tactic| (first | exact Or.inl rfl | exact Or.inr (Or.inl rfl) | exact Or.inr (Or.inr rfl)))
local macro_rules | `(tactic| walk_at "loc") => `(tactic| (first | exact Or.inl rfl | exact Or.inr rfl))
/-! ### is not True, is not False -/
def fNotB : List T → (T → Prop) → Prop
  | [.lf (.bl a), .lf (.bl b)], P => P (.lf (.bl (!decide (a = b))))
  | _, _ => False
theorem os_notB {K : PySem.W.Frag} : OpS K fNotB (r2 rNotB) := by
  intro S H ts vs P Q s r d k
  unfold fNotB at d
  split at d
  · obtain ⟨x, _, rfl, rx, y, _, rfl, ry, rfl⟩ := r
    cases rx.lf
    cases ry.lf
    exact ⟨_, _, rfl, rfl, fin_lf s k d⟩
  · exact d.elim
/-! ### range with a step -/
def irc (lo c : Int) (n : Nat) : List T := (List.range n).map fun i => .lf (.int (lo + (i : Nat) * c))
theorem wk_rangeC {K : PySem.W.Frag} {S : Hp} {lo c : Int} {n : Nat} : Wk K S (Itc lo c n) (irc lo c n) := by
  refine ⟨_, _, by unfold irc; rw [List.length_map, List.length_range]; exact walk_rangeC, fun _ _ _ _ => trivial, fun i H x H' t e y => ?_⟩
  obtain ⟨rfl, rfl⟩ := y
  refine ⟨no, fun _ h => h.elim, Same.refl _, fun S' s1 s2 => ?_⟩
  unfold irc at e
  rw [List.getElem?_map] at e
  cases q : (List.range n)[i]? with
  | none => rw [q] at e; cases e
  | some j =>
    rw [q] at e
    rw [List.getElem?_eq_some_iff] at q
    obtain ⟨_, q⟩ := q
    rw [List.getElem_range] at q
    subst q
    cases e
    exact .lf
def as3 : List T → (Int → Int → Int → Prop) → Prop
  | [.lf (.int i), .lf (.int j), .lf (.int c)], P => P i j c
  | _, _ => False
def dRng3 (da : DA) : DI := fun env P Ex => da env (fun ts env' => as3 ts fun i j c => ∃ n, RgC i j c n ∧ P (irc i c n) env') Ex
section
variable {X : Cx} {W : Wc} {tg : Expr} {pos : Pos}
theorem i_rng3 {a b c : Expr} {da : DA} {ms : List (Option Nat)} {p : Pos} (hg : Gl X "range") (hm : X.mg "range" = none) (ha : TPA X W ms [a, b, c] da) (hs : starEach [a, b, c] X.env = (false, eval a X.env) :: starEach [b, c] X.env := by rfl) (hpl : (backTo pos (starEach [b, c] X.env)).any (·.1) = false := by rfl) : TPI X W tg (.Call (.Name "range" p) [a, b, c] [] pos) (dRng3 da) := by
  obtain ⟨ta, h1, h2⟩ := ha
  refine ⟨_, pi_range3 hg hm h1 hs hpl, fun S D H σ env Q P Ex o r d k x => h2 S D H σ env _ _ Ex o r d (fun S' D' H' env' ts vs n rzs _ p => ?_) x⟩
  obtain ⟨D1, D2, dj, o1, n1, re, rv⟩ := rzs.split n.ok
  unfold as3 at p
  split at p
  · rename_i i j l
    obtain ⟨m, hb, p⟩ := p
    exact ⟨i, j, l, m, rs_lf (us := [.int i, .int j, .int l]) rv, hb, k _ _ _ _ _ _ (Nxt.trans o n n1) (re.mono (.refl _) (fun _ _ _ e => e) fun _ => .inl) wk_rangeC p⟩
  · exact p.elim
/-! ### e.f of a thing that was caught -/
def asX : T → (Addr → List Str → List T → Prop) → Prop
  | .nd false (.exc C fs) ts, P => P C fs ts
  | _, _ => False
def dXfH (K : PySem.W.Frag) (f : Str) (de : DE) : DE := fun env P Ex => de env (fun t env' => asX t fun C fs ts => XfC K C ∧ PySem.W.findIn K (.ref C) f = some none ∧ ∃ t', (fs.zip ts).lookup f = some t' ∧ P t' env') Ex
theorem t_xfH {e : Expr} {de : DE} {n : Str} (he : TPE X W e de) (hb : attributeBase e n X.env (eval e X.env) = eval e X.env := by rfl) : TPE X W (.Attribute e n pos) (dXfH X.K n de) := by
  obtain ⟨te, h1, h2⟩ := he
  refine ⟨_, pe_xfH h1 hb, fun S D H σ env Q P Ex o r d k x => h2 S D H σ env _ _ Ex o r d (fun S' D' H' env' t v n' rz p => ?_) x⟩
  obtain ⟨D1, D2, dj, s1, s2, re, rv⟩ := rz
  unfold asX at p
  split at p
  · obtain ⟨TT, hno, t', e2, p⟩ := p
    cases rv with
    | fz hk hn hl ch =>
      obtain ⟨dd, f1, f4⟩ := hk
      obtain ⟨i, v, a1, a2, a3⟩ := lookup_zip (by first | exact hn | exact hn.symm) hl e2
      exact ⟨_, _, dd, _, v, rfl, n'.ok.sub _ _ f1, n'.ok.sub _ _ f4, TT, hno, a3, k _ _ _ _ _ _ n' (.fr (re.mono (.refl _) (fun _ _ _ e => e) s1) ((ch i _ v a1 a2).mono (.refl _) (fun _ _ h => h.elim) fun _ h => h)) p⟩
  · exact p.elim
end
/-! ### a thing within a slot's thing is changed: x[j].m(..) -/
/-- which child an index names, and the reading that finds it -/
def Cs (K : PySem.W.Frag) (f0 : Kd → List T → T → Option Nat) (r0 : R2) : Prop :=
  ∀ (S H : Hp) (a : Addr) (u : HO) (k : Kd) (xs : List T) (vs : List V) (ti : T) (vi v : V) (p : Nat) (Q : VK), H a = some u → k.is u vs → k.ln vs.length → xs.length = vs.length → R K S H ti vi no → f0 k xs ti = some p → vs[p]? = some v → Q v H → r0 (.ref a) vi H Q
def chL : Kd → List T → T → Option Nat
  | .lst, xs, .lf (.int j) => ixN xs.length j
  | _, _, _ => none
def dMutIx (i : Nat) (n : String) (f0 : Kd → List T → T → Option Nat) (f : FM) (dj : DE) (da : DA) : DE := fun env P Ex => (∃ t0, env[i]? = some (some t0)) ∧ dj env (fun tj env1 => ∃ k0 xs p kk ys, env1[i]? = some (some (.nd true k0 xs)) ∧ f0 k0 xs tj.fz = some p ∧ xs[p]? = some (.nd true kk ys) ∧ kindOf kk = n ∧
  da (env1.set i none) (fun ts env2 => f kk ys ts fun t k' ys' => P t (env2.set i (some (.nd true k0 (xs.set p (.nd true k' ys')))))) Ex) Ex
theorem se_mutIx {K : PySem.W.Frag} {W : Wc} {i : Nat} {n : String} {f0 : Kd → List T → T → Option Nat} {r0 : R2} {f : FM} {r : V → List V → Hp → VK → Prop} {tj : TE} {dj : DE} {ta : TA} {da : DA} {ms : List (Option Nat)} (hn : n ≠ "") (hc : Cs K f0 r0) (hj : SE K W tj dj) (ha : SA K W ms ta da) (hm : MtS K f r) : SE K W (tBM K n r (tOp r0 (tVar i) tj) ta) (dMutIx i n f0 f dj da) := fun S D H σ env Q P Ex o re d k x => by
  obtain ⟨⟨t0, e0⟩, d⟩ := d
  obtain ⟨v, ev, _⟩ := re.get e0
  refine ⟨v, ev, hj S D H σ env _ _ Ex o re d (fun S1 D1 H1 env1 tj' vj n1 rz p => ?_) x⟩
  obtain ⟨k0, xs, p', kk, ys, e1, e2, e3, hk, p⟩ := p
  obtain ⟨S2, D2, n2, re2, rj⟩ := rz.frz n1.ok
  obtain ⟨v', E1, E2, dj2, x1, x2, ev', q, re3⟩ := re2.take e1
  rw [ev] at ev'
  cases ev'
  obtain ⟨a, u, vs, Dk, rfl, hE, ea, hk0, hl0, ⟨hl, Df, h1, h2, h3⟩, sk, nk⟩ := q.open
  have hp : p' < vs.length := by
    have := (List.getElem?_eq_some_iff.mp e3).1
    omega
  have ev2 : vs[p']? = some vs[p'] := List.getElem?_eq_getElem hp
  have q2 := h3 p' _ _ e3 ev2
  generalize vs[p'] = w2 at ev2 q2
  have q2' := q2
  obtain ⟨a2, u2, ws, Dk2, rfl, hE2, ea2, hk2, hl2, rs2, sk2, nk2⟩ := q2.open
  have E12 : ∀ b, Df p' b → E1 b := fun b h => sk b (h2 p' b h)
  have naa : a2 ≠ a := fun z => nk (h2 p' a (z ▸ hE2))
  have o2 : Ok W.g S2 (fun b => E2 b ∨ E1 b) H1 := n2.ok.sm fun b h => h.elim (x2 b) (x1 b)
  refine hc S2 H1 a u k0 xs vs _ vj _ p' _ ea hk0 hl0 hl rj e2 ev2 ⟨kind_ty q2' hk hn, ?_⟩
  have dj2' : Dj E2 E1 := fun b h1 h2 => dj2 b h2 h1
  have n12 : Nxt W.g S D H S2 (fun b => E2 b ∨ E1 b) H1 := Nxt.trans o (Nxt.trans o n1 n2) (Nxt.shrink n2.ok fun b h => h.elim (x2 b) (x1 b))
  refine ha S2 E2 H1 σ _ _ _ Ex (o2.sm fun _ => .inl) re3 p (fun S3 D3 H3 env3 ts wv n3 rzs _ p3 => ?_) fun S3 D3 H3 env3 ex cls dd n3 re4 rx e => ?_
  · obtain ⟨F1, F2, djF, o3, m3, re5, rw1⟩ := rzs.split n3.ok
    obtain ⟨fr, djf, kp⟩ := Nxt.frame o2 dj2' (Nxt.trans (o2.sm fun _ => .inl) n3 m3)
    have dF1 : ∀ b, F1 b → E1 b → False := fun b h h' => djf b (.inl h) h'
    have dF2 : ∀ b, F2 b → E1 b → False := fun b h h' => djf b (.inr h) h'
    have kE2 : ∀ b ob, Dk2 b → H1 b = some ob → H3 b = some ob := fun b ob h e => kp b ob (E12 b (sk2 b h)) e
    refine hm S3 H3 a2 u2 kk ys ws ts wv Dk2 F2 _ Q (kp a2 u2 (E12 a2 hE2) ea2) hk2 hl2 (rs2.mono fr.fs (fun b ob h e => kE2 b ob h e) fun _ h => h) rw1 (fun b h h' => dF2 b h' (E12 b (sk2 b h))) fr.ok.sub p3 fun t k' xs' v' vs' u' Dk' Dr hk' hl' rs' rt dj' s1 s2 p4 => ?_
    have up : ∀ b (ob : HO), b ≠ a2 → H3 b = some ob → upd H3 a2 u' b = some ob := fun b ob z e => by rw [upd_ne z]; exact e
    have nk' : ∀ b, Dk' b → b ≠ a2 := fun b h z => by
      subst z
      rcases s1 _ h with h | h
      · exact nk2 h
      · exact dF2 _ h (E12 _ hE2)
    have nr : ∀ b, Dr b → b ≠ a2 := fun b h z => by
      subst z
      rcases s2 _ h with h | h
      · exact nk2 h
      · exact dF2 _ h (E12 _ hE2)
    -- the new child
    have rc : R K S3 (upd H3 a2 u') (.nd true k' xs') (.ref a2) (fun b => b = a2 ∨ Dk' b) :=
      R.node (k := k') (.inl rfl) upd_same hk' hl' (rs'.mono (.refl _) (fun b ob h e => up b ob (nk' b h) e) fun b h => ⟨.inr h, nk' b h⟩)
    -- the new root
    have rr : R K S3 (upd H3 a2 u') (.nd true k0 (xs.set p' (.nd true k' xs'))) (.ref a) (fun b => (E1 b ∧ ¬ Dr b) ∨ Dk' b) := by
      have ndr : ∀ b, E1 b → ¬ Df p' b → ¬ Dr b := fun b h h' hd => by
        rcases s2 b hd with c | c
        · exact h' (sk2 b c)
        · exact dF2 b c h
      refine .own (fun j b => (j ≠ p' ∧ Df j b) ∨ (j = p' ∧ (b = a2 ∨ Dk' b))) (.inl ⟨hE, ndr a hE fun h => nk (h2 p' a h)⟩) (by rw [upd_ne (Ne.symm naa)]; exact kp a u hE ea) hk0 hl0 (by simpa using hl) (fun j j' b hb hb' => ?_) (fun j b hb => ?_) fun j t' v'' e5 e6 => ?_
      · rcases hb with ⟨c1, c2⟩ | ⟨c1, c2⟩ <;> rcases hb' with ⟨c3, c4⟩ | ⟨c3, c4⟩
        · exact h1 j j' b c2 c4
        · rcases c4 with c4 | c4
          · subst c4; exact (c1 (h1 j p' _ c2 hE2)).elim
          · rcases s1 b c4 with c4 | c4
            · exact (c1 (h1 j p' _ c2 (sk2 b c4))).elim
            · exact (dF2 b c4 (sk b (h2 j b c2))).elim
        · rcases c2 with c2 | c2
          · subst c2; exact (c3 (h1 j' p' _ c4 hE2)).elim
          · rcases s1 b c2 with c2 | c2
            · exact (c3 (h1 j' p' _ c4 (sk2 b c2))).elim
            · exact (dF2 b c2 (sk b (h2 j' b c4))).elim
        · omega
      · rcases hb with ⟨c1, c2⟩ | ⟨c1, c2 | c2⟩
        · exact ⟨.inl ⟨sk b (h2 j b c2), ndr b (sk b (h2 j b c2)) fun h => c1 (h1 j p' b c2 h)⟩, fun z => nk (z ▸ h2 j b c2)⟩
        · subst c2; exact ⟨.inl ⟨E12 _ hE2, fun h => nr _ h rfl⟩, naa⟩
        · refine ⟨.inr c2, fun z => ?_⟩
          subst z
          rcases s1 _ c2 with c2 | c2
          · exact nk (h2 p' _ (sk2 _ c2))
          · exact dF2 _ c2 hE
      · by_cases c : j = p'
        · subst c
          have hj : j < xs.length := by
            have := (List.getElem?_eq_some_iff.mp e5).1
            rwa [List.length_set] at this
          rw [List.getElem?_set_self hj] at e5
          rw [ev2] at e6
          cases e5; cases e6
          exact rc.up fun b h => .inr ⟨rfl, h⟩
        · rw [List.getElem?_set_ne (Ne.symm c)] at e5
          exact ((h3 j t' v'' e5 e6).mono fr.fs (fun b ob h e => up b ob (fun z => by subst z; exact c (h1 j p' _ h hE2)) (kp b ob (sk b (h2 j b h)) e)) fun _ h => h).up fun b h => .inl ⟨c, h⟩
    have na1 : ∀ b, F1 b → b ≠ a2 := fun b h z => by subst z; exact dF1 _ h (E12 _ hE2)
    refine k _ _ _ (env3.set i (some (.nd true k0 (xs.set p' (.nd true k' xs'))))) _ _ (Nxt.trans o (Nxt.trans o n12 fr) (Nxt.write (a := a2) (u := u') fr.ok (.inr (E12 _ hE2)))) ?_ p4
    refine ⟨fun b => F1 b ∨ ((E1 b ∧ ¬ Dr b) ∨ Dk' b), Dr, fun b c1 c2 => ?_, fun b c => ?_, fun b c => ?_, ?_, rt.mono (.refl _) (fun b ob h e => up b ob (nr b h) e) fun _ h => h⟩
    · rcases c1 with c1 | c1 | c1
      · rcases s2 b c2 with h | h
        · exact dF1 b c1 (E12 b (sk2 b h))
        · exact djF b c1 h
      · exact c1.2 c2
      · exact dj' b c1 c2
    · rcases c with c | c | c
      · exact .inl (.inl c)
      · exact .inr c.1
      · rcases s1 b c with c | c
        · exact .inr (E12 b (sk2 b c))
        · exact .inl (.inr c)
    · rcases s2 b c with c | c
      · exact .inr (E12 b (sk2 b c))
      · exact .inl (.inr c)
    · refine Re.back (D1 := F1) (D2 := fun b => (E1 b ∧ ¬ Dr b) ∨ Dk' b) (fun b c1 c2 => ?_) (fun _ => .inl) (fun _ => .inr) (re5.mono (.refl _) (fun b ob h e => up b ob (na1 b h) e) fun _ h => h) i ev rr
      rcases c2 with c2 | c2
      · exact dF1 b c1 c2.1
      · rcases s1 b c2 with c2 | c2
        · exact dF1 b c1 (E12 b (sk2 b c2))
        · exact djF b c1 c2
  · obtain ⟨fr, djf, kp⟩ := Nxt.frame o2 dj2' n3
    exact x _ _ _ _ _ _ _ (Nxt.trans o n12 fr) (re4.mono (.refl _) (fun _ _ _ e => e) fun _ => .inl) rx e
theorem cs_list {K : PySem.W.Frag} : Cs K chL (rIx K) := by
  intro S H a u k xs vs ti vi v p Q ea hk hl0 hl rj e ev q
  unfold chL at e
  split at e
  · cases hk
    cases rj
    refine .inl ⟨a, vs, _, v, rfl, rfl, .of ea, ?_, q⟩
    unfold atI
    rw [hl] at e
    rw [e]
    exact ev
  · cases e
section
variable {X : Cx} {W : Wc} {cpos apos npos spos : Pos} {i : Nat} {x m : Str} {e idx : Expr} {es : List Expr} {n : String} {fm : FM} {r : V → List V → Hp → VK → Prop} {dj : DE} {da : DA} {ms : List (Option Nat)}
theorem t_mutIx (hn : n ≠ "") (hm : MtS X.K fm r) (hN : X.N[i]? = some x) (hv : Vis X.env.scope x) (hd : (x == ("__debug__" : Str)) = false) (hcd : (x == ("__classdict__" : Str)) = false) (hj : TPE X W idx dj) (ha : TPA X W ms (e :: es) da) (hpe : ∀ {to : TE} {t : TA}, PE X (.Subscript (.Name x npos) idx spos) to → PA X (e :: es) t → PE X (.Call (.Attribute (.Subscript (.Name x npos) idx spos) m apos) (e :: es) [] cpos) (tBM X.K n r to t)) (hs : PlainIx idx := by exact fun _ _ => rfl) : TPE X W (.Call (.Attribute (.Subscript (.Name x npos) idx spos) m apos) (e :: es) [] cpos) (dMutIx i n chL fm dj da) := by
  obtain ⟨ta, a1, a2⟩ := ha
  obtain ⟨tj, j1, j2⟩ := hj
  exact ⟨_, hpe (pe_ix ix_seq (pe_var hN hv hd hcd) j1 hs) a1, se_mutIx hn cs_list j2 a2 hm⟩
end
/-! ### x[j][e] = v: a child of a slot's thing is set -/
def dPutIx (i : Nat) (f0 : Kd → List T → T → Option Nat) (f : FM) (dv dj de : DE) : DS := fun DT env => dv env (fun t env1 => (∃ t0, env1[i]? = some (some t0)) ∧ dj env1 (fun tj env2 => ∃ k0 xs p kk ys, env2[i]? = some (some (.nd true k0 xs)) ∧ f0 k0 xs tj.fz = some p ∧ xs[p]? = some (.nd true kk ys) ∧
  de (env2.set i none) (fun te env3 => f kk ys [t, te.fz] fun _ k' ys' => DT.nx (env3.set i (some (.nd true k0 (xs.set p (.nd true k' ys')))))) DT.ex) DT.ex) DT.ex
theorem ss_putIx {K : PySem.W.Frag} {W : Wc} {io : List Nat} {i : Nat} {f0 : Kd → List T → T → Option Nat} {r0 : R2} {f : FM} {r : V → List V → Hp → VK → Prop} {tv tj te : TE} {dv dj de : DE} (hc : Cs K f0 r0) (hv : SE K W tv dv) (hj : SE K W tj dj) (he : SE K W te de) (hm : MtS K f r) : SS K W io (tPut r tv (tOp r0 (tVar i) tj) te) (dPutIx i f0 f dv dj de) := fun S D H σ0 σ env DT DD o re iov d l => by
  refine hv S D H σ env _ _ _ o re d (fun S0 D0 H0 env0 t v n0 rz p => ?_) (l.kx iov)
  obtain ⟨⟨t0, e0⟩, p⟩ := p
  obtain ⟨G1, G2, djG, o0, m0, re0, rv⟩ := rz.split n0.ok
  obtain ⟨x, ex, _⟩ := re0.get e0
  refine ⟨x, ex, hj S0 G1 H0 σ env0 _ _ _ (o0.sm fun _ => .inl) re0 p (fun S1 D1 H1 env1 tj' vj n1 rz2 p2 => ?_) fun S1 D1 H1 env1 ex' cls dd n1 re2 rx e => ?_⟩
  rotate_left
  · obtain ⟨fr, djf, kk⟩ := Nxt.frame o0 djG n1
    exact l.ex _ _ _ _ _ _ _ _ (Nxt.trans o (Nxt.trans o n0 m0) fr) (re2.mono (.refl _) (fun _ _ _ e => e) fun _ => .inl) iov rx e
  obtain ⟨k0, xs, p', kk, ys, e1, e2, e3, p⟩ := p2
  obtain ⟨S2, D2, n2, re2, rj⟩ := rz2.frz n1.ok
  obtain ⟨frG, djG2, kkG⟩ := Nxt.frame o0 djG (Nxt.trans (o0.sm fun _ => .inl) n1 n2)
  have rv2 : R K S2 H1 t v G2 := rv.mono frG.fs (fun b ob h e => kkG b ob h e) fun _ h => h
  obtain ⟨v', E1, E2, dj2, x1, x2, ev', q, re3⟩ := re2.take e1
  rw [ex] at ev'
  cases ev'
  obtain ⟨a, u, vs, Dk, rfl, hE, ea, hk0, hl0, ⟨hl, Df, h1, h2, h3⟩, sk, nk⟩ := q.open
  have hp : p' < vs.length := by
    have := (List.getElem?_eq_some_iff.mp e3).1
    omega
  have ev2 : vs[p']? = some vs[p'] := List.getElem?_eq_getElem hp
  have q2 := h3 p' _ _ e3 ev2
  generalize vs[p'] = w2 at ev2 q2
  obtain ⟨a2, u2, ws, Dk2, rfl, hE2, ea2, hk2, hl2, rs2, sk2, nk2⟩ := q2.open
  have E12 : ∀ b, Df p' b → E1 b := fun b h => sk b (h2 p' b h)
  have naa : a2 ≠ a := fun z => nk (h2 p' a (z ▸ hE2))
  -- the rest: the root's and the value's
  have o2 : Ok W.g S2 (fun b => E2 b ∨ (E1 b ∨ G2 b)) H1 := frG.ok.sm fun b h => h.elim (fun z => .inl (x2 b z)) fun z => z.elim (fun z => .inl (x1 b z)) .inr
  refine hc S2 H1 a u k0 xs vs _ vj _ p' _ ea hk0 hl0 hl rj e2 ev2 ?_
  have dj2' : Dj E2 (fun b => E1 b ∨ G2 b) := fun b h1 h2 => h2.elim (fun z => dj2 b z h1) fun z => djG2 b (x2 b h1) z
  have n12 : Nxt W.g S D H S2 (fun b => E2 b ∨ (E1 b ∨ G2 b)) H1 := Nxt.trans o (Nxt.trans o (Nxt.trans o n0 m0) frG) (Nxt.shrink frG.ok fun b h => h.elim (fun z => .inl (x2 b z)) fun z => z.elim (fun z => .inl (x1 b z)) .inr)
  refine he S2 E2 H1 σ _ _ _ _ (o2.sm fun _ => .inl) re3 p (fun S3 D3 H3 env3 te' wv n3 rz3 p3 => ?_) fun S3 D3 H3 env3 ex' cls dd n3 re4 rx e => ?_
  · obtain ⟨S4, F1, n4, re5, rw0⟩ := rz3.frz n3.ok
    obtain ⟨fr, djf, kp⟩ := Nxt.frame o2 dj2' (Nxt.trans (o2.sm fun _ => .inl) n3 n4)
    have dF1 : ∀ b, F1 b → E1 b → False := fun b h h' => djf b h (.inl h')
    have djF : ∀ b, F1 b → G2 b → False := fun b h h' => djf b h (.inr h')
    have dF2 : ∀ b, G2 b → E1 b → False := fun b h h' => djG2 b (x1 b h') h
    have kE2 : ∀ b ob, Dk2 b → H1 b = some ob → H3 b = some ob := fun b ob h e => kp b ob (.inl (E12 b (sk2 b h))) e
    have rv3 : R K S4 H3 t v G2 := rv2.mono fr.fs (fun b ob h e => kp b ob (.inr h) e) fun _ h => h
    have rw1 : Rs K S4 H3 [t, te'.fz] [v, wv] G2 := Rs.cons (D1 := G2) (D2 := no) (fun _ _ h => h) (fun _ h => h) (fun _ h => h.elim) rv3 (Rs.cons (D1 := no) (D2 := no) (fun _ h => h.elim) (fun _ h => h.elim) (fun _ h => h.elim) rw0 Rs.nil)
    refine hm S4 H3 a2 u2 kk ys ws _ _ Dk2 G2 _ _ (kp a2 u2 (.inl (E12 a2 hE2)) ea2) hk2 hl2 (rs2.mono fr.fs (fun b ob h e => kE2 b ob h e) fun _ h => h) rw1 (fun b h h' => dF2 b h' (E12 b (sk2 b h))) fr.ok.sub p3 fun t' k' xs' v' vs' u' Dk' Dr hk' hl' rs' rt dj' s1 s2 p4 => ?_
    have up : ∀ b (ob : HO), b ≠ a2 → H3 b = some ob → upd H3 a2 u' b = some ob := fun b ob z e => by rw [upd_ne z]; exact e
    have nk' : ∀ b, Dk' b → b ≠ a2 := fun b h z => by
      subst z
      rcases s1 _ h with h | h
      · exact nk2 h
      · exact dF2 _ h (E12 _ hE2)
    have rc : R K S4 (upd H3 a2 u') (.nd true k' xs') (.ref a2) (fun b => b = a2 ∨ Dk' b) :=
      R.node (k := k') (.inl rfl) upd_same hk' hl' (rs'.mono (.refl _) (fun b ob h e => up b ob (nk' b h) e) fun b h => ⟨.inr h, nk' b h⟩)
    have rr : R K S4 (upd H3 a2 u') (.nd true k0 (xs.set p' (.nd true k' xs'))) (.ref a) (fun b => E1 b ∨ Dk' b) := by
      refine .own (fun j b => (j ≠ p' ∧ Df j b) ∨ (j = p' ∧ (b = a2 ∨ Dk' b))) (.inl hE) (by rw [upd_ne (Ne.symm naa)]; exact kp a u (.inl hE) ea) hk0 hl0 (by simpa using hl) (fun j j' b hb hb' => ?_) (fun j b hb => ?_) fun j t' v'' e5 e6 => ?_
      · rcases hb with ⟨c1, c2⟩ | ⟨c1, c2⟩ <;> rcases hb' with ⟨c3, c4⟩ | ⟨c3, c4⟩
        · exact h1 j j' b c2 c4
        · rcases c4 with c4 | c4
          · subst c4; exact (c1 (h1 j p' _ c2 hE2)).elim
          · rcases s1 b c4 with c4 | c4
            · exact (c1 (h1 j p' _ c2 (sk2 b c4))).elim
            · exact (dF2 b c4 (sk b (h2 j b c2))).elim
        · rcases c2 with c2 | c2
          · subst c2; exact (c3 (h1 j' p' _ c4 hE2)).elim
          · rcases s1 b c2 with c2 | c2
            · exact (c3 (h1 j' p' _ c4 (sk2 b c2))).elim
            · exact (dF2 b c2 (sk b (h2 j' b c4))).elim
        · omega
      · rcases hb with ⟨c1, c2⟩ | ⟨c1, c2 | c2⟩
        · exact ⟨.inl (sk b (h2 j b c2)), fun z => nk (z ▸ h2 j b c2)⟩
        · subst c2; exact ⟨.inl (E12 _ hE2), naa⟩
        · refine ⟨.inr c2, fun z => ?_⟩
          subst z
          rcases s1 _ c2 with c2 | c2
          · exact nk (h2 p' _ (sk2 _ c2))
          · exact dF2 _ c2 hE
      · by_cases c : j = p'
        · subst c
          have hj : j < xs.length := by
            have := (List.getElem?_eq_some_iff.mp e5).1
            rwa [List.length_set] at this
          rw [List.getElem?_set_self hj] at e5
          rw [ev2] at e6
          cases e5; cases e6
          exact rc.up fun b h => .inr ⟨rfl, h⟩
        · rw [List.getElem?_set_ne (Ne.symm c)] at e5
          exact ((h3 j t' v'' e5 e6).mono fr.fs (fun b ob h e => up b ob (fun z => by subst z; exact c (h1 j p' _ h hE2)) (kp b ob (.inl (sk b (h2 j b h))) e)) fun _ h => h).up fun b h => .inl ⟨c, h⟩
    have na1 : ∀ b, F1 b → b ≠ a2 := fun b h z => by subst z; exact dF1 _ h (E12 _ hE2)
    have nW := Nxt.write (a := a2) (u := u') fr.ok (.inr (.inl (E12 _ hE2)))
    refine l.nx _ _ _ (env3.set i (some (.nd true k0 (xs.set p' (.nd true k' xs'))))) _ (Nxt.trans o (Nxt.trans o n12 fr) nW) ?_ iov p4
    refine Re.back (D1 := F1) (D2 := fun b => E1 b ∨ Dk' b) (fun b c1 c2 => ?_) (fun _ => .inl) (fun b c => ?_) (re5.mono (.refl _) (fun b ob h e => up b ob (na1 b h) e) fun _ h => h) i ex rr
    · rcases c2 with c2 | c2
      · exact dF1 b c1 c2
      · rcases s1 b c2 with c2 | c2
        · exact dF1 b c1 (E12 b (sk2 b c2))
        · exact djF b c1 c2
    · rcases c with c | c
      · exact .inr (.inl c)
      · rcases s1 b c with c | c
        · exact .inr (.inl (E12 b (sk2 b c)))
        · exact .inr (.inr c)
  · obtain ⟨fr, djf, kp⟩ := Nxt.frame o2 dj2' n3
    exact l.ex _ _ _ _ _ _ _ _ (Nxt.trans o n12 fr) (re4.mono (.refl _) (fun _ _ _ e => e) fun _ => .inl) iov rx e
/-! ### which child a key names -/
def chD : Kd → List T → T → Option Nat
  | .dk ks, _, kt => match kt.key with
    | some kk => ixOf ks kk
    | none => none
  | _, _, _ => none
def rDG : R2 := fun x y H Q => ∃ a v, x = .ref a ∧ DGet H a y (some v) ∧ Q v H
theorem cs_dict {K : PySem.W.Frag} : Cs K chD rDG := by
  intro S H a u k xs vs ti vi v p Q ea hk hl0 hl rj e ev q
  unfold chD at e
  split at e
  · rename_i ks
    split at e
    · rename_i kk hkk
      cases hk
      have hy := key_v ⟨_, rj⟩ hkk
      subst hy
      refine ⟨a, v, rfl, .inl ⟨_, kk, .inl ea, rfl, ?_⟩, q⟩
      rw [valV_zip kk hl0.1]
      unfold dg
      rw [e]
      exact ev.symm
    · cases e
  · cases e
section
variable {X : Cx} {W : Wc} {io : List Nat} {cpos apos npos spos tp sp : Pos} {i : Nat} {x m : Str} {e idx ev ei : Expr} {es : List Expr} {n : String} {fm : FM} {r : V → List V → Hp → VK → Prop} {dj de dv : DE} {da : DA} {ms : List (Option Nat)}
/-- x[j][e] = v, both lists -/
theorem s_putIxL (hN : X.N[i]? = some x) (hv : Vis X.env.scope x) (h1 : TPE X W ev dv) (hj : TPE X W idx dj) (h2 : TPE X W ei de) (hs : swapsWithSole [.Subscript (.Subscript (.Name x npos) idx spos) ei tp] ev sp.line X.env = pure false := by rfl) (hw : swappedStores [.Subscript (.Subscript (.Name x npos) idx spos) ei tp] ev X.env = pure none := by rfl) (h0 : (assignEach [.Subscript (.Subscript (.Name x npos) idx spos) ei tp] X.env).map (·.2) = [assign (.Subscript (.Subscript (.Name x npos) idx spos) ei tp) X.env] := by rfl)
    (hg : ∀ {to t : TE}, PE X (.Subscript (.Name x npos) idx spos) to → PE X ei t → PG X (.Subscript (.Subscript (.Name x npos) idx spos) ei tp) (gSub to t rSetL)) (hd : (x == ("__debug__" : Str)) = false := by decide) (hcd : (x == ("__classdict__" : Str)) = false := by decide) (hsl : PlainIx idx := by exact fun _ _ => rfl) : TPS X W io (.Assign [.Subscript (.Subscript (.Name x npos) idx spos) ei tp] ev sp) (dPutIx i chL fSetL dv dj de) := by
  obtain ⟨tv, a1, a2⟩ := h1
  obtain ⟨tj, j1, j2⟩ := hj
  obtain ⟨te, b1, b2⟩ := h2
  exact ⟨_, ps_asg a1 (hg (pe_ix ix_seq (pe_var hN hv hd hcd) j1 hsl) b1) hs hw h0, ss_putIx cs_list a2 j2 b2 ms_set⟩
/-- x[k][e] = v, x a dict, its child a list -/
theorem s_putDxL (hu : X.A.units + 1 < cLine) (hN : X.N[i]? = some x) (hv : Vis X.env.scope x) (h1 : TPE X W ev dv) (hj : TPE X W idx dj) (h2 : TPE X W ei de) (hs : swapsWithSole [.Subscript (.Subscript (.Name x npos) idx spos) ei tp] ev sp.line X.env = pure false := by rfl) (hw : swappedStores [.Subscript (.Subscript (.Name x npos) idx spos) ei tp] ev X.env = pure none := by rfl) (h0 : (assignEach [.Subscript (.Subscript (.Name x npos) idx spos) ei tp] X.env).map (·.2) = [assign (.Subscript (.Subscript (.Name x npos) idx spos) ei tp) X.env] := by rfl)
    (hg : ∀ {to t : TE}, PE X (.Subscript (.Name x npos) idx spos) to → PE X ei t → PG X (.Subscript (.Subscript (.Name x npos) idx spos) ei tp) (gSub to t rSetL)) (hd : (x == ("__debug__" : Str)) = false := by decide) (hcd : (x == ("__classdict__" : Str)) = false := by decide) (hsl : NoSl idx := by exact fun _ _ => rfl) : TPS X W io (.Assign [.Subscript (.Subscript (.Name x npos) idx spos) ei tp] ev sp) (dPutIx i chD fSetL dv dj de) := by
  obtain ⟨tv, a1, a2⟩ := h1
  obtain ⟨tj, j1, j2⟩ := hj
  obtain ⟨te, b1, b2⟩ := h2
  exact ⟨_, ps_asg a1 (hg (pe_dget hu (pe_var hN hv hd hcd) j1 hsl) b1) hs hw h0, ss_putIx (r0 := rDG) cs_dict a2 j2 b2 ms_set⟩
/-- x[k].m(..), x a dict -/
theorem t_mutDx (hu : X.A.units + 1 < cLine) (hn : n ≠ "") (hm : MtS X.K fm r) (hN : X.N[i]? = some x) (hv : Vis X.env.scope x) (hd : (x == ("__debug__" : Str)) = false) (hcd : (x == ("__classdict__" : Str)) = false) (hj : TPE X W idx dj) (ha : TPA X W ms (e :: es) da) (hpe : ∀ {to : TE} {t : TA}, PE X (.Subscript (.Name x npos) idx spos) to → PA X (e :: es) t → PE X (.Call (.Attribute (.Subscript (.Name x npos) idx spos) m apos) (e :: es) [] cpos) (tBM X.K n r to t)) (hs : NoSl idx := by exact fun _ _ => rfl) : TPE X W (.Call (.Attribute (.Subscript (.Name x npos) idx spos) m apos) (e :: es) [] cpos) (dMutIx i n chD fm dj da) := by
  obtain ⟨ta, a1, a2⟩ := ha
  obtain ⟨tj, j1, j2⟩ := hj
  exact ⟨_, hpe (pe_dget hu (pe_var hN hv hd hcd) j1 hs) a1, se_mutIx (r0 := rDG) hn cs_dict j2 a2 hm⟩
end
/-! ### y = {k: v for ..}, on one line, y a local -/
section
variable {X : Cx} {W : Wc} {io : List Nat} {pos : Pos} {tg : Expr}
theorem ps_setDc {i : Nat} {y : Str} {py spos : Pos} {kx vx iter : Expr} {ifs : List Expr} {scope : Scope} {own : List (Str × Nat)} {wi : TI} {g : TG} {tt : TT} {tk tv : TE} (hc : X.calm = true) (hN : X.N.Nodup) (hy : X.N[i]? = some y) (hyl : X.env.scope.names.lookup y = some .local)
    (hsw : swapsWith (.DictComp kx vx [⟨tg, iter, ifs, 0⟩] scope pos) (some (.Name y py)) spos.line X.env = pure true) (hi : PI X tg iter wi) (ok : BlkOk X.N X.env.scope scope own)
    (hg : ∀ (s : Shared) (H : Hp) (C : Addr) (cl : List (Str × Addr)) (fp : List Addr), PG (X.blk s H scope (compEnvC scope cl C X.env) fp) tg g) (ht : ∀ (s : Shared) (H : Hp) (C : Addr) (cl : List (Str × Addr)) (fp : List Addr), PTs (X.blk s H scope (compEnvC scope cl C X.env) fp) ifs tt)
    (hk : ∀ (s : Shared) (H : Hp) (C : Addr) (cl : List (Str × Addr)) (fp : List Addr), PE (X.blk s H scope (compEnvC scope cl C X.env) fp) kx tk)
    (he : ∀ (s : Shared) (H : Hp) (C : Addr) (cl : List (Str × Addr)) (fp : List Addr), PE (X.blk s H scope (compEnvC scope cl C X.env) fp) vx tv) (hs : ∀ x, foldedSetIterable iter X.env x = pure x := by intro _; rfl) :
    PS X (.Assign [.Name y py] (.DictComp kx vx [⟨tg, iter, ifs, 0⟩] scope pos) spos) (tAsg (tDc wi g tt tk tv (own.map (·.2))) (gName i)) := by
  refine ⟨fun pins s σ H D I h => ?_⟩
  rw [exec_Assign_Name_used _ _ _ _ hsw]
  refine wpAny_bind (wpAny_standAt (wpAny_bind ?_))
  show wpAny _ X.A (do let _ ← comprehension (.DictComp kx vx [⟨tg, iter, ifs, 0⟩] scope pos) scope X.env (firstIterPos [⟨tg, iter, ifs, 0⟩] pos) newDict false (eval iter X.env) (some (assign (.Name y py) X.env))) _ _ s
  have h : tDc wi g tt tk tv (own.map (·.2)) σ H (fun x H1 => gName i x σ H1 D.nx) := h
  refine wpAny_bind (thn (dc_core (Qf := fun _ s' => SP X pins D .next s') hc hN I hi ok hg ht hk he hs h fun L C s' m H' I' q hn f => ?_) fun _ s' hq => wpAny_pure (wpAny_pure hq))
  show wpAny _ _ (assign (.Name y py) X.env (.ref L)) _ _ _
  refine wpAny_assign_Name (store_ok2 (v := V.ref L) I' hN hy (.inl hyl) rfl (fun s2 I2 ⟨a, sb, ha⟩ => ?_) (.inr hyl))
  obtain ⟨f0, f1, f2, f3, f4, f5⟩ := f
  have haC : C ≠ a := by
    rcases ha with z | z
    · rw [z]; exact f1
    · exact fun e => f4 y a z e.symm
  refine ⟨m, hn.sameBut sb haC, fun h3 sb3 => ?_⟩
  exact ⟨_, H', I2.turned (t' := s2.toks) (fun b o hb e => (sb3.2 b hb).trans e) f0 f1 f3 f4 f5, q⟩
theorem sw_trueD {kx vx : Expr} {gs : List Comprehension} {scope : Scope} {pos py : Pos} {y : Str} {l : Nat} {env : PySem.Env} (hk : env.scope.kind = .function) (hy : env.scope.names.lookup y = some .local) (hl : (py.line == pos.line) = true)
    (ha : (scope.names.any fun (n, k) => n == y && (k == .local || k == .cell)) = false) : swapsWith (.DictComp kx vx gs scope pos) (some (.Name y py)) l env = pure true := by
  have ky : env.kindOf y = some .local := hy
  have hb : env.blockKind = .function := by unfold Env.blockKind; rw [hk]; rfl
  unfold swapsWith
  simp only [hb, ky, ha, Expr.pos, hl]
  rfl
theorem s_setDc {i : Nat} {y : Str} {py spos : Pos} {kx vx iter : Expr} {ifs : List Expr} {scope : Scope} {own : List (Str × Nat)} {di : DI} {dg dt : DG} {dc : DB} {dk de : DE} {sl : List Nat} (hc : X.calm = true) (hN : X.N.Nodup) (hy : X.N[i]? = some y) (hyl : X.env.scope.names.lookup y = some .local)
    (hsw : swapsWith (.DictComp kx vx [⟨tg, iter, ifs, 0⟩] scope pos) (some (.Name y py)) spos.line X.env = pure true) (hi : TPI X W tg iter di) (ok : BlkOk X.N X.env.scope scope own)
    (hg : ∀ (z : Shared × Hp × Addr × List (Str × Addr) × List Addr), TPG (X.blk z.1 z.2.1 scope (compEnvC scope z.2.2.2.1 z.2.2.1 X.env) z.2.2.2.2) sl tg dg) (ht : ∀ (z : Shared × Hp × Addr × List (Str × Addr) × List Addr), TPTs (X.blk z.1 z.2.1 scope (compEnvC scope z.2.2.2.1 z.2.2.1 X.env) z.2.2.2.2) (Wno W.g) ifs dc)
    (hk : ∀ (z : Shared × Hp × Addr × List (Str × Addr) × List Addr), TPE (X.blk z.1 z.2.1 scope (compEnvC scope z.2.2.2.1 z.2.2.1 X.env) z.2.2.2.2) (Wno W.g) kx dk)
    (he : ∀ (z : Shared × Hp × Addr × List (Str × Addr) × List Addr), TPE (X.blk z.1 z.2.1 scope (compEnvC scope z.2.2.2.1 z.2.2.1 X.env) z.2.2.2.2) (Wno W.g) vx de) (d : ∀ i ∈ sl, i ∈ own.map (·.2)) (sg : SG X.K [i] (gName i) dt) (dd : ∀ j ∈ io, j ∉ [i]) (hs : ∀ x, foldedSetIterable iter X.env x = pure x := by intro _; rfl) :
    TPS X W io (.Assign [.Name y py] (.DictComp kx vx [⟨tg, iter, ifs, 0⟩] scope pos) spos) (dAsg (dDComp (own.map (·.2)) di dg dc dk de) dt) := by
  obtain ⟨wi, i1, i2⟩ := hi
  obtain ⟨g, g1, g2⟩ := uni_g (K := X.K) hg
  obtain ⟨tt, t1, t2⟩ := uni_t (K := X.K) ht
  obtain ⟨tk, k1, k2⟩ := uni_e (K := X.K) hk
  obtain ⟨te, e1, e2⟩ := uni_e (K := X.K) he
  exact ⟨_, ps_setDc hc hN hy hyl hsw i1 ok (fun s H C cl fp => g1 (s, H, C, cl, fp)) (fun s H C cl fp => t1 (s, H, C, cl, fp)) (fun s H C cl fp => k1 (s, H, C, cl, fp)) (fun s H C cl fp => e1 (s, H, C, cl, fp)) hs, ss_asg (se_dc i2 g2 t2 k2 e2 d) sg dd⟩
end
/-! ### y = x[j], behind it y is changed: the child is y's own till the block's end -/
def cloE (h i : Nat) (k0 : Kd) (xs : List T) (p : Nat) (N : Env → Prop) : Env → Prop := fun env => ∃ k ys, env[h]? = some (some (.nd true k ys)) ∧ N ((env.set h none).set i (some (.nd true k0 (xs.set p (.nd true k ys)))))
def clo (h i : Nat) (k0 : Kd) (xs : List T) (p : Nat) (DT : DEnds) : DEnds where
  nx := cloE h i k0 xs p DT.nx
  bk := cloE h i k0 xs p DT.bk
  ct := cloE h i k0 xs p DT.ct
  rt := DT.rt
  ex := DT.ex
def dOpen (h i : Nat) (f0 : Kd → List T → T → Option Nat) (dj : DE) (db : DS) : DS := fun DT env => (∃ t0, env[i]? = some (some t0)) ∧ dj env (fun tj env1 => ∃ k0 xs p kk ys, env1[i]? = some (some (.nd true k0 xs)) ∧ f0 k0 xs tj.fz = some p ∧ xs[p]? = some (.nd true kk ys) ∧ h < env1.length ∧ db (clo h i k0 xs p DT) ((env1.set i none).set h (some (.nd true kk ys)))) DT.ex
theorem ss_open {K : PySem.W.Frag} {W : Wc} {io : List Nat} {h i : Nat} {f0 : Kd → List T → T → Option Nat} {r0 : R2} {tj : TE} {dj : DE} {tb : TS} {db : DS} (hc : Cs K f0 r0) (hj : SE K W tj dj) (hb : SS K W (h :: i :: io) tb db) (hne : h ≠ i) (hio : ∀ m ∈ io, m ≠ h) : SS K W io (tSeq (tAsg (tOp r0 (tVar i) tj) (gName h)) tb) (dOpen h i f0 dj db) := fun S D H σ0 σ env DT DD o re iov d l => by
  obtain ⟨⟨t0, e0⟩, d⟩ := d
  obtain ⟨v, ev, _⟩ := re.get e0
  refine ⟨v, ev, hj S D H σ env _ _ _ o re d (fun S1 D1 H1 env1 tj' vj n1 rz p => ?_) (l.kx iov)⟩
  obtain ⟨k0, xs, p', kk, ys, e1, e2, e3, hlt, p⟩ := p
  obtain ⟨S2, D2, n2, re2, rj⟩ := rz.frz n1.ok
  have hlen := re2.1
  obtain ⟨v', E1, E2, dj2, x1, x2, ev', q, re3⟩ := re2.take e1
  rw [ev] at ev'
  cases ev'
  obtain ⟨a, u, vs, Dk, rfl, hE, ea, hk0, hl0, ⟨hl, Df, h1, h2, h3⟩, sk, nk⟩ := q.open
  have hp : p' < vs.length := by
    have := (List.getElem?_eq_some_iff.mp e3).1
    omega
  have ev2 : vs[p']? = some vs[p'] := List.getElem?_eq_getElem hp
  have q2 := h3 p' _ _ e3 ev2
  generalize vs[p'] = w2 at ev2 q2
  have E12 : ∀ b, Df p' b → E1 b := fun b h => sk b (h2 p' b h)
  have aEr : E1 a ∧ ¬ Df p' a := ⟨hE, fun z => nk (h2 p' a z)⟩
  have sO : ∀ b, ((E2 b ∨ Df p' b) ∨ (E1 b ∧ ¬ Df p' b)) → D2 b := fun b z => z.elim (fun z => z.elim (x2 b) fun z => x1 b (E12 b z)) fun z => x1 b z.1
  have o2 : Ok W.g S2 (fun b => (E2 b ∨ Df p' b) ∨ (E1 b ∧ ¬ Df p' b)) H1 := n2.ok.sm sO
  have dj2' : Dj (fun b => E2 b ∨ Df p' b) (fun b => E1 b ∧ ¬ Df p' b) := fun b c1 c2 => c1.elim (fun z => dj2 b c2.1 z) fun z => c2.2 z
  have n12 : Nxt W.g S D H S2 (fun b => (E2 b ∨ Df p' b) ∨ (E1 b ∧ ¬ Df p' b)) H1 := Nxt.trans o (Nxt.trans o n1 n2) (Nxt.shrink n2.ok sO)
  have reB : Re K S2 H1 ((env1.set i none).set h (some (.nd true kk ys))) (σ.set h (some w2)) (fun b => E2 b ∨ Df p' b) := Re.put (D1 := E2) (D2 := Df p') (fun b c1 c2 => dj2 b (E12 b c2) c1) (fun _ => .inl) (fun _ => .inr) re3 h q2
  have sh : (σ.set h (some w2))[h]? = some (some w2) := List.getElem?_set_self (by omega)
  have si : (σ.set h (some w2))[i]? = some (some (V.ref a)) := by rw [List.getElem?_set_ne hne]; exact ev
  have ios : ∀ σ', IO (h :: i :: io) (σ.set h (some w2)) σ' → IO io σ0 σ' := fun σ' c m hm => by
    rw [c m (List.mem_cons_of_mem _ (List.mem_cons_of_mem _ hm)), List.getElem?_set_ne (Ne.symm (hio m hm))]
    exact iov m hm
  have fin : ∀ (N : Env → Prop) S' D' H' env' σ', Nxt W.g S2 (fun b => E2 b ∨ Df p' b) H1 S' D' H' → Re K S' H' env' σ' D' → IO (h :: i :: io) (σ.set h (some w2)) σ' → cloE h i k0 xs p' N env' → ∃ D'' env'', Nxt W.g S D H S' D'' H' ∧ Re K S' H' env'' σ' D'' ∧ N env'' := by
    intro N S' D' H' env' σ' n re' io' cl
    obtain ⟨k, ys', eh, pn⟩ := cl
    obtain ⟨fr, djf, kp⟩ := Nxt.frame o2 dj2' n
    obtain ⟨v', F1, F2, dj3, y1, y2, ev3, q3, re4⟩ := re'.take eh
    rw [io' h (List.mem_cons_self ..), sh] at ev3
    cases ev3
    have evi : σ'[i]? = some (some (V.ref a)) := by rw [io' i (List.mem_cons_of_mem _ (List.mem_cons_self ..)), si]
    have rr : R K S' H' (.nd true k0 (xs.set p' (.nd true k ys'))) (.ref a) (fun b => (E1 b ∧ ¬ Df p' b) ∨ F1 b) := by
      have dE : ∀ j b, j ≠ p' → Df j b → E1 b ∧ ¬ Df p' b := fun j b c1 c2 => ⟨sk b (h2 j b c2), fun z => c1 (h1 j p' b c2 z)⟩
      refine .own (fun j b => (j ≠ p' ∧ Df j b) ∨ (j = p' ∧ F1 b)) (.inl aEr) (kp a u aEr ea) hk0 hl0 (by simpa using hl) (fun j j' b c d => ?_) (fun j b c => ?_) fun j t' v'' e5 e6 => ?_
      · rcases c with ⟨c1, c2⟩ | ⟨c1, c2⟩ <;> rcases d with ⟨c3, c4⟩ | ⟨c3, c4⟩
        · exact h1 j j' b c2 c4
        · exact (djf b (y1 b c4) (dE j b c1 c2)).elim
        · exact (djf b (y1 b c2) (dE j' b c3 c4)).elim
        · omega
      · rcases c with ⟨c1, c2⟩ | ⟨c1, c2⟩
        · exact ⟨.inl (dE j b c1 c2), fun z => nk (z ▸ h2 j b c2)⟩
        · exact ⟨.inr c2, fun z => djf b (y1 b c2) (z ▸ aEr)⟩
      · by_cases c : j = p'
        · subst c
          have hj : j < xs.length := by
            have := (List.getElem?_eq_some_iff.mp e5).1
            rwa [List.length_set] at this
          rw [List.getElem?_set_self hj] at e5
          rw [ev2] at e6
          cases e5; cases e6
          exact q3.up fun b h => .inr ⟨rfl, h⟩
        · rw [List.getElem?_set_ne (Ne.symm c)] at e5
          exact ((h3 j t' v'' e5 e6).mono fr.fs (fun b ob h e => kp b ob (dE j b c h) e) fun _ h => h).up fun b h => .inl ⟨c, h⟩
    refine ⟨_, _, Nxt.trans o n12 fr, Re.back (D1 := F2) (D2 := fun b => (E1 b ∧ ¬ Df p' b) ∨ F1 b) (fun b c1 c2 => ?_) (fun b c => .inl (y2 b c)) (fun b c => ?_) re4 i evi rr, pn⟩
    · exact c2.elim (fun z => djf b (y2 b c1) z) fun z => dj3 b z c1
    · exact c.elim .inr fun z => .inl (y1 b z)
  refine hc S2 H1 a u k0 xs vs _ vj _ p' _ ea hk0 hl0 hl rj e2 ev2 ?_
  refine hb S2 _ H1 (σ.set h (some w2)) (σ.set h (some w2)) _ (clo h i k0 xs p' DT) DD (o2.sm fun _ => .inl) reB (fun _ _ => rfl) p ⟨?_, ?_, ?_, ?_, ?_⟩
  · intro S' D' H' env' σ' n re' io' cl
    obtain ⟨_, _, a1, a2, a3⟩ := fin _ _ _ _ _ _ n re' io' cl
    exact l.nx _ _ _ _ _ a1 a2 (ios _ io') a3
  · intro S' D' H' env' σ' n re' io' cl
    obtain ⟨_, _, a1, a2, a3⟩ := fin _ _ _ _ _ _ n re' io' cl
    exact l.bk _ _ _ _ _ a1 a2 (ios _ io') a3
  · intro S' D' H' env' σ' n re' io' cl
    obtain ⟨_, _, a1, a2, a3⟩ := fin _ _ _ _ _ _ n re' io' cl
    exact l.ct _ _ _ _ _ a1 a2 (ios _ io') a3
  · intro S' D' H' env' σ' t v n rz' io' e
    obtain ⟨fr, djf, kp⟩ := Nxt.frame o2 dj2' n
    obtain ⟨G1, G2, djG, s1, s2, g1, g2⟩ := rz'
    exact l.rt _ _ _ _ _ _ _ (Nxt.trans o n12 fr) ⟨G1, G2, djG, fun b c => .inl (s1 b c), fun b c => .inl (s2 b c), g1, g2⟩ (ios _ io') e
  · intro S' D' H' env' σ' ex cls dd n re' io' rx e
    obtain ⟨fr, djf, kp⟩ := Nxt.frame o2 dj2' n
    exact l.ex _ _ _ _ _ _ _ _ (Nxt.trans o n12 fr) (re'.mono (.refl _) (fun _ _ _ e => e) fun _ => .inl) (ios _ io') rx e
section
variable {X : Cx} {W : Wc} {io : List Nat} {pos py npos spos : Pos} {h i : Nat} {x y : Str} {idx : Expr} {rest : List Stmt} {dj : DE} {db : DS}
theorem p_openD (hu : X.A.units + 1 < cLine) (hN : X.N.Nodup) (hy : X.N[h]? = some y) (hL : Loc X.env.scope y) (hx : X.N[i]? = some x) (hv : Vis X.env.scope x) (hj : TPE X W idx dj) (hb : TPSs X W (h :: i :: io) rest db) (hne : h ≠ i) (hio : ∀ m ∈ io, m ≠ h) (hs : swapsWith (.Subscript (.Name x npos) idx spos) (some (.Name y py)) pos.line X.env = pure false := by rfl) (hf : X.fn y = true ∨ X.env.scope.names.lookup y = some .local := by first | exact .inl rfl | exact .inr rfl | assumption)
    (hd : (x == ("__debug__" : Str)) = false := by decide) (hcd : (x == ("__classdict__" : Str)) = false := by decide) (hsl : NoSl idx := by exact fun _ _ => rfl) : TPSs X W io (.Assign [.Name y py] (.Subscript (.Name x npos) idx spos) pos :: rest) (dOpen h i chD dj db) := by
  obtain ⟨tj, j1, j2⟩ := hj
  obtain ⟨tb, b1, b2⟩ := hb
  exact ⟨_, pss_cons (ps_set hN hy hL (pe_dget hu (pe_var hx hv hd hcd) j1 hsl) hs hf) b1, ss_open (r0 := rDG) cs_dict j2 b2 hne hio⟩
theorem p_openL (hN : X.N.Nodup) (hy : X.N[h]? = some y) (hL : Loc X.env.scope y) (hx : X.N[i]? = some x) (hv : Vis X.env.scope x) (hj : TPE X W idx dj) (hb : TPSs X W (h :: i :: io) rest db) (hne : h ≠ i) (hio : ∀ m ∈ io, m ≠ h) (hs : swapsWith (.Subscript (.Name x npos) idx spos) (some (.Name y py)) pos.line X.env = pure false := by rfl) (hf : X.fn y = true ∨ X.env.scope.names.lookup y = some .local := by first | exact .inl rfl | exact .inr rfl | assumption)
    (hd : (x == ("__debug__" : Str)) = false := by decide) (hcd : (x == ("__classdict__" : Str)) = false := by decide) (hsl : PlainIx idx := by exact fun _ _ => rfl) : TPSs X W io (.Assign [.Name y py] (.Subscript (.Name x npos) idx spos) pos :: rest) (dOpen h i chL dj db) := by
  obtain ⟨tj, j1, j2⟩ := hj
  obtain ⟨tb, b1, b2⟩ := hb
  exact ⟨_, pss_cons (ps_set hN hy hL (pe_ix ix_seq (pe_var hx hv hd hcd) j1 hsl) hs hf) b1, ss_open cs_list j2 b2 hne hio⟩
end
/-! ### list(range(n)) -/
def dLRg (de : DE) : DE := fun env P Ex => de env (fun t env' => ∃ n : Int, t = .lf (.int n) ∧ RgOk 0 n ∧ P (.nd true .lst (irg 0 n.toNat)) env') Ex
theorem rg_rs {K : PySem.W.Frag} {S H : Hp} {n : Int} {D : AP} : Rs K S H (irg 0 n.toNat) (rgV 0 n) D := by
  refine Rs.frozen (by unfold irg; rw [rgV_length, List.length_map, List.length_range, Int.sub_zero]) fun i t v e1 e2 => ?_
  unfold irg at e1
  unfold rgV at e2
  rw [List.getElem?_map] at e1 e2
  rw [Int.sub_zero] at e2
  cases q : (List.range n.toNat)[i]? with
  | none => rw [q] at e1; cases e1
  | some j => rw [q] at e1 e2; cases e1; cases e2; exact .lf
section
variable {X : Cx} {W : Wc} {p pos p2 pos2 : Pos} {a : Expr} {de : DE}
theorem t_lrg (hc : X.calm = true) (hg : Gl X "list") (hm : X.mg "list" = none) (hg2 : Gl X "range") (hm2 : X.mg "range" = none) (he : TPE X W a de) (na2 : starEach [a] X.env = (false, eval a X.env) :: starEach [] X.env := by rfl) (na : starEach [.Call (.Name "range" p2) [a] [] pos2] X.env = (false, eval (.Call (.Name "range" p2) [a] [] pos2) X.env) :: starEach [] X.env := by rfl) : TPE X W (.Call (.Name "list" p) [.Call (.Name "range" p2) [a] [] pos2] [] pos) (dLRg de) := by
  obtain ⟨te, h1, h2⟩ := he
  refine ⟨_, pe_listRg hc hg hm (prg_1 hg2 hm2 h1 na2) na, fun S D H σ env Q P Ex o r d k x => h2 S D H σ env _ _ Ex o r d (fun S' D' H' env' t v n' rz ⟨m, e1, ok, pp⟩ => ?_) x⟩
  subst e1
  obtain ⟨D1, D2, dj, s1, s2, re, rv⟩ := rz
  cases rv
  refine ⟨m, rfl, ok, fun q hq => ?_⟩
  obtain ⟨D3, n3, rz3⟩ := new_node (D1 := D') (D2 := D') (k := .lst) (ts := irg 0 m.toNat) (vs := rgV 0 m) (u := .lst (rgV 0 m)) n'.ok hq ⟨D1, no, fun _ _ h => h, s1, fun _ h => h.elim, re, rg_rs⟩ rfl trivial
  exact k _ _ _ _ _ _ (Nxt.trans o n' n3) rz3 pp
end
/-! ### a lent argument, taken out of its slot behind the arguments that follow -/
section
variable {K : PySem.W.Frag} {W : Wc} {X : Cx} {pos : Pos}
def dConsL (i : Nat) (da : DA) : DA := fun env P Ex => (∃ t, env[i]? = some (some t)) ∧ da env (fun ts env1 => ∃ t, env1[i]? = some (some t) ∧ P (t :: ts) (env1.set i none)) Ex
theorem sa_consL {ta : TA} {da : DA} {ms : List (Option Nat)} {i : Nat} (ha : SA K W ms ta da) : SA K W (some i :: ms) (tCons (tVar i) ta) (dConsL i da) := fun S D H σ env Q P Ex o r d k x => by
  obtain ⟨⟨t0, e0⟩, d⟩ := d
  obtain ⟨v, ev, _⟩ := r.get e0
  refine ⟨v, ev, ha S D H σ env _ _ Ex o r d (fun S2 D2 H2 env2 ts vs n2 rzs hms p => ?_) x⟩
  obtain ⟨t, e, p⟩ := p
  obtain ⟨F1, F2, dj2, o2, m2, re2, rvs⟩ := rzs.split n2.ok
  obtain ⟨v', G1, G2, dj3, s1, s2, e2, rt, re3⟩ := re2.take e
  rw [ev] at e2
  cases e2
  refine k _ _ _ _ _ _ (Nxt.trans o n2 m2) ⟨G2, fun a => G1 a ∨ F2 a, fun a h1 h2 => ?_, fun a h => .inl (s2 a h), fun a h => h.elim (fun z => .inl (s1 a z)) .inr, re3, Rs.cons (fun a h1 h2 => dj2 a (s1 a h1) h2) (fun _ => .inl) (fun _ => .inr) rt rvs⟩ ⟨by simp [hms.1], fun j l e => ?_⟩ p
  · exact h2.elim (fun z => dj3 a z h1) fun z => dj2 a (s2 a h1) z
  · rcases j with _ | j
    · have e : i = l := by simpa using e
      subst e
      exact ⟨v, ev, rfl⟩
    · exact hms.2 j l (by simpa using e)
theorem a_mvL {i : Nat} {x : Str} {es : List Expr} {da : DA} {ms : List (Option Nat)} (ha : TPA X W ms es da) (hN : X.N[i]? = some x) (hv : Vis X.env.scope x) (hs : starEach (.Name x pos :: es) X.env = (false, eval (.Name x pos) X.env) :: starEach es X.env := by rfl) (hd : (x == ("__debug__" : Str)) = false := by decide) (hcd : (x == ("__classdict__" : Str)) = false := by decide) : TPA X W (some i :: ms) (.Name x pos :: es) (dConsL i da) :=
  let ⟨_, a1, a2⟩ := ha; ⟨_, pa_cons (pe_var hN hv hd hcd) a1 hs, sa_consL a2⟩
end
/-! ### a number in a range -/
section
variable {X : Cx} {K : PySem.W.Frag}
theorem op_notIn_rng : OpR X (compareOp .NotIn) (fun x y H Q => ∃ i a lo hi, x = V.int i ∧ y = V.ref a ∧ H a = some (.rng lo hi) ∧ Q (.bl (!decide (lo ≤ i ∧ i < hi))) H) := by
  intro pins s σ H x y v u Q I rx ry h
  obtain ⟨i, a, lo, hi, rfl, rfl, ha, q⟩ := h
  obtain ⟨k, rfl⟩ := rx
  obtain rfl : u = Value.ref a := ry
  obtain ⟨t1, t2, t3, ho⟩ := I.hok a _ ha
  show wpAny _ _ (do return Value.bool (!(← contains (Value.ref a) (Value.int i k)))) _ _ s
  refine wpAny_bind (wpAny_contains_slot (T := "range") ⟨_, ho, rfl⟩ F.slot_range_contains (call_meets F.slot_range_contains ⟨_, ho, rfl⟩ F.entry_range_contains (F.args_range_contains_2 _ _) (q_contains a lo hi i t1 t2 t3 k)
    ⟨ho, wpAny_truthy_bool (wpAny_pure ⟨.bl _, H, I, rfl, ?_⟩)⟩))
  rw [place1]
  exact q
def fInR (n : Bool) : List T → (T → Prop) → Prop
  | [.lf (.int i), .nd _ (.rg lo hi) _], P => P (.lf (.bl (n ^^ decide (lo ≤ i ∧ i < hi))))
  | _, _ => False
theorem os_inR : OpS K (fInR true) (r2 fun x y H Q => ∃ i a lo hi, x = V.int i ∧ y = V.ref a ∧ H a = some (.rng lo hi) ∧ Q (.bl (!decide (lo ≤ i ∧ i < hi))) H) := by
  intro S H ts vs P Q s r d k
  unfold fInR at d
  split at d
  · obtain ⟨x, _, rfl, rx, y, _, rfl, ry, rfl⟩ := r
    cases rx.lf
    obtain ⟨a, rfl, ea⟩ := rd_rg s ry
    refine ⟨_, a, _, _, rfl, rfl, ea, ?_⟩
    rw [Bool.true_xor] at d
    exact fin_lf s k d
  · exact d.elim
end
/-! ### a child of a slot's thing is looked at: g(x[j]), x[j][z] -/
def fVia (f0 : Kd → List T → T → Option Nat) (f : List T → (T → Prop) → Prop) : List T → (T → Prop) → Prop
  | .nd true k xs :: ti :: ts, P => ti.fzd = true ∧ ∃ p t, f0 k xs ti = some p ∧ xs[p]? = some t ∧ f (t :: ts) P
  | _, _ => False
def rVia (r0 : R2) (r : List V → Hp → VK → Prop) : List V → Hp → VK → Prop
  | x :: y :: vs, H, Q => r0 x y H fun c H1 => r (c :: vs) H1 Q
  | _, _, _ => False
section
variable {K : PySem.W.Frag} {W : Wc} {f0 : Kd → List T → T → Option Nat} {f : List T → (T → Prop) → Prop} {r0 : R2} {r : List V → Hp → VK → Prop}
theorem os_via (hc : Cs K f0 r0) (hf : OpS K f r) : OpS K (fVia f0 f) (rVia r0 r) := by
  intro S H ts vs P Q s rd d k
  unfold fVia at d
  split at d
  · rename_i kk xs ti ts'
    obtain ⟨x, _, rfl, ⟨Dx, rx⟩, y, vr, rfl, ⟨Dy, ry⟩, rr⟩ := rd
    obtain ⟨hz, p, t, e1, e2, d⟩ := d
    cases rx with
    | own Df hD e hk hn hl h1 h2 h3 =>
      rename_i a u ws
      have hp : p < ws.length := by
        have := (List.getElem?_eq_some_iff.mp e2).1
        omega
      have ev : ws[p]? = some ws[p] := List.getElem?_eq_getElem hp
      refine hc S H a u kk xs ws ti y ws[p] p _ e hk hn hl (ry.fzd hz) e1 ev ?_
      exact hf S H (t :: ts') (ws[p] :: vr) P Q s ⟨_, _, rfl, ⟨_, h3 p t _ e2 ev⟩, rr⟩ d k
  · exact d.elim
def dVia (f0 : Kd → List T → T → Option Nat) (f : List T → (T → Prop) → Prop) (i : Nat) (oj : Od) (m : Nat) : DE := fun env P Ex => dLs [.pk i, oj] env (fun rs env1 => ∃ tx tj tm, rdAll env1 rs = some [tx, tj] ∧ env1[m]? = some (some tm) ∧ fVia f0 f [tx, tj, tm] fun t => P t env1) Ex
def gVia (r0 g : R2) (σ : L2.St) (m : Nat) (Q : VK) : List V → Hp → Prop
  | [x, y], H1 => r0 x y H1 fun c H2 => ∃ v, σ[m]? = some (some v) ∧ g c v H2 Q
  | _, _ => False
theorem se_via {g : R2} {tj : TE} {oj : Od} {i m : Nat} (hc : Cs K f0 r0) (hm : ∀ {x y : V} {H : Hp} {Q Q' : VK}, (∀ v H, Q v H → Q' v H) → r0 x y H Q → r0 x y H Q') (hj : SO K W tj oj) (hf : OpS K f (r2 g)) : SE K W (tOp g (tOp r0 (tVar i) tj) (tVar m)) (dVia f0 f i oj m) := fun S D H σ env Q P Ex o re d k x => by
  have hl : SL K W (tCons (tVar i) (tCons tj tNil)) (dLs [.pk i, oj]) := sl_cons (od := .pk i) rfl (sl_cons hj sl_nil)
  have z := hl S D H σ env (gVia r0 g σ m Q) _ Ex o re d (fun S' D' H' env' rs vs n r' rd p => ?_) x
  · exact z
  · obtain ⟨tx, tj', tm, e1, e2, p⟩ := p
    obtain ⟨vm, em, rm⟩ := r'.get e2
    obtain ⟨vx, _, rfl, rx, vy, _, rfl, ry, rfl⟩ := rdAll_ok r' rd e1
    have q := os_via (r0 := r0) hc hf S' H' [tx, tj', tm] [vx, vy, vm] _ Q n.ok.sub ⟨vx, _, rfl, rx, vy, _, rfl, ry, vm, _, rfl, ⟨_, rm⟩, rfl⟩ p fun t v S2 H2 Dn f rt p2 => by
      obtain ⟨n2, dj⟩ := Nxt.frs n.ok f
      exact k _ _ _ _ _ _ (Nxt.trans o n n2) (Rz.mk dj (r'.mono f.s1 (fun a ob _ e => f.s _ _ e) fun _ h => h) rt) p2
    exact hm (fun c H2 q => ⟨vm, em, q⟩) (show r0 vx vy H' (fun c H1 => g c vm H1 Q) from q)
theorem mo_rDG {x y : V} {H : Hp} {Q Q' : VK} (h : ∀ v H, Q v H → Q' v H) : rDG x y H Q → rDG x y H Q' := fun ⟨a, v, e, g, q⟩ => ⟨a, v, e, g, h _ _ q⟩
theorem mo_rIx {K : PySem.W.Frag} {x y : V} {H : Hp} {Q Q' : VK} (h : ∀ v H, Q v H → Q' v H) : rIx K x y H Q → rIx K x y H Q' := by
  rintro (⟨p, xs, i, v, a, b, c, d, q⟩ | ⟨p, xs, i, v, a, b, c, d, q⟩ | ⟨z, i, c, a, b, d, e, q⟩)
  · exact .inl ⟨p, xs, i, v, a, b, c, d, h _ _ q⟩
  · exact .inr (.inl ⟨p, xs, i, v, a, b, c, d, h _ _ q⟩)
  · exact .inr (.inr ⟨z, i, c, a, b, d, e, h _ _ q⟩)
end
section
variable {X : Cx} {W : Wc} {pos cpos npos spos p : Pos} {i m : Nat} {x b y : Str} {idx : Expr} {oj : Od} {f : List T → (T → Prop) → Prop} {r : V → List V → Hp → VK → Prop}
theorem t_BViaD {r : List V → Hp → VK → Prop} {id : String} (hu : X.A.units + 1 < cLine) (hc : CallR X (.builtin id) r) (hf : OpS X.K f r) (hg : Gl X b) (hm : X.mg b = none) (hbv : bootBuiltins b = some (.builtin id)) (hN : X.N[i]? = some x) (hv : Vis X.env.scope x) (hj : TPO X W idx oj) (hn : b ≠ "__name__" := by decide) (hdb : (b == ("__debug__" : Str)) = false := by decide)
    (hd : (x == ("__debug__" : Str)) = false := by decide) (hcd : (x == ("__classdict__" : Str)) = false := by decide) (hs : NoSl idx := by exact fun _ _ => rfl)
    (he : starEach [.Subscript (.Name x npos) idx spos] X.env = [(false, eval (.Subscript (.Name x npos) idx spos) X.env)] := by rfl) (hpl : (backTo cpos (starEach [] X.env)).any (·.1) = false := by rfl) : TPE X W (.Call (.Name b p) [.Subscript (.Name x npos) idx spos] [] cpos) (dOp (fVia chD f) [.pk i, oj]) := by
  obtain ⟨tj, j1, j2⟩ := hj
  exact ⟨_, pe_callB hc hg hm hbv (pa_cons (pe_dget hu (pe_var hN hv hd hcd) j1 hs) pa_nil he) hn hdb he hpl, se_op (r := rVia rDG r) (ta := tCons (tVar i) (tCons tj tNil)) (sl_cons (od := .pk i) rfl (sl_cons j2 sl_nil)) (os_via cs_dict hf)⟩
theorem t_TyViaD {r : List V → Hp → VK → Prop} {T' : String} (hu : X.A.units + 1 < cLine) (hc : CallR X (.type T') r) (hf : OpS X.K f r) (hg : Gl X b) (hm : X.mg b = none) (hbv : bootBuiltins b = some (.type T')) (hN : X.N[i]? = some x) (hv : Vis X.env.scope x) (hj : TPO X W idx oj) (hn : b ≠ "__name__" := by decide) (hdb : (b == ("__debug__" : Str)) = false := by decide)
    (hd : (x == ("__debug__" : Str)) = false := by decide) (hcd : (x == ("__classdict__" : Str)) = false := by decide) (hs : NoSl idx := by exact fun _ _ => rfl)
    (he : starEach [.Subscript (.Name x npos) idx spos] X.env = [(false, eval (.Subscript (.Name x npos) idx spos) X.env)] := by rfl) (hpl : (backTo cpos (starEach [] X.env)).any (·.1) = false := by rfl) : TPE X W (.Call (.Name b p) [.Subscript (.Name x npos) idx spos] [] cpos) (dOp (fVia chD f) [.pk i, oj]) := by
  obtain ⟨tj, j1, j2⟩ := hj
  exact ⟨_, pe_callTy hc hg hm hbv (pa_cons (pe_dget hu (pe_var hN hv hd hcd) j1 hs) pa_nil he) hn hdb he hpl, se_op (r := rVia rDG r) (ta := tCons (tVar i) (tCons tj tNil)) (sl_cons (od := .pk i) rfl (sl_cons j2 sl_nil)) (os_via cs_dict hf)⟩
theorem t_BViaL {r : List V → Hp → VK → Prop} {id : String} (hc : CallR X (.builtin id) r) (hf : OpS X.K f r) (hg : Gl X b) (hm : X.mg b = none) (hbv : bootBuiltins b = some (.builtin id)) (hN : X.N[i]? = some x) (hv : Vis X.env.scope x) (hj : TPO X W idx oj) (hn : b ≠ "__name__" := by decide) (hdb : (b == ("__debug__" : Str)) = false := by decide)
    (hd : (x == ("__debug__" : Str)) = false := by decide) (hcd : (x == ("__classdict__" : Str)) = false := by decide) (hs : PlainIx idx := by exact fun _ _ => rfl)
    (he : starEach [.Subscript (.Name x npos) idx spos] X.env = [(false, eval (.Subscript (.Name x npos) idx spos) X.env)] := by rfl) (hpl : (backTo cpos (starEach [] X.env)).any (·.1) = false := by rfl) : TPE X W (.Call (.Name b p) [.Subscript (.Name x npos) idx spos] [] cpos) (dOp (fVia chL f) [.pk i, oj]) := by
  obtain ⟨tj, j1, j2⟩ := hj
  exact ⟨_, pe_callB hc hg hm hbv (pa_cons (pe_ix ix_seq (pe_var hN hv hd hcd) j1 hs) pa_nil he) hn hdb he hpl, se_op (r := rVia (rIx X.K) r) (ta := tCons (tVar i) (tCons tj tNil)) (sl_cons (od := .pk i) rfl (sl_cons j2 sl_nil)) (os_via cs_list hf)⟩
theorem t_TyViaL {r : List V → Hp → VK → Prop} {T' : String} (hc : CallR X (.type T') r) (hf : OpS X.K f r) (hg : Gl X b) (hm : X.mg b = none) (hbv : bootBuiltins b = some (.type T')) (hN : X.N[i]? = some x) (hv : Vis X.env.scope x) (hj : TPO X W idx oj) (hn : b ≠ "__name__" := by decide) (hdb : (b == ("__debug__" : Str)) = false := by decide)
    (hd : (x == ("__debug__" : Str)) = false := by decide) (hcd : (x == ("__classdict__" : Str)) = false := by decide) (hs : PlainIx idx := by exact fun _ _ => rfl)
    (he : starEach [.Subscript (.Name x npos) idx spos] X.env = [(false, eval (.Subscript (.Name x npos) idx spos) X.env)] := by rfl) (hpl : (backTo cpos (starEach [] X.env)).any (·.1) = false := by rfl) : TPE X W (.Call (.Name b p) [.Subscript (.Name x npos) idx spos] [] cpos) (dOp (fVia chL f) [.pk i, oj]) := by
  obtain ⟨tj, j1, j2⟩ := hj
  exact ⟨_, pe_callTy hc hg hm hbv (pa_cons (pe_ix ix_seq (pe_var hN hv hd hcd) j1 hs) pa_nil he) hn hdb he hpl, se_op (r := rVia (rIx X.K) r) (ta := tCons (tVar i) (tCons tj tNil)) (sl_cons (od := .pk i) rfl (sl_cons j2 sl_nil)) (os_via cs_list hf)⟩
theorem t_ixViaD {g : R2} (hu : X.A.units + 1 < cLine) (hr : IxR X g) (hf : OpS X.K f (r2 g)) (hN : X.N[i]? = some x) (hv : Vis X.env.scope x) (hj : TPO X W idx oj) (hM : X.N[m]? = some y) (hvy : Vis X.env.scope y) (hd : (x == ("__debug__" : Str)) = false := by decide) (hcd : (x == ("__classdict__" : Str)) = false := by decide)
    (hd2 : (y == ("__debug__" : Str)) = false := by decide) (hcd2 : (y == ("__classdict__" : Str)) = false := by decide) (hs : NoSl idx := by exact fun _ _ => rfl) {ypos : Pos} (hs2 : PlainIx (.Name y ypos) := by exact fun _ _ => rfl) : TPE X W (.Subscript (.Subscript (.Name x npos) idx spos) (.Name y ypos) pos) (dVia chD f i oj m) := by
  obtain ⟨tj, j1, j2⟩ := hj
  exact ⟨_, pe_ix hr (pe_dget hu (pe_var hN hv hd hcd) j1 hs) (pe_var hM hvy hd2 hcd2) hs2, se_via (r0 := rDG) cs_dict mo_rDG j2 hf⟩
theorem t_ixViaL {g : R2} (hr : IxR X g) (hf : OpS X.K f (r2 g)) (hN : X.N[i]? = some x) (hv : Vis X.env.scope x) (hj : TPO X W idx oj) (hM : X.N[m]? = some y) (hvy : Vis X.env.scope y) (hd : (x == ("__debug__" : Str)) = false := by decide) (hcd : (x == ("__classdict__" : Str)) = false := by decide)
    (hd2 : (y == ("__debug__" : Str)) = false := by decide) (hcd2 : (y == ("__classdict__" : Str)) = false := by decide) (hs : PlainIx idx := by exact fun _ _ => rfl) {ypos : Pos} (hs2 : PlainIx (.Name y ypos) := by exact fun _ _ => rfl) : TPE X W (.Subscript (.Subscript (.Name x npos) idx spos) (.Name y ypos) pos) (dVia chL f i oj m) := by
  obtain ⟨tj, j1, j2⟩ := hj
  exact ⟨_, pe_ix hr (pe_ix ix_seq (pe_var hN hv hd hcd) j1 hs) (pe_var hM hvy hd2 hcd2) hs2, se_via (r0 := rIx X.K) cs_list mo_rIx j2 hf⟩
end
/-! ### for y in x: x[y].append(text), x's things its own; x is done with behind it -/
def dForApp (i m : Nat) : DS := fun DT env => ∃ ks xs, env[i]? = some (some (.nd true (.dk ks) xs)) ∧ (∀ x ∈ xs, ∃ ys, x = .nd true .lst ys ∧ ys.length < sizeLine) ∧ m < env.length ∧ DT.nx ((env.set i none).set m none)
section
variable {X : Cx} {W : Wc} {io : List Nat} {pos cpos apos npos spos tp ipos kpos epos : Pos} {i m : Nat} {x y c : Str} {ck : Option Str}
theorem ixOf_nd {κ : Type} [DecidableEq κ] : ∀ {ks : List κ} {k : κ} {i : Nat}, ks.Nodup → ks[i]? = some k → ixOf ks k = some i
  | [], _, _, _, h => by simp at h
  | k0 :: ks, k, 0, _, h => by
    cases h
    unfold ixOf
    rw [if_pos rfl]
  | k0 :: ks, k, i + 1, nd, h => by
    have h' : ks[i]? = some k := by simpa using h
    have nd' := List.nodup_cons.mp nd
    unfold ixOf
    rw [if_neg (fun e : k0 = k => nd'.1 (by rw [e]; exact List.mem_of_getElem? h')), ixOf_nd nd'.2 h']
    rfl
theorem ss_forApp {K : PySem.W.Frag} {c : Str} (hmi : m ≠ i) (hio : ∀ j ∈ io, j ≠ m) : SS K W io (tFor (iKeys fun σ H Q => tVar i σ H fun x H1 => ∃ d, x = .ref d ∧ ((∃ o u, H1 d = some (.frz o u) ∧ Q x H1) ∨ ∃ u, H1 d = some u ∧ Mut (some u) ∧ ∀ od, Q x (upd H1 d (.frz od u)))) (gName m) (fun D σ H => tBM K "list" rAppend (tDGet (tVar i) (tVar m)) (tCons (tC (.str c)) tNil) σ H fun _ H' => D.nx σ H')) (dForApp i m) := fun S D H σ0 σ env DT DD o r iov d l => by
  obtain ⟨ks, xs, e, hx, hml, p⟩ := d
  obtain ⟨v, D1, D2, dj, s1, s2, ev, q, re⟩ := r.take e
  cases q with
  | @own a u _ _ vs _ Df hD ea hk hn hl h1 h2 h3 =>
    cases hk
    refine ⟨.ref a, ev, a, rfl, .inr ⟨_, ea, trivial, fun od => ⟨a, od, rfl, .inl ⟨ks.zip vs, upd_same, ?_⟩⟩⟩⟩
    have hlen : (ks.zip vs).length = vs.length := by rw [List.length_zip, hn.1, Nat.min_self]
    refine for_it (g := gName m) (tb := fun D σ H => tBM K "list" rAppend (tDGet (tVar i) (tVar m)) (tCons (tC (.str c)) tNil) σ H fun _ H' => D.nx σ H') (D := DD) (σ := σ) (H := upd H a (.frz od (.dK (ks.zip vs)))) walk_keys (fun j σ' H' => σ'.length = σ.length ∧ (∀ l, l ≠ m → σ'[l]? = σ[l]?) ∧ (∀ x, ¬ D1 x → H' x = H x) ∧ H' a = some (.frz od (.dK (ks.zip vs))) ∧ ∀ l x, j ≤ l → Df l x → H' x = H x) ⟨rfl, fun _ _ => rfl, fun x hx => upd_ne fun z => hx (z ▸ hD), upd_same, fun l x _ hx => upd_ne fun z => (h2 l x hx).2 z⟩ (fun _ _ _ _ h => h.2.2.2.1) ?_ ?_
    · rintro j kx σ' H1 H2 hj ⟨g1, g2, g3, g4, g5⟩ ⟨rfl, k, w, hkw, rfl⟩
      have hj' : j < vs.length := hlen ▸ hj
      obtain ⟨ek, ew⟩ : ks[j]? = some k ∧ vs[j]? = some w := by
        rw [List.getElem?_zip_eq_some] at hkw
        exact hkw
      have hjx : j < xs.length := by omega
      obtain ⟨ys, exj, hys⟩ := hx _ (List.getElem_mem hjx)
      have rj := h3 j _ w (List.getElem?_eq_getElem hjx) ew
      rw [exj] at rj
      cases rj with
      | @own b u2 _ _ ws _ Df2 hD2 eb hk2 hn2 hl2 h12 h22 h32 =>
        cases hk2
        have eb' : H2 b = some (.lst ws) := by rw [g5 j b (Nat.le_refl _) hD2]; exact eb
        have hm : m < σ'.length := by rw [g1, ← r.1]; exact hml
        refine ⟨.ref a, ?_, kV k, ?_, a, .ref b, rfl, ?_, ⟨.inl ⟨rfl, ws, .of eb'⟩, b, ws, .str c, rfl, rfl, eb', by omega, ?_⟩⟩
        · rw [List.getElem?_set_ne hmi, g2 i (Ne.symm hmi)]
          exact ev
        · exact List.getElem?_set_self hm
        · refine .inl ⟨_, k, .inr ⟨od, g4⟩, rfl, ?_⟩
          rw [valV_zip k hn.1]
          unfold dg
          rw [show ixOf ks k = some j from ixOf_nd hn.2 ek]
          exact ew.symm
        · refine ⟨by rw [List.length_set]; exact g1, fun l hl => ?_, fun x hx => ?_, ?_, fun l x hl hx => ?_⟩
          · rw [List.getElem?_set_ne (Ne.symm hl)]; exact g2 l hl
          · rw [upd_ne fun z => hx (by rw [z]; exact (h2 j b hD2).1)]; exact g3 x hx
          · rw [upd_ne fun z => (h2 j b hD2).2 z.symm]; exact g4
          · rw [upd_ne fun z => by
              have := h1 l j x hx (z ▸ hD2)
              omega]
            exact g5 l x (by omega) hx
    · rintro σ' H' ⟨g1, g2, g3, g4, g5⟩
      have out : ∀ x, D2 x → ¬ D1 x := fun x h h' => dj x h' h
      refine l.nx S D2 H' _ σ' ⟨⟨o.g, fun x ob h => ?_, fun x h => ⟨(o.dis x (s2 x h)).1, ?_⟩⟩, .refl _, fun x h => .inl (s2 x h), fun x ob h hD' _ => ?_, fun _ h => .inl h⟩ ?_ (fun j hj => ?_) p
      · rw [g3 x fun z => by rw [(o.dis x (s1 x z)).1] at h; cases h]
        exact o.sub _ _ h
      · rw [g3 x (out x h)]
        exact (o.dis x (s2 x h)).2
      · rw [g3 x fun z => hD' (s1 x z)]
        exact h
      · have : σ' = σ.set m (σ'[m]?.join) := by
          refine List.ext_getElem? fun l => ?_
          by_cases hl : l = m
          · subst hl
            rw [List.getElem?_set_self (by rw [← r.1]; exact hml)]
            rw [List.getElem?_eq_getElem (by rw [g1, ← r.1]; exact hml)]
            rfl
          · rw [List.getElem?_set_ne (Ne.symm hl)]; exact g2 l hl
        rw [this]
        exact (re.drop m).mono (.refl _) (fun x ob hx h => by rw [g3 x (out x hx)]; exact h) fun _ h => h
      · rw [g2 j (hio j hj)]
        exact iov j hj
theorem s_forApp {it tg call : Expr} (hp : PassesOwn (model X.prog X.w) X.A X.env X.xe) (hc : X.calm = true) (hi : PE X it (tVar i)) (hg : PG X tg (gName m)) (hb : PE X call (tBM X.K "list" rAppend (tDGet (tVar i) (tVar m)) (tCons (tC (.str c)) tNil))) (hmi : m ≠ i) (hio : ∀ j ∈ io, j ≠ m)
    (hs : ∀ x, foldedSetIterable it X.env x = pure x := by intro _; rfl) (hs2 : swapsWith call none epos.line X.env = pure false := by rfl) : TPS X W io (.For tg it [.Expr call epos] [] pos) (dForApp i m) :=
  ⟨_, ps_for hp hc (pi_keys (pe_lockP hi)) hg (pss_one (ps_expr hb hs2)) hs, ss_forApp hmi hio⟩
end
section
/-! ### xs[::-1] -/
variable {K : PySem.W.Frag}
def fRev : List T → (T → Prop) → Prop
  | [.nd o .lst xs], P => ko o xs ∧ P (.nd true .lst xs.reverse)
  | _, _ => False
theorem os_rev : OpS K fRev (r1 fun x H Q => ∃ a xs, x = .ref a ∧ SqL K H a xs ∧ ∀ p, H p = none → Q (.ref p) (upd H p (.lst xs.reverse))) := by
  intro S H ts vs P Q s r d k
  unfold fRev at d
  split at d
  · rename_i o xs
    obtain ⟨x, _, rfl, rx, rfl⟩ := r
    obtain ⟨a, vs, rfl, ea, ka⟩ := rx.lst s
    refine ⟨a, vs, rfl, .of ea, fun p hp => fin_new (kd := .lst) s k hp rfl trivial ?_ (fun i t v e1 e2 => ?_) d.2⟩
    · rw [List.length_reverse, List.length_reverse, ka.len]
    · have hi : i < xs.length := by
        have := List.getElem?_eq_some_iff.mp e1
        obtain ⟨h, _⟩ := this
        rwa [List.length_reverse] at h
      have hi2 : i < vs.length := ka.len ▸ hi
      rw [List.getElem?_reverse hi] at e1
      rw [List.getElem?_reverse hi2, ← ka.len] at e2
      exact ka.fz d.1 _ _ _ e1 e2
  · exact d.elim
end
section
variable {X : Cx} {W : Wc} {o1 : Od} {e : Expr} {k : Nat} {p1 p2 p3 pos : Pos}
theorem t_rev (h : TPO X W e o1) : TPE X W (.Subscript e (.Slice none none (some (.UnaryOp .USub (.Constant (.int 1) k p1) p2)) p3) pos) (dOp fRev [o1]) :=
  let ⟨_, a1, a2⟩ := h; ⟨_, pe_revL a1, se_op (r := r1 fun x H Q => ∃ a xs, x = .ref a ∧ SqL X.K H a xs ∧ ∀ p, H p = none → Q (.ref p) (upd H p (.lst xs.reverse))) (sl_cons a2 sl_nil) os_rev⟩
end
end Tr

set_option Elab.async false
set_option linter.all false
set_option maxRecDepth 100000
set_option maxHeartbeats 1000000
set_option autoImplicit false
namespace Tr
open PySem PySem.Spec PyProof.Rows L2 Cm
local macro_rules | `(tactic| walk_at "vis") => `(tactic| (first | exact Or.inl rfl | exact Or.inr (Or.inl rfl) | exact Or.inr (Or.inr rfl)))
local macro_rules | `(tactic| walk_at "loc") => `(tactic| (first | exact Or.inl rfl | exact Or.inr rfl))
/-! ### instances: fields -/
def chF (C : Addr) (f : Str) : Kd → List T → T → Option Nat
  | .ins C' fs, _, _ => if C' = C then ixOf fs f else none
  | _, _, _ => none
def rFldR (K : PySem.W.Frag) (f : Str) : R2 := fun x _ H Q => ∃ a C dx fs v, x = .ref a ∧ H a = some (.ins C dx fs) ∧ Cls K C ∧ NoAttr K C f ∧ fs.lookup f = some v ∧ Q v H
theorem ix_look {α : Type} : ∀ {fs : List Str} {xs : List α} {f : Str} {p : Nat} {x : α}, ixOf fs f = some p → xs[p]? = some x → (fs.zip xs).lookup f = some x
  | [], xs, f, p, x, h, _ => by cases h
  | g :: fs, [], f, p, x, _, h => by simp at h
  | g :: fs, y :: ys, f, p, x, h, e => by
    unfold ixOf at h
    rw [List.zip_cons_cons, List.lookup_cons]
    by_cases c : g = f
    · subst c
      rw [if_pos rfl] at h
      cases h
      rw [show (g == g) = true from beq_self_eq_true g]
      simpa using e
    · rw [if_neg c] at h
      rw [show (f == g) = false from beq_eq_false_iff_ne.mpr fun z => c z.symm]
      cases q : ixOf fs f with
      | none => rw [q] at h; cases h
      | some j =>
        rw [q] at h
        cases h
        exact ix_look q (by simpa using e)
theorem ix_nolook {α : Type} : ∀ {fs : List Str} {xs : List α} {f : Str}, ixOf fs f = none → (fs.zip xs).lookup f = none
  | [], xs, f, h => rfl
  | g :: fs, [], f, _ => rfl
  | g :: fs, y :: ys, f, h => by
    unfold ixOf at h
    rw [List.zip_cons_cons, List.lookup_cons]
    by_cases c : g = f
    · rw [if_pos c] at h; cases h
    · rw [if_neg c] at h
      rw [show (f == g) = false from beq_eq_false_iff_ne.mpr fun z => c z.symm]
      cases q : ixOf fs f with
      | none => exact ix_nolook q
      | some j => rw [q] at h; cases h
theorem cs_fld {K : PySem.W.Frag} {C : Addr} {f : Str} (hC : Cls K C) (hN : NoAttr K C f) : Cs K (chF C f) (rFldR K f) := by
  intro S H a u k xs vs ti vi v p Q ea hk hl0 hl rj e ev q
  unfold chF at e
  split at e
  · split at e
    · rename_i c
      subst c
      obtain ⟨dx, rfl⟩ := hk
      exact ⟨a, _, dx, _, v, rfl, ea, hC, hN, ix_look e ev, q⟩
    · cases e
  · cases e
/-- the field f of an instance of C -/
def insAt (C : Addr) (f : Str) (t : T) (P : T → Prop) : Prop := match t with
  | .nd _ (.ins C' fs) ts => C' = C ∧ ∃ p u, ixOf fs f = some p ∧ ts[p]? = some u ∧ P u
  | _ => False
/-- an instance of C, without a field of the name m -/
def insC (C : Addr) (m : Str) (t : T) : Prop := match t with
  | .nd _ (.ins C' fs) _ => C' = C ∧ ixOf fs m = none
  | _ => False
section
variable {K : PySem.W.Frag} {W : Wc} {S H : Hp} {C : Addr} {f m : Str} {t : T} {v : V} {D : AP}
theorem ins_rd {P : T → Prop} (s : Same S H) (r : R K S H t v D) (h : insAt C f t P) : ∃ a dx fvs w u Dc, v = .ref a ∧ H a = some (.ins C dx fvs) ∧ fvs.lookup f = some w ∧ Sub Dc D ∧ R K S H u w Dc ∧ (t.fzd = true → R K S H u w no) ∧ P u := by
  unfold insAt at h
  split at h
  · rename_i ow C' fs ts
    obtain ⟨rfl, p, u, e1, e2, h⟩ := h
    cases r with
    | @own a uu k xs vs D Df hD e hk hn hl h1 h2 h3 =>
      obtain ⟨dx, rfl⟩ := hk
      have hp : p < vs.length := by
        have := (List.getElem?_eq_some_iff.mp e2).1
        omega
      have ev : vs[p]? = some vs[p] := List.getElem?_eq_getElem hp
      exact ⟨a, dx, _, vs[p], u, Df p, rfl, e, ix_look e1 ev, fun b hb => (h2 p b hb).1, h3 p u _ e2 ev, fun z => by simp at z, h⟩
    | @fz a k xs vs D hk hn hl h3 =>
      obtain ⟨uu, e, dx, rfl⟩ := hk
      have hp : p < vs.length := by
        have := (List.getElem?_eq_some_iff.mp e2).1
        omega
      have ev : vs[p]? = some vs[p] := List.getElem?_eq_getElem hp
      exact ⟨a, dx, _, vs[p], u, no, rfl, s _ _ e, ix_look e1 ev, fun b hb => hb.elim, h3 p u _ e2 ev, fun _ => h3 p u _ e2 ev, h⟩
  · exact h.elim
theorem ins_of (s : Same S H) (r : R K S H t v D) (h : insC C m t) : ∃ a dx fvs, v = .ref a ∧ H a = some (.ins C dx fvs) ∧ fvs.lookup m = none := by
  unfold insC at h
  split at h
  · rename_i ow C' fs ts
    obtain ⟨rfl, e1⟩ := h
    cases r with
    | @own a uu k xs vs D Df hD e hk hn hl h1 h2 h3 =>
      obtain ⟨dx, rfl⟩ := hk
      exact ⟨a, dx, _, rfl, e, ix_nolook e1⟩
    | @fz a k xs vs D hk hn hl h3 =>
      obtain ⟨uu, e, dx, rfl⟩ := hk
      exact ⟨a, dx, _, rfl, s _ _ e, ix_nolook e1⟩
  · exact h.elim
/-- e.f, of a frozen thing -/
def dFld (C : Addr) (f : Str) (de : DE) : DE := fun env P Ex => de env (fun t env1 => insAt C f t.fz fun u => P u env1) Ex
theorem se_fld {te : TE} {de : DE} (hC : Cls K C) (hN : NoAttr K C f) (h : SE K W te de) : SE K W (tFld K te f) (dFld C f de) := fun S D H σ env Q P Ex o r d k x => by
  refine h S D H σ env _ _ Ex o r d (fun S1 D1 H1 env1 t v n rz p => ?_) x
  obtain ⟨S2, D2, n2, re2, q⟩ := rz.frz n.ok
  obtain ⟨a, dx, fvs, w, u, Dc, rfl, ea, el, _, _, ru, p⟩ := ins_rd n2.ok.sub q p
  exact ⟨a, C, dx, fvs, w, rfl, ea, hC, hN, el, k _ _ _ _ _ _ (Nxt.trans o n n2) (.fr re2 (ru (by simp))) p⟩
/-- x.f, x a slot's thing, its field frozen -/
def dFldS (i : Nat) (C : Addr) (f : Str) : DE := fun env P _ => ∃ t, env[i]? = some (some t) ∧ insAt C f t fun u => u.fzd = true ∧ P u env
theorem se_fldS {i : Nat} (hC : Cls K C) (hN : NoAttr K C f) : SE K W (tFld K (tVar i) f) (dFldS i C f) := fun S D H σ env Q P Ex o r d k x => by
  obtain ⟨t, et, d⟩ := d
  obtain ⟨v, ev, q⟩ := r.get et
  obtain ⟨a, dx, fvs, w, u, Dc, rfl, ea, el, _, ru, _, hz, p⟩ := ins_rd o.sub q d
  exact ⟨_, ev, a, C, dx, fvs, w, rfl, ea, hC, hN, el, k _ _ _ _ _ _ (Nxt.refl o) (.fr r (ru.fzd hz)) p⟩
/-! an operation that looks at a slot's thing's field: the field first (A), last (B) -/
def dOpA (f : List T → (T → Prop) → Prop) (i : Nat) (C : Addr) (g : Str) (os : List Od) : DE := fun env P Ex => ∃ t, env[i]? = some (some t) ∧ insAt C g t fun u => dLs os (env.set i none) (fun rs env2 => ∃ ts, rdAll env2 rs = some ts ∧ f (u :: ts) fun z => P z (env2.set i (some t))) (fun ex env2 => Ex ex (env2.set i (some t)))
def dOpB (f : List T → (T → Prop) → Prop) (o1 : Od) (i : Nat) (C : Addr) (g : Str) : DE := fun env P Ex => dLs [o1] env (fun rs env1 => ∃ t t0, env1[i]? = some (some t) ∧ rdAll env1 rs = some [t0] ∧ insAt C g t fun u => f [t0, u] fun z => P z env1) Ex
theorem se_opA {fo : List T → (T → Prop) → Prop} {r : List V → Hp → VK → Prop} {i : Nat} {g : Str} {ta : TA} {os : List Od} (hC : Cls K C) (hN : NoAttr K C g) (hl : SL K W ta (dLs os)) (ho : OpS K fo r) : SE K W (fun σ H Q => tFld K (tVar i) g σ H fun v H1 => ta σ H1 fun vs H2 => r (v :: vs) H2 Q) (dOpA fo i C g os) := fun S D H σ env Q P Ex o re d k x => by
  obtain ⟨t, et, d⟩ := d
  obtain ⟨v, D1, D2, dj, s1, s2, ev, q, re2⟩ := re.take et
  obtain ⟨a, dx, fvs, w, u, Dc, rfl, ea, el, sc, ru, _, d⟩ := ins_rd o.sub q d
  refine ⟨_, ev, a, C, dx, fvs, w, rfl, ea, hC, hN, el, ?_⟩
  have sO : Sub (fun b => D2 b ∨ D1 b) D := fun b h => h.elim (s2 b) (s1 b)
  have o2 : Ok W.g S (fun b => D2 b ∨ D1 b) H := o.sm sO
  refine hl S D2 H σ _ _ _ _ (o2.sm fun _ => .inl) re2 d (fun S1 E1 H1 env1 rs vs n1 re1 rd hp => ?_) fun S1 E1 H1 env1 ex cls dd n1 re1 rx e => ?_
  · obtain ⟨ts, e1, p⟩ := hp
    obtain ⟨fr, djf, kp⟩ := Nxt.frame o2 (fun b h h' => dj b h' h) n1
    have ru1 : R K S1 H1 u w Dc := ru.mono fr.fs (fun b ob h e => kp b ob (sc b h) e) fun _ h => h
    refine ho S1 H1 (u :: ts) (w :: vs) _ Q fr.ok.sub ⟨w, vs, rfl, ⟨_, ru1⟩, rdAll_ok re1 rd e1⟩ p fun z v2 S2 H2 Dn ff rt p2 => ?_
    have r3 := Re.back (D := fun b => E1 b ∨ D1 b) djf (fun _ => .inl) (fun _ => .inr) re1 i ev (q.mono fr.fs (fun b ob h e => kp b ob h e) fun _ h => h)
    obtain ⟨n2, dj2⟩ := Nxt.frs fr.ok ff
    exact k _ _ _ _ _ _ (Nxt.trans o (Nxt.trans o (Nxt.shrink o sO) fr) n2) (Rz.mk dj2 (r3.mono ff.s1 (fun b ob _ e => ff.s _ _ e) fun _ h => h) rt) p2
  · obtain ⟨fr, djf, kp⟩ := Nxt.frame o2 (fun b h h' => dj b h' h) n1
    exact x _ _ _ _ _ _ _ (Nxt.trans o (Nxt.shrink o sO) fr) (Re.back (D := fun b => E1 b ∨ D1 b) djf (fun _ => .inl) (fun _ => .inr) re1 i ev (q.mono fr.fs (fun b ob h e => kp b ob h e) fun _ h => h)) rx e
def opB1 (K : PySem.W.Frag) (r : R2) (i : Nat) (g : Str) (σ : L2.St) (Q : VK) : List V → Hp → Prop
  | [y], H1 => tFld K (tVar i) g σ H1 fun v H2 => r y v H2 Q
  | _, _ => False
theorem se_opB {fo : List T → (T → Prop) → Prop} {r : R2} {o1 : Od} {i : Nat} {g : Str} {te : TE} (hC : Cls K C) (hN : NoAttr K C g) (h : SO K W te o1) (ho : OpS K fo (r2 r)) : SE K W (tOp r te (tFld K (tVar i) g)) (dOpB fo o1 i C g) := fun S D H σ env Q P Ex o re d k x => by
  have hl : SL K W (tCons te tNil) (dLs [o1]) := sl_cons h sl_nil
  have z : tCons te tNil σ H (opB1 K r i g σ Q) := hl S D H σ env _ _ Ex o re d (fun S1 D1 H1 env1 rs vs n1 re1 rd hp => by
    obtain ⟨t, t0, et, e1, p⟩ := hp
    obtain ⟨v, ev, q⟩ := re1.get et
    obtain ⟨a, dx, fvs, w, u, Dc, rfl, ea, el, sc, ru, _, p⟩ := ins_rd n1.ok.sub q p
    obtain ⟨y, _, rfl, ry, rfl⟩ := rdAll_ok re1 rd e1
    refine ⟨_, ev, a, C, dx, fvs, w, rfl, ea, hC, hN, el, ?_⟩
    exact ho S1 H1 [t0, u] [y, w] _ Q n1.ok.sub ⟨y, _, rfl, ry, w, _, rfl, ⟨_, ru⟩, rfl⟩ p fun z v2 S2 H2 Dn ff rt p2 => by
      obtain ⟨n2, dj2⟩ := Nxt.frs n1.ok ff
      exact k _ _ _ _ _ _ (Nxt.trans o n1 n2) (Rz.mk dj2 (re1.mono ff.s1 (fun b ob _ e => ff.s _ _ e) fun _ h => h) rt) p2) x
  exact z
end
/-! ### a field is set -/
def fPutF (C : Addr) (f : Str) : FM := fun k xs ts P => match k, ts with
  | .ins C' fs, [t, _] => C' = C ∧ fs.length < 1000 ∧ P (.lf .non) (.ins C (dp fs xs f t).1) (dp fs xs f t).2
  | _, _ => False
def rPutF (K : PySem.W.Frag) (f : Str) : V → List V → Hp → VK → Prop := fun x ws H Q => match ws with
  | [y, _] => ∃ a C dx fs, x = .ref a ∧ H a = some (.ins C dx fs) ∧ Cls K C ∧ NoAttr K C f ∧ fs.length < 1000 ∧ Q .non (upd H a (.ins C dx (putF f y fs)))
  | _ => False
theorem putF_zip : ∀ {fs : List Str} {vs : List V} {f : Str} {y : V}, fs.length = vs.length → putF f y (fs.zip vs) = (dp fs vs f y).1.zip (dp fs vs f y).2
  | [], [], f, y, _ => rfl
  | [], _ :: _, _, _, h => by simp at h
  | _ :: _, [], _, _, h => by simp at h
  | g :: fs, v :: vs, f, y, h => by
    have ih := putF_zip (fs := fs) (vs := vs) (f := f) (y := y) (by simpa using h)
    rw [List.zip_cons_cons]
    unfold putF
    by_cases c : g = f
    · subst c
      simp [dp, ixOf]
    · rw [if_neg c, ih]
      have e1 : ixOf (g :: fs) f = (ixOf fs f).map (· + 1) := by
        conv => lhs; unfold ixOf
        rw [if_neg c]
      unfold dp
      rw [e1]
      cases ixOf fs f with
      | none => simp
      | some j => simp
theorem dp_lens {α β : Type} {fs : List Str} {xs : List α} {vs : List β} {f : Str} {t : α} {y : β} (h : xs.length = vs.length) (h2 : fs.length = vs.length) : (dp fs xs f t).2.length = (dp fs vs f y).2.length ∧ (dp fs xs f t).1 = (dp fs vs f y).1 ∧ (dp fs vs f y).1.length = (dp fs vs f y).2.length := by
  unfold dp
  cases ixOf fs f <;> simp [h, h2]
theorem ms_putF {K : PySem.W.Frag} {C : Addr} {f : Str} (hC : Cls K C) (hN : NoAttr K C f) : MtS K (fPutF C f) (rPutF K f) := by
  intro S H a u k xs vs ts ws Dk Da P Q ea hk hln rs rw1 dj s d kk
  unfold fPutF at d
  split at d
  · rename_i C' fs t t2
    obtain ⟨rfl, hl, d⟩ := d
    obtain ⟨dx, rfl⟩ := hk
    have hln : fs.length = vs.length := hln
    have hw := rw1.shape
    match ws, hw, rw1 with
    | [y, z], _, rw1 =>
      obtain ⟨E1, E2, dj2, x1, x2, r1, r2⟩ := rw1.uncons
      have hz : fs.zip vs = fs.zip vs := rfl
      refine ⟨a, C', dx, fs.zip vs, rfl, ea, hC, hN, by rw [List.length_zip]; omega, ?_⟩
      have hx := rs.shape
      obtain ⟨l1, l2, l3⟩ := dp_lens (f := f) (t := t) (y := y) hx hln
      refine kk (.lf .non) (.ins C' (dp fs xs f t).1) (dp fs xs f t).2 .non (dp fs vs f y).2 _ (fun b => Dk b ∨ E1 b) no ⟨dx, by rw [putF_zip hln, l2]⟩ ?_ ?_ .lf (fun _ _ h => h) (fun b h => h.elim .inl fun z => .inr (x1 b z)) (fun b h => h.elim) d
      · show (dp fs xs f t).1.length = _
        rw [l2]; exact l3
      · obtain ⟨hl0, Df, h1, h2, h3⟩ := rs
        have djE : ∀ b, Dk b → E1 b → False := fun b h h' => dj b h (x1 b h')
        unfold dp
        cases q : ixOf fs f with
        | none => exact Rs.app djE ⟨hl0, Df, h1, h2, h3⟩ (Rs.cons (D1 := E1) (D2 := no) (fun _ _ h => h) (fun _ h => h) (fun _ h => h.elim) r1 Rs.nil)
        | some j =>
          refine ⟨by simpa using hl0, fun i b => (i ≠ j ∧ Df i b) ∨ (i = j ∧ E1 b), fun i i' b c c' => ?_, fun i b c => c.elim (fun z => .inl (h2 i b z.2)) fun z => .inr z.2, fun i t' v' e1 e2 => ?_⟩
          · rcases c with ⟨c1, c2⟩ | ⟨c1, c2⟩ <;> rcases c' with ⟨c3, c4⟩ | ⟨c3, c4⟩
            · exact h1 i i' b c2 c4
            · exact (djE b (h2 i b c2) c4).elim
            · exact (djE b (h2 i' b c4) c2).elim
            · omega
          · by_cases c : i = j
            · subst c
              have hi : i < xs.length := by
                have := (List.getElem?_eq_some_iff.mp e1).1
                rwa [List.length_set] at this
              rw [List.getElem?_set_self hi] at e1
              rw [List.getElem?_set_self (by omega)] at e2
              cases e1; cases e2
              exact r1.up fun b h => .inr ⟨rfl, h⟩
            · rw [List.getElem?_set_ne (Ne.symm c)] at e1 e2
              exact (h3 i t' v' e1 e2).up fun b h => .inl ⟨c, h⟩
    | [], hw, _ => simp at hw
    | [_], hw, _ => simp at hw
    | _ :: _ :: _ :: _, hw, _ => simp at hw
  · exact d.elim
/-! ### methods -/
abbrev DtM (P : Program) (w : World) (K : PySem.W.Frag) (mg : Str → Option Value) (base : Heap) (k : Nat) (C m : Str) (ps : List Str) (io : List Nat) (spec : Spec) : Prop :=
  ∃ fd, FnOk P w K mg base (L2.CX P w) k (He.ma K (He.ga K C) m) fd ps (spOf K ps.length io spec) ∧ Binds K fd ps []
/-- where a method stands -/
def AtM (K : PySem.W.Frag) (C m q : Str) (st : Stmt) (ps : List Str) : Prop :=
  ∃ dvs fd, FunD K m q (defArgs st) (defBody st) (defScope st) dvs [] (He.ma K (He.ga K C) m) fd ∧ Binds K fd ps []
section
variable {P : Program} {w : World} {K : PySem.W.Frag} {mg : Str → Option Value} {base : Heap}
theorem AtM.tok {C m q : Str} {st : Stmt} {N ps : List Str} {k : Nat} {io : List Nat} {ds : DS} (F : AtM K C m q st ps) (S : FnScope N ps (defScope st)) (nd : io.Nodup) (hio : ∀ i ∈ io, i < ps.length)
    (hbody : ∀ (f : Addr) (cdv : Value) (A : Around) (outer : List PySem.Env) (s : Shared) (H : Hp) (E : XK), Room k (A.deeper (envOfC q (defScope st) s.heap.objs.size f cdv)) →
      Takes (cxOf (L2.CX P w) P w K mg base N q (defScope st) f cdv A outer s H E) (fun cls d _ H => E cls d H) → PassesOwn (model P w) (A.deeper (envOfC q (defScope st) s.heap.objs.size f cdv)) (envOfC q (defScope st) s.heap.objs.size f cdv) (cxOf (L2.CX P w) P w K mg base N q (defScope st) f cdv A outer s H E).xe →
      TPSs (cxOf (L2.CX P w) P w K mg base N q (defScope st) f cdv A outer s H E) ⟨fun cls d _ H => E cls d H, G0⟩ io (defBody st) ds) : DtM P w K mg base (k + 1) C m ps io (specOf N.length io ds) := by
  obtain ⟨dvs, fd, F, hb⟩ := F
  refine ⟨fd, F.ok S (fun vs H Q E h => h.1) fun cdv A outer s H vs Q E hr h => ?_, hb⟩
  obtain ⟨ts, h1, h2⟩ := hbody _ cdv A outer s H E hr (takes_of rfl rfl rfl rfl) PassesOwn.leaving
  exact ⟨ts, h1, body_ok nd hio h2 h⟩
theorem atM_mk {C m q : Str} {st : Stmt} {ps : List Str} {fd : FuncData} (F : FunD K m q (defArgs st) (defBody st) (defScope st) [] [] (He.ma K (He.ga K C) m) fd)
    (h : ∀ (kV doc pm : Value) (an : Option Addr) (cdv ct : Value) (us : List Value), us.length = ps.length → bindArgs (PySem.W.fnOf m q (defArgs st) (defBody st) (defScope st) .none kV doc pm an cdv ct) ⟨us, []⟩ = pure (ps.zip us)) : AtM K C m q st ps := ⟨[], fd, F, F.bindsN h⟩
end
/-- .. with defaults, all arguments given -/
theorem atM_mkD {K : PySem.W.Frag} {C m q : Str} {st : Stmt} {ps : List Str} {dvs : List V} {fd : FuncData} (F : FunD K m q (defArgs st) (defBody st) (defScope st) dvs [] (He.ma K (He.ga K C) m) fd) (hd : dvs ≠ [])
    (h : ∀ (t : Addr) (kV doc pm : Value) (an : Option Addr) (cdv ct : Value) (us its : List Value), us.length = ps.length → its.length = dvs.length →
      ∃ k, bindArgs (PySem.W.fnOf m q (defArgs st) (defBody st) (defScope st) (.ref t) kV doc pm an cdv ct) ⟨us, []⟩ = seqItems? (.ref t) >>= k ∧ k (some its.toArray) = pure (ps.zip (us ++ its.drop dvs.length))) : AtM K C m q st ps := by
  obtain ⟨ds, hv, hb⟩ := F.binds1 ps.length dvs.length hd (by omega) h
  rw [List.drop_length] at hv
  cases hv
  exact ⟨dvs, fd, F, hb⟩
/-- the thing is an instance of C, m a method of its class -/
def dChk (C : Addr) (m : Str) (de : DE) : DE := fun env P Ex => de env (fun t env1 => insC C m t ∧ P t env1) Ex
def tChk (C : Addr) (m : Str) (te : TE) : TE := fun σ H Q => te σ H fun x H1 => (∃ a dx fs, x = .ref a ∧ H1 a = some (.ins C dx fs) ∧ fs.lookup m = none) ∧ Q x H1
section
variable {K : PySem.W.Frag} {W : Wc} {C : Addr} {m : Str}
theorem se_chk {te : TE} {de : DE} (h : SE K W te de) : SE K W (tChk C m te) (dChk C m de) := fun S D H σ env Q P Ex o r d k x => by
  refine h S D H σ env _ _ Ex o r d (fun S1 D1 H1 env1 t v n rz p => ?_) x
  have rz' := rz
  obtain ⟨E1, E2, dj, s1, s2, re, rv⟩ := rz
  exact ⟨ins_of n.ok.sub rv p.1, k _ _ _ _ _ _ n rz' p.2⟩
def dConsM (i : Nat) (C : Addr) (m : Str) (da : DA) : DA := fun env P Ex => (∃ t, env[i]? = some (some t) ∧ insC C m t) ∧ da env (fun ts env1 => ∃ t, env1[i]? = some (some t) ∧ P (t :: ts) (env1.set i none)) Ex
theorem sa_consM {ta : TA} {da : DA} {ms : List (Option Nat)} {i : Nat} (ha : SA K W ms ta da) : SA K W (some i :: ms) (tCons (tChk C m (tVar i)) ta) (dConsM i C m da) := fun S D H σ env Q P Ex o r d k x => by
  obtain ⟨⟨t0, e0, c0⟩, d⟩ := d
  obtain ⟨v, ev, q⟩ := r.get e0
  obtain ⟨v', ev', z⟩ := sa_consL (i := i) ha S D H σ env Q P Ex o r ⟨⟨t0, e0⟩, d⟩ k x
  rw [ev] at ev'
  cases ev'
  exact ⟨v, ev, ins_of o.sub q c0, z⟩
end
section
variable {X : Cx} {W : WX} {k : Nat} {C m : Str} {ps : List Str} {sp : Sp} {apos pos : Pos} {o e : Expr} {es : List Expr} {te : TE} {t : TA} {fd : FuncData}
theorem getM {C f a dx : Addr} {fs : List (Str × V)} {pins : List (Addr × Obj)} {σ : L2.St} {H : Hp} {s : Shared} {m : Str} {pl : Sem Bool} {Q : Value × List Value → Shared → Prop} (c : Cls X.K C) (hm : Meth X.K C m f) (I : L2.Inv X pins σ H s) (ea : H a = some (.ins C dx fs)) (l : fs.lookup m = none) (h : Q (.ref f, [.ref a]) s) : wpAny (model X.prog X.w) X.A (getMethod (.ref a) m pl) Q X.xe s :=
  getmeth_ok I ea c hm l h
/-- o.m(e, ..) -/
theorem pe_methX {pl : Sem Bool} (he : PE X o te) (c : Cls X.K (He.ga X.K C)) (hm : Meth X.K (He.ga X.K C) m (He.ma X.K (He.ga X.K C) m)) (F : FnOk X.prog X.w X.K X.mg X.base (L2.CX X.prog X.w) k (He.ma X.K (He.ga X.K C) m) fd ps sp) (hb : Binds X.K fd ps []) (hr : Room k X.A) (tk : Takes X W) (ha : PA X (e :: es) t)
    (hst : starEach (e :: es) X.env = (false, eval e X.env) :: starEach es X.env := by rfl) (hpl : (backTo pos (starEach es X.env)).any (·.1) = false := by rfl)
    (ht : eval (.Call (.Attribute o m apos) (e :: es) [] pos) X.env = (eval o X.env >>= fun ov => standAt apos.atName >>= fun _ => holding [ov] (getMethod ov m pl) >>= fun z => callWith pos z.1 z.2 (backTo pos (starEach (e :: es) X.env)) (backToKw pos (keywordEach [] X.env))) := by rfl) :
    PE X (.Call (.Attribute o m apos) (e :: es) [] pos) (tCallS sp (WE W) (tCons (tChk (He.ga X.K C) m te) t)) := by
  constructor
  intro pins s σ H Q I h
  refine PySem.W.methodCall_KW (pl := pl) ?_ ht
  refine thn (he.run pins s σ H _ I h) ?_
  rintro u s1 ⟨x, H1, I1, rx, ⟨a, dx, fs, rfl, ea, l⟩, q⟩
  cases (show u = Value.ref a from rx)
  refine getM c hm I1 ea l (PySem.W.callWith_K (first := [.ref a]) (h₀ := X.base) I.ok.mod.kin hm.kp (thn (ha.run pos pins s1 σ H1 _ I1 q) ?_) hst hpl)
  rintro us s2 ⟨vs, H2, I2, r, q2⟩
  exact ⟨I2.kIn, run_fnS (us := .ref a :: us) (vs := .ref a :: vs) F hr hb (passAt tk σ) I2 (.cons rfl r) q2⟩
/-- o.m() -/
theorem pe_methX0 {pl : Sem Bool} (he : PE X o te) (c : Cls X.K (He.ga X.K C)) (hm : Meth X.K (He.ga X.K C) m (He.ma X.K (He.ga X.K C) m)) (F : FnOk X.prog X.w X.K X.mg X.base (L2.CX X.prog X.w) k (He.ma X.K (He.ga X.K C) m) fd ps sp) (hb : Binds X.K fd ps []) (hr : Room k X.A) (tk : Takes X W)
    (ht : eval (.Call (.Attribute o m apos) [] [] pos) X.env = (eval o X.env >>= fun ov => standAt apos.atName >>= fun _ => holding [ov] (getMethod ov m pl) >>= fun z => callWith pos z.1 z.2 (backTo pos (starEach [] X.env)) (backToKw pos (keywordEach [] X.env))) := by rfl) :
    PE X (.Call (.Attribute o m apos) [] [] pos) (tCallS sp (WE W) (tCons (tChk (He.ga X.K C) m te) tNil)) := by
  constructor
  intro pins s σ H Q I h
  refine PySem.W.methodCall_KW (pl := pl) ?_ ht
  refine thn (he.run pins s σ H _ I h) ?_
  rintro u s1 ⟨x, H1, I1, rx, ⟨a, dx, fs, rfl, ea, l⟩, q⟩
  cases (show u = Value.ref a from rx)
  refine getM c hm I1 ea l (PySem.W.callWith_K0 (first := [.ref a]) I1.kIn hm.kp ?_)
  exact run_fnS (us := [.ref a]) (vs := [.ref a]) F hr hb (passAt tk σ) I1 (.cons rfl .nil) q
/-- C(..) -/
def tMakeX (C : Addr) (sp : Sp) (E : L2.St → XK) (t : TA) : TE := fun σ H Q => t σ H fun vs H1 => ∀ x dx, H1 x = none → H1 dx = none → dx ≠ x →
  sp (.ref x :: vs) (upd (upd H1 dx (.own x)) x (.ins C dx [])) (fun v H2 => v = .non ∧ Q (.ref x) H2) (E σ)
theorem run_makeX {C f : Addr} {pins : List (Addr × Obj)} {σ : L2.St} {H : Hp} {s : Shared} {Q : VK} {us : List Value} {vs : List V} {E : L2.St → XK} (M : Mk X.K C f) (F : FnOk X.prog X.w X.K X.mg X.base (L2.CX X.prog X.w) k f fd ps sp) (hb : Binds X.K fd ps []) (hr : Room (k + 1) X.A) (hx : PassesAt (L2.CX X.prog X.w) X σ (E σ)) (I : L2.Inv X pins σ H s) (r : Vals vs us)
    (h : ∀ x dx, H x = none → H dx = none → dx ≠ x → sp (.ref x :: vs) (upd (upd H dx (.own x)) x (.ins C dx [])) (fun v H2 => v = .non ∧ Q (.ref x) H2) (E σ)) : wpAny (model X.prog X.w) X.A (call (.ref C) us) (EP X pins σ Q) X.xe s := by
  have q := h (s.heap.objs.size + 1) s.heap.objs.size (I.hok.fresh (Nat.le_succ _)) (I.hok.fresh (Nat.le_refl _)) (Nat.ne_of_lt (Nat.lt_succ_self _))
  have I2 := L2.Inv.made (C := C) I
  have rr : Vals (V.ref (s.heap.objs.size + 1) :: vs) (Value.ref (s.heap.objs.size + 1) :: us) := .cons rfl r
  have hl := rr.length
  rw [F.len _ _ _ _ q] at hl
  have b := hb _ (Value.ref (s.heap.objs.size + 1) :: us) I2.kIn (by rw [List.append_nil]; exact hl.symm)
  rw [List.append_nil] at b
  refine wpAny_call (make_map (f := f) I.kIn M.makes M.init (beq_iff_eq.mp M.fn) ?_)
  refine codeAny_mono (F.run _ X.stack _ _ ⟨Value.ref (s.heap.objs.size + 1) :: us, []⟩ (Value.ref (s.heap.objs.size + 1) :: us) _ _ (E σ) (hr.make C us []) (I2.env0.make C us []) b rr q) fun z s' hq => ?_
  rcases z with e | fl
  · exact hx pins _ _ e s' I2 hq
  · cases fl with
    | ret u =>
      obtain ⟨v, H', I3, rv, ev, q3⟩ := I2.after hq
      subst ev
      exact ⟨rv, V.ref (s.heap.objs.size + 1), H', I3, rfl, q3⟩
    | next => exact False.elim hq
    | brk => exact False.elim hq
    | cont => exact False.elim hq
theorem pe_makeX {f : Addr} {x : Str} {p : Pos} {C : Addr} (M : Mk X.K C f) (F : FnOk X.prog X.w X.K X.mg X.base (L2.CX X.prog X.w) k f fd ps sp) (hb : Binds X.K fd ps []) (hr : Room (k + 1) X.A) (tk : Takes X W) (hm : X.mg x = some (.ref C)) (ha : PA X (e :: es) t) (hg : Gl X x := by rfl) (hdb : (x == ("__debug__" : Str)) = false := by decide)
    (he : starEach (e :: es) X.env = (false, eval e X.env) :: starEach es X.env := by rfl) (hpl : (backTo pos (starEach es X.env)).any (·.1) = false := by rfl) : PE X (.Call (.Name x p) (e :: es) [] pos) (tMakeX C sp (WE W) t) := by
  constructor
  intro pins s σ H Q I h
  refine wpAny_Call_Name_kw (ld_glob I hg hm (PySem.W.callWith_K (h₀ := X.base) I.ok.mod.kin M.kp (thn (ha.run pos pins s σ H _ I h) ?_) he hpl) hdb)
  rintro us s1 ⟨vs, H1, I1, r, q⟩
  exact ⟨I1.kIn, run_makeX (E := WE W) M F hb hr (passAt tk σ) I1 r q⟩
end
def dMake (C : Addr) (spec : Spec) (da : DA) : DE := fun env P Ex => da env (fun ts env1 => spec (.nd true (.ins C []) [] :: ts) (fun t outs => t = .lf .non ∧ ∃ u, outs = [u] ∧ P u env1) (fun ex _ => Ex ex env1)) Ex
theorem se_make {K : PySem.W.Frag} {W : Wc} {C : Addr} {n : Nat} {spec : Spec} {ta : TA} {da : DA} {ms : List (Option Nat)} (h : SA K W ms ta da) (hl : ms.length + 1 = n) : SE K W (tMakeX C (spOf K n [0] spec) (WE W.x) ta) (dMake C spec da) := fun S D H σ env Q P Ex o r d k x => by
  refine h S D H σ env _ _ Ex o r d (fun S1 D1 H1 env1 ts vs n1 rzs hms p => fun a dx ha hdx hne => ?_) x
  obtain ⟨F1, F2, dj, o1, m1, re1, rv⟩ := rzs.split n1.ok
  have hda : a ≠ dx := fun z => hne z.symm
  have sm : Same H1 (upd (upd H1 dx (.own a)) a (.ins C dx [])) := Same.trans (Same.new hdx) (Same.new (by rw [upd_ne hda]; exact ha))
  obtain ⟨n2, dj2⟩ := Nxt.fresh (Dn := fun b => b = a) o1 sm fun b h => by subst h; exact ⟨ha, by rw [upd_same]; simp⟩
  have na : ∀ b, (F1 b ∨ F2 b) → b ≠ a := fun b h z => by subst z; exact (o1.dis _ h).2 ha
  have o2 : Ok W.g S1 (fun b => (F2 b ∨ b = a) ∨ F1 b) (upd (upd H1 dx (.own a)) a (.ins C dx [])) := n2.ok.sm fun b h => h.elim (fun z => z.elim (fun z => .inl (.inr z)) .inr) fun z => .inl (.inl z)
  have djf : Dj (fun b => F2 b ∨ b = a) F1 := fun b h h' => h.elim (fun z => dj b h' z) fun z => na b (.inl h') z
  have rself : R K S1 (upd (upd H1 dx (.own a)) a (.ins C dx [])) (.nd true (.ins C []) []) (.ref a) (fun b => b = a) := .own (vs := []) (fun _ => no) rfl upd_same ⟨dx, rfl⟩ rfl rfl (fun _ _ _ h => h.elim) (fun _ _ h => h.elim) fun i t v e => by simp at e
  have rs : Rs K S1 (upd (upd H1 dx (.own a)) a (.ins C dx [])) (.nd true (.ins C []) [] :: ts) (.ref a :: vs) (fun b => F2 b ∨ b = a) :=
    Rs.cons (D1 := fun b => b = a) (D2 := F2) (fun b h h' => na b (.inr h') h) (fun _ => .inr) (fun _ => .inl) rself (rv.mono (.refl _) (fun b ob _ e => sm _ _ e) fun _ h => h)
  have nn : Nxt W.g S D H S1 (fun b => (F2 b ∨ b = a) ∨ F1 b) (upd (upd H1 dx (.own a)) a (.ins C dx [])) :=
    Nxt.trans o (Nxt.trans o (Nxt.trans o n1 m1) n2) (Nxt.shrink n2.ok fun b h => h.elim (fun z => z.elim (fun z => .inl (.inr z)) .inr) fun z => .inl (.inl z))
  refine ⟨by simp [← hl, hms.1], S1, fun b => F2 b ∨ b = a, _, _, _, (o2.sm fun _ => .inl).cast trivial, rs, p, fun S2 D3 H2 t outs v n20 rs2 p2 => ?_, fun S2 D3 H2 ex outs cls dd n20 rs2 rx p2 => ?_⟩
  · have n3 := n20.cast o1.g
    obtain ⟨fr, djg, kk⟩ := Nxt.frame o2 djf n3
    obtain ⟨rfl, u, rfl, p2⟩ := p2
    obtain ⟨G1, G2, dj3, x1, x2, q1, q2⟩ := rs2.uncons
    obtain ⟨G3, G4, dj4, x3, x4, q3, _⟩ := q2.uncons
    cases q1
    have re2 : Re K S2 H2 env1 σ F1 := re1.mono fr.fs (fun b ob h e => kk b ob h (sm _ _ e)) fun _ h => h
    exact ⟨rfl, k _ _ _ _ _ _ (Nxt.trans o nn fr) ⟨F1, G3, fun b h h' => djg b (x2 b (x3 b h')) h, fun _ => .inr, fun b h => .inl (x2 b (x3 b h)), re2, q3⟩ p2⟩
  · have n3 := n20.cast o1.g
    obtain ⟨fr, djg, kk⟩ := Nxt.frame o2 djf n3
    exact x _ _ _ _ _ _ _ (Nxt.trans o nn fr) (re1.mono fr.fs (fun b ob h e => kk b ob h (sm _ _ e)) fun _ => .inr) rx p2
/-! ### the rules on code -/
section
variable {X : Cx} {W : Wc} {io : List Nat} {pos apos cpos npos p sp : Pos} {e f ev ei : Expr} {es : List Expr} {o1 o2 : Od} {os : List Od} {C : Addr} {g x : Str} {i : Nat} {de dv : DE} {da : DA} {ms : List (Option Nat)} {fo : List T → (T → Prop) → Prop}
theorem t_fld (hC : Cls X.K C) (hn : NoAttr X.K C g) (h : TPE X W e de) (hb : attributeBase e g X.env (eval e X.env) = eval e X.env := by rfl) : TPE X W (.Attribute e g pos) (dFld C g de) :=
  let ⟨_, h1, h2⟩ := h; ⟨_, pe_fld h1 hb, se_fld hC hn h2⟩
theorem pe_ofld (hN : X.N[i]? = some x) (hv : Vis X.env.scope x) (hd : (x == ("__debug__" : Str)) = false := by decide) (hcd : (x == ("__classdict__" : Str)) = false := by decide) (hb : attributeBase (.Name x npos) g X.env (eval (.Name x npos) X.env) = eval (.Name x npos) X.env := by rfl) : PE X (.Attribute (.Name x npos) g apos) (tFld X.K (tVar i) g) := pe_fld (pe_var hN hv hd hcd) hb
theorem t_fldS (hC : Cls X.K C) (hn : NoAttr X.K C g) (h : PE X e (tFld X.K (tVar i) g)) : TPE X W e (dFldS i C g) := ⟨_, h, se_fldS hC hn⟩
theorem t_ixA {r : R2} (hC : Cls X.K C) (hn : NoAttr X.K C g) (h : PE X e (tFld X.K (tVar i) g)) (hr : IxR X r) (hf : OpS X.K fo (r2 r)) (hb : TPO X W f o2) (hs : PlainIx f := by exact fun _ _ => rfl) : TPE X W (.Subscript e f pos) (dOpA fo i C g [o2]) :=
  let ⟨_, b1, b2⟩ := hb; ⟨_, pe_ix hr h b1 hs, se_opA (r := r2 r) hC hn (sl_cons b2 sl_nil) hf⟩
theorem t_dgetA (hC : Cls X.K C) (hn : NoAttr X.K C g) (h : PE X e (tFld X.K (tVar i) g)) (hu : X.A.units + 1 < cLine) (hb : TPO X W f o2) (hs : NoSl f := by exact fun _ _ => rfl) : TPE X W (.Subscript e f pos) (dOpA fDGet i C g [o2]) :=
  let ⟨_, b1, b2⟩ := hb; ⟨_, pe_dget hu h b1 hs, se_opA (r := r2 fun x y H Q => ∃ a v, x = .ref a ∧ DGet H a y (some v) ∧ Q v H) hC hn (sl_cons b2 sl_nil) os_dget⟩
theorem t_BA {r : List V → Hp → VK → Prop} {b : Str} {id : String} (hC : Cls X.K C) (hn : NoAttr X.K C g) (h : PE X e (tFld X.K (tVar i) g)) (hc : CallR X (.builtin id) r) (hf : OpS X.K fo r) (hg : Gl X b) (hm : X.mg b = none) (hbv : bootBuiltins b = some (.builtin id)) (ha : TPL X W es os) (hnn : b ≠ "__name__" := by decide) (hdb : (b == ("__debug__" : Str)) = false := by decide)
    (he : starEach (e :: es) X.env = (false, eval e X.env) :: starEach es X.env := by rfl) (hpl : (backTo cpos (starEach es X.env)).any (·.1) = false := by rfl) : TPE X W (.Call (.Name b p) (e :: es) [] cpos) (dOpA fo i C g os) :=
  let ⟨_, a1, a2⟩ := ha; ⟨_, pe_callB hc hg hm hbv (pa_cons h a1 he) hnn hdb he hpl, se_opA (r := r) hC hn a2 hf⟩
theorem t_TyA {r : List V → Hp → VK → Prop} {b : Str} {T' : String} (hC : Cls X.K C) (hn : NoAttr X.K C g) (h : PE X e (tFld X.K (tVar i) g)) (hc : CallR X (.type T') r) (hf : OpS X.K fo r) (hg : Gl X b) (hm : X.mg b = none) (hbv : bootBuiltins b = some (.type T')) (ha : TPL X W es os) (hnn : b ≠ "__name__" := by decide) (hdb : (b == ("__debug__" : Str)) = false := by decide)
    (he : starEach (e :: es) X.env = (false, eval e X.env) :: starEach es X.env := by rfl) (hpl : (backTo cpos (starEach es X.env)).any (·.1) = false := by rfl) : TPE X W (.Call (.Name b p) (e :: es) [] cpos) (dOpA fo i C g os) :=
  let ⟨_, a1, a2⟩ := ha; ⟨_, pe_callTy hc hg hm hbv (pa_cons h a1 he) hnn hdb he hpl, se_opA (r := r) hC hn a2 hf⟩
theorem t_cmpB {op : CmpOp} {r : R2} (hC : Cls X.K C) (hn : NoAttr X.K C g) (ho : OpR X (compareOp op) r) (hf : OpS X.K fo (r2 r)) (ha : TPO X W f o1) (h : PE X e (tFld X.K (tVar i) g)) (hm : behindInMarks op e = false) : TPE X W (.Compare f [op] [e] pos) (dOpB fo o1 i C g) :=
  let ⟨_, a1, a2⟩ := ha; ⟨_, pe_cmpR ho a1 h hm, se_opB (r := r) hC hn a2 hf⟩
theorem b_cmpB {op : CmpOp} {r : R2} (hC : Cls X.K C) (hn : NoAttr X.K C g) (ho : OpR X (compareOp op) r) (hf : OpS X.K fo (r2 r)) (ha : TPO X W f o1) (h : PE X e (tFld X.K (tVar i) g)) (hm : behindInMarks op e = false) : TPB X W (.Compare f [op] [e] pos) (dT (dOpB fo o1 i C g)) :=
  let ⟨_, a1, a2⟩ := ha; ⟨_, pt_cmpR ho a1 h hm, (se_opB (r := r) hC hn a2 hf).test⟩
theorem t_dinB (hC : Cls X.K C) (hn : NoAttr X.K C g) (hu : X.A.units + 1 < cLine) (ha : TPO X W f o1) (h : PE X e (tFld X.K (tVar i) g)) (hm : behindInMarks .In e = false := by rfl) : TPE X W (.Compare f [.In] [e] pos) (dOpB (fDIn false) o1 i C g) :=
  let ⟨_, a1, a2⟩ := ha; ⟨_, pe_cmp (pc_din hu a1 h) hm, se_opB (r := fun y x H Q => ∃ a o, x = .ref a ∧ DGet H a y o ∧ Q (.bl o.isSome) H) hC hn a2 os_din⟩
theorem b_dinB (hC : Cls X.K C) (hn : NoAttr X.K C g) (hu : X.A.units + 1 < cLine) (ha : TPO X W f o1) (h : PE X e (tFld X.K (tVar i) g)) (hm : behindInMarks .In e = false := by rfl) : TPB X W (.Compare f [.In] [e] pos) (dT (dOpB (fDIn false) o1 i C g)) :=
  let ⟨_, a1, a2⟩ := ha; ⟨_, pt_cmp (pc_din hu a1 h) hm, (se_opB (r := fun y x H Q => ∃ a o, x = .ref a ∧ DGet H a y o ∧ Q (.bl o.isSome) H) hC hn a2 os_din).test⟩
theorem t_dnotinB (hC : Cls X.K C) (hn : NoAttr X.K C g) (hu : X.A.units + 1 < cLine) (ha : TPO X W f o1) (h : PE X e (tFld X.K (tVar i) g)) (hm : behindInMarks .NotIn e = false := by rfl) : TPE X W (.Compare f [.NotIn] [e] pos) (dOpB (fDIn true) o1 i C g) :=
  let ⟨_, a1, a2⟩ := ha; ⟨_, pe_cmp (pc_dnotin hu a1 h) hm, se_opB (r := fun y x H Q => ∃ a o, x = .ref a ∧ DGet H a y o ∧ Q (.bl (!o.isSome)) H) hC hn a2 os_dnotin⟩
theorem b_dnotinB (hC : Cls X.K C) (hn : NoAttr X.K C g) (hu : X.A.units + 1 < cLine) (ha : TPO X W f o1) (h : PE X e (tFld X.K (tVar i) g)) (hm : behindInMarks .NotIn e = false := by rfl) : TPB X W (.Compare f [.NotIn] [e] pos) (dT (dOpB (fDIn true) o1 i C g)) :=
  let ⟨_, a1, a2⟩ := ha; ⟨_, pt_cmp (pc_dnotin hu a1 h) hm, (se_opB (r := fun y x H Q => ∃ a o, x = .ref a ∧ DGet H a y o ∧ Q (.bl (!o.isSome)) H) hC hn a2 os_dnotin).test⟩
/-- x.g = v -/
theorem s_putF (hC : Cls X.K C) (hn : NoAttr X.K C g) (hN : X.N[i]? = some x) (hv : Vis X.env.scope x) (h : TPE X W ev dv) (hs : swapsWith ev (some (.Attribute (.Name x npos) g apos)) pos.line X.env = pure false := by rfl) (hd : (x == ("__debug__" : Str)) = false := by decide) (hcd : (x == ("__classdict__" : Str)) = false := by decide) : TPS X W io (.Assign [.Attribute (.Name x npos) g apos] ev pos) (dPutA i (fPutF C g) dv (dC .non)) := by
  obtain ⟨tv, a1, a2⟩ := h
  exact ⟨tPut (rPutF X.K g) tv (tVar i) (tC .non), ps_weak (ps_fld (pe_var hN hv hd hcd) a1 hs) (fun D σ H h => h), ss_putA a2 se_C (ms_putF hC hn)⟩
/-- x.g[e] = v on a dict, on a list -/
theorem s_dputF (hC : Cls X.K C) (hn : NoAttr X.K C g) (hu : X.A.units + 1 < cLine) (h : PE X e (tFld X.K (tVar i) g)) (h1 : TPE X W ev dv) (h2 : TPE X W ei de) (hs : swapsWith ev (some (.Subscript e ei p)) pos.line X.env = pure false := by rfl) : TPS X W io (.Assign [.Subscript e ei p] ev pos) (dPutIx i (chF C g) fDPut dv (dC .non) de) := by
  obtain ⟨tv, a1, a2⟩ := h1
  obtain ⟨te, b1, b2⟩ := h2
  exact ⟨tPut rDPutA tv (tOp (rFldR X.K g) (tVar i) (tC .non)) te, ps_dput hu h b1 a1 hs, ss_putIx (cs_fld hC hn) a2 se_C b2 ms_dput⟩
/-- x.g.m(e, ..) -/
theorem t_mutF {n : String} {fm : FM} {r : V → List V → Hp → VK → Prop} {m : Str} (hC : Cls X.K C) (hn : NoAttr X.K C g) (h : PE X e (tFld X.K (tVar i) g)) (hnn : n ≠ "") (hm : MtS X.K fm r) (ha : TPA X W ms (f :: es) da) (hpe : ∀ {to : TE} {t : TA}, PE X e to → PA X (f :: es) t → PE X (.Call (.Attribute e m apos) (f :: es) [] cpos) (tBM X.K n r to t)) : TPE X W (.Call (.Attribute e m apos) (f :: es) [] cpos) (dMutIx i n (chF C g) fm (dC .non) da) := by
  obtain ⟨ta, a1, a2⟩ := ha
  exact ⟨tBM X.K n r (tOp (rFldR X.K g) (tVar i) (tC .non)) ta, hpe h a1, se_mutIx hnn (cs_fld hC hn) se_C a2 hm⟩
end
section
variable {X : Cx} {W : Wc} {io bs : List Nat} {pos apos npos p : Pos} {k i : Nat} {C m x : Str} {ps : List Str} {spec : Spec} {o e : Expr} {es : List Expr} {de : DE} {da : DA} {ms : List (Option Nat)}
/-- o.m(e, ..), o a value -/
theorem t_meth {pl : Sem Bool} (D : DtM X.prog X.w X.K X.mg X.base k C m ps io spec) (c : Cls X.K (He.ga X.K C)) (hm : Meth X.K (He.ga X.K C) m (He.ma X.K (He.ga X.K C) m)) (hr : Room k X.A) (tk : Takes X W.x) (ho : TPE X W o de) (ha : TPA X W ms (e :: es) da) (hl : ms.length + 1 = ps.length) (bs : List Nat) (hb : ∀ (j i : Nat), io[j]? = some i → ∃ s, bs[j]? = some s ∧ (none :: ms)[i]? = some (some s)) (hbl : bs.length = io.length)
    (hst : starEach (e :: es) X.env = (false, eval e X.env) :: starEach es X.env := by rfl) (hpl : (backTo pos (starEach es X.env)).any (·.1) = false := by rfl)
    (ht : eval (.Call (.Attribute o m apos) (e :: es) [] pos) X.env = (eval o X.env >>= fun ov => standAt apos.atName >>= fun _ => holding [ov] (getMethod ov m pl) >>= fun z => callWith pos z.1 z.2 (backTo pos (starEach (e :: es) X.env)) (backToKw pos (keywordEach [] X.env))) := by rfl) : TPE X W (.Call (.Attribute o m apos) (e :: es) [] pos) (dCall bs spec (dCons (dChk (He.ga X.K C) m de) da)) := by
  obtain ⟨fd, F, hbd⟩ := D
  obtain ⟨te, h1, h2⟩ := ho
  obtain ⟨ta, a1, a2⟩ := ha
  exact ⟨_, pe_methX (pl := pl) h1 c hm F hbd hr tk a1 hst hpl ht, se_call (sa_cons none (se_chk h2) a2 (fun _ h => by cases h) (fun _ h => by cases h)) (by simpa using hl) hb hbl⟩
theorem t_meth0 {pl : Sem Bool} (D : DtM X.prog X.w X.K X.mg X.base k C m [x] [] spec) (c : Cls X.K (He.ga X.K C)) (hm : Meth X.K (He.ga X.K C) m (He.ma X.K (He.ga X.K C) m)) (hr : Room k X.A) (tk : Takes X W.x) (ho : TPE X W o de)
    (ht : eval (.Call (.Attribute o m apos) [] [] pos) X.env = (eval o X.env >>= fun ov => standAt apos.atName >>= fun _ => holding [ov] (getMethod ov m pl) >>= fun z => callWith pos z.1 z.2 (backTo pos (starEach [] X.env)) (backToKw pos (keywordEach [] X.env))) := by rfl) : TPE X W (.Call (.Attribute o m apos) [] [] pos) (dCall [] spec (dCons (dChk (He.ga X.K C) m de) dNil)) := by
  obtain ⟨fd, F, hbd⟩ := D
  obtain ⟨te, h1, h2⟩ := ho
  exact ⟨_, pe_methX0 (pl := pl) h1 c hm F hbd hr tk ht, se_call (io := []) (sa_cons none (se_chk h2) sa_nil (fun _ h => by cases h) (fun _ h => by cases h)) rfl (fun j i e => by simp at e) rfl⟩
/-- x.m(e, ..), x a slot's thing that is lent -/
theorem t_methL {pl : Sem Bool} (D : DtM X.prog X.w X.K X.mg X.base k C m ps io spec) (c : Cls X.K (He.ga X.K C)) (hm : Meth X.K (He.ga X.K C) m (He.ma X.K (He.ga X.K C) m)) (hr : Room k X.A) (tk : Takes X W.x) (hN : X.N[i]? = some x) (hv : Vis X.env.scope x) (ha : TPA X W ms (e :: es) da) (hl : ms.length + 1 = ps.length) (bs : List Nat) (hb : ∀ (j i' : Nat), io[j]? = some i' → ∃ s, bs[j]? = some s ∧ (some i :: ms)[i']? = some (some s)) (hbl : bs.length = io.length)
    (hst : starEach (e :: es) X.env = (false, eval e X.env) :: starEach es X.env := by rfl) (hpl : (backTo pos (starEach es X.env)).any (·.1) = false := by rfl)
    (ht : eval (.Call (.Attribute (.Name x npos) m apos) (e :: es) [] pos) X.env = (eval (.Name x npos) X.env >>= fun ov => standAt apos.atName >>= fun _ => holding [ov] (getMethod ov m pl) >>= fun z => callWith pos z.1 z.2 (backTo pos (starEach (e :: es) X.env)) (backToKw pos (keywordEach [] X.env))) := by rfl)
    (hd : (x == ("__debug__" : Str)) = false := by decide) (hcd : (x == ("__classdict__" : Str)) = false := by decide) : TPE X W (.Call (.Attribute (.Name x npos) m apos) (e :: es) [] pos) (dCall bs spec (dConsM i (He.ga X.K C) m da)) := by
  obtain ⟨fd, F, hbd⟩ := D
  obtain ⟨ta, a1, a2⟩ := ha
  exact ⟨_, pe_methX (pl := pl) (pe_var hN hv hd hcd) c hm F hbd hr tk a1 hst hpl ht, se_call (sa_consM a2) (by simpa using hl) hb hbl⟩
theorem t_methL0 {pl : Sem Bool} {y : Str} (D : DtM X.prog X.w X.K X.mg X.base k C m [y] io spec) (c : Cls X.K (He.ga X.K C)) (hm : Meth X.K (He.ga X.K C) m (He.ma X.K (He.ga X.K C) m)) (hr : Room k X.A) (tk : Takes X W.x) (hN : X.N[i]? = some x) (hv : Vis X.env.scope x) (bs : List Nat) (hb : ∀ (j i' : Nat), io[j]? = some i' → ∃ s, bs[j]? = some s ∧ [some i][i']? = some (some s)) (hbl : bs.length = io.length)
    (ht : eval (.Call (.Attribute (.Name x npos) m apos) [] [] pos) X.env = (eval (.Name x npos) X.env >>= fun ov => standAt apos.atName >>= fun _ => holding [ov] (getMethod ov m pl) >>= fun z => callWith pos z.1 z.2 (backTo pos (starEach [] X.env)) (backToKw pos (keywordEach [] X.env))) := by rfl)
    (hd : (x == ("__debug__" : Str)) = false := by decide) (hcd : (x == ("__classdict__" : Str)) = false := by decide) : TPE X W (.Call (.Attribute (.Name x npos) m apos) [] [] pos) (dCall bs spec (dConsM i (He.ga X.K C) m dNil)) := by
  obtain ⟨fd, F, hbd⟩ := D
  exact ⟨_, pe_methX0 (pl := pl) (pe_var hN hv hd hcd) c hm F hbd hr tk ht, se_call (sa_consM sa_nil) rfl hb hbl⟩
/-- C(e, ..) -/
theorem t_make (D : DtM X.prog X.w X.K X.mg X.base k C "__init__" ps [0] spec) (M : Mk X.K (He.ga X.K C) (He.ma X.K (He.ga X.K C) "__init__")) (hr : Room (k + 1) X.A) (tk : Takes X W.x) (hm : X.mg C = some (.ref (He.ga X.K C))) (ha : TPA X W ms (e :: es) da) (hl : ms.length + 1 = ps.length) (hg : Gl X C := by rfl) (hdb : (C == ("__debug__" : Str)) = false := by decide)
    (he : starEach (e :: es) X.env = (false, eval e X.env) :: starEach es X.env := by rfl) (hpl : (backTo pos (starEach es X.env)).any (·.1) = false := by rfl) : TPE X W (.Call (.Name C p) (e :: es) [] pos) (dMake (He.ga X.K C) spec da) := by
  obtain ⟨fd, F, hbd⟩ := D
  obtain ⟨ta, a1, a2⟩ := ha
  exact ⟨_, pe_makeX M F hbd hr tk hm a1 hg hdb he hpl, se_make a2 hl⟩
end
/-! ### a text backwards: x[::-1] -/
def revS (z : Str) : Str := ⟨z.cps.toList.reverse.toArray⟩
def fRevS : List T → (T → Prop) → Prop
  | [.lf (.str z)], P => z.length ≤ sizeLine ∧ P (.lf (.str (revS z)))
  | _, _ => False
def rRevS : V → Hp → VK → Prop := fun x H Q => ∃ z, x = .str z ∧ z.length ≤ sizeLine ∧ Q (.str (revS z)) H
theorem os_revS {K : PySem.W.Frag} : OpS K fRevS (r1 rRevS) := by
  intro S H ts vs P Q s rd d k
  unfold fRevS at d
  split at d
  · obtain ⟨v, _, rfl, rv, rfl⟩ := rd
    have e := rv.lf
    subst e
    exact ⟨_, rfl, d.1, fin_lf s k d.2⟩
  · exact d.elim
theorem picked_rev (z : Str) : (Builtin.Str.strSliceIndices none none (-1) z.length).filterMap (z.cps[·]?) = z.cps.toList.reverse := by
  have e : Builtin.Str.strSliceIndices none none (-1) z.length = sliceRange ((z.cps.size : Int) - 1) (-1) (-1) := by
    unfold Builtin.Str.strSliceIndices
    rfl
  rw [e, PySem.W.krv_sliceRange, PySem.W.krv_range, List.filterMap_reverse, PySem.W.krv_all]
theorem pe_revS {X : Cx} {e : Expr} {te : TE} {k : Nat} {p1 p2 p3 pos : Pos} (he : PE X e te) : PE X (.Subscript e (.Slice none none (some (.UnaryOp .USub (.Constant (.int 1) k p1) p2)) p3) pos) (fun σ H Q => te σ H fun x H1 => rRevS x H1 Q) := by
  constructor
  intro pins s σ H Q I h
  refine Subscript_ (thn (he.run pins s σ H _ I h) ?_)
  rintro v s1 ⟨x, H1, I1, r1, z, rfl, hz, q⟩
  obtain ⟨t, rfl⟩ := r1
  have hst : PO X (some (.UnaryOp .USub (.Constant (.int 1) k p1) p2)) (tPart (tUn (rU fun i => .int (-i)) (tC (.int 1)))) := po_some (pe_un un_neg pe_int)
  refine wpAny_Slice (thn (po_none.run pins s1 σ H1 (fun o H2 => o = none ∧ H2 = H1) I1 ⟨rfl, rfl⟩) ?_)
  rintro vl s2 ⟨l, H2, I2, pl, rfl, rfl⟩
  refine thn (po_none.run pins s2 σ H2 (fun o H3 => o = none ∧ H3 = H2) I2 ⟨rfl, rfl⟩) ?_
  rintro vu s3 ⟨u, H3, I3, pu, rfl, rfl⟩
  refine thn (hst.run pins s3 σ H3 (fun o H4 => o = some (-1) ∧ H4 = H3) I3 ⟨1, rfl, -1, rfl, rfl, rfl⟩) ?_
  rintro vs s4 ⟨o, H4, I4, ps, rfl, rfl⟩
  have I5 : L2.Inv X pins σ H4 { s4 with heap := s4.heap.push { cls := .type "slice", data := .fields #[vl, vu, vs] } } := I4.kept (t' := s4.toks) fun b ob q => Heap.get?_push_of_some _ q
  obtain ⟨l, rfl, el⟩ := IsPart.raw pl
  obtain ⟨u, rfl, eu⟩ := IsPart.raw pu
  obtain ⟨st, rfl, es⟩ := IsPart.raw ps
  cases l with
  | some _ => cases el
  | none =>
  cases u with
  | some _ => cases eu
  | none =>
  cases st with
  | none => cases es
  | some stt =>
  obtain ⟨c, tc⟩ := stt
  have ec : c = (-1 : Int) := by simpa using es
  subst ec
  refine tail_any (ops := [.str z t, .ref s4.heap.objs.size]) (typeIs_str _ _ _) (PySem.F.slot_str_getitem.lookup) ?_ (by with_unfolding_all rfl)
  refine wpAny_getItem_str_slice (l := none) (u := none) (st := some (-1, tc)) (Heap.IsSliceOf.new _ _ _ _) rfl ?_
  have e : (sliceMade z t none none (some (-1, tc))) = Made.str (revS z) := by
    unfold sliceMade
    rw [if_neg (by simp)]
    congr 2
    exact congrArg _ (picked_rev z)
  rw [e]
  refine ⟨?_, .str (revS z), H4, I5.tok _, ⟨_, rfl⟩, q⟩
  show (revS z).cps.size ≤ sizeLine
  unfold revS
  rw [List.size_toArray, List.length_reverse, Array.length_toList]
  exact hz
section
variable {X : Cx} {W : Wc} {e : Expr} {o1 : Od} {k : Nat} {p1 p2 p3 pos : Pos}
theorem t_revS (h : TPO X W e o1) : TPE X W (.Subscript e (.Slice none none (some (.UnaryOp .USub (.Constant (.int 1) k p1) p2)) p3) pos) (dOp fRevS [o1]) :=
  let ⟨_, a1, a2⟩ := h; ⟨_, pe_revS a1, se_op (r := r1 rRevS) (sl_cons a2 sl_nil) os_revS⟩
end
/-! ### x.index(y) of texts -/
def fSIndex : List T → (T → Prop) → Prop
  | [.lf (.str a), .lf (.str b)], P => ∃ i rest, Builtin.Str.occurrences a b 0 a.length 1 = i :: rest ∧ P (.lf (.int (i : Nat)))
  | _, _ => False
abbrev rSIndex : V → List V → Hp → VK → Prop := fun x xs H Q => ∃ a b i rest, x = .str a ∧ xs = [.str b] ∧ Builtin.Str.occurrences a b 0 a.length 1 = i :: rest ∧ Q (.int (i : Nat)) H
theorem os_sindex {K : PySem.W.Frag} : OpS K fSIndex (rHd rSIndex) := by
  intro S H ts vs P Q s rd d k
  unfold fSIndex at d
  split at d
  · obtain ⟨v, _, rfl, rv, w, _, rfl, rw', rfl⟩ := rd
    have e1 := rv.lf
    have e2 := rw'.lf
    subst e1 e2
    obtain ⟨i, rest, e, p⟩ := d
    exact ⟨_, _, i, rest, rfl, rfl, e, fin_lf s k p⟩
  · exact d.elim
/-! ### isinstance(e, c) in a suite, of the thing that was caught -/
def rIsS (K : PySem.W.Frag) (a C dd : Addr) : List V → Hp → VK → Prop := fun xs H Q => ∃ (c : V) (u : Value) (b : Bool) (fvs : List (Str × V)), xs = [.ref a, c] ∧ H dd = some (.xd fvs) ∧ ExcC K C ∧ ClsV c u ∧ PySem.W.kitOne K (.ref C) u = some b ∧ Q (.bl b) H
theorem call_isS {X : Cx} {a C dd : Addr} {oe : Obj} {pn : List (Addr × Obj)} (hz : Zc (.ref C) (some dd) oe) (hf : ∃ vs, oe.data = .fields vs) : CallR (X.suite a ((a, oe) :: pn)) (.builtin "isinstance") (rIsS X.K a C dd) := by
  intro pins s σ H xs us Q I r h
  obtain ⟨c, u, b, fvs, rfl, ed, ec, cv, e, q⟩ := h
  obtain ⟨u1, u2, rfl, r1, r2⟩ := vals2 r
  cases (show u1 = Value.ref a from r1)
  cases cv.eq r2
  obtain ⟨ha, _⟩ := I.pin (a, oe) (List.mem_append_left _ List.mem_cons_self)
  obtain ⟨vs, hd⟩ := hf
  have hx : ObjOk X.prog X.w H s.heap dd (.xd fvs) := I.hok dd _ ed
  obtain ⟨mA, hns, hr⟩ := hx
  obtain ⟨od, ho, hl⟩ := lookIn_ns hns
  have J : PySem.W.InstAt s.heap a oe C (some od) := ⟨ha, hz.1, by unfold PySem.W.notCls; rw [hd] <;> rfl, by rw [hz.2]; exact ho⟩
  obtain ⟨cd, hc, _⟩ := PySem.W.any_some ec.hd
  exact PySem.W.kia_one (PySem.W.kitx_exc (ox := oe) (od := od) (by rw [hc]; rfl) ec.hg ec.hk ec.hs ec.ha ec.hn ec.ht ec.hm) I.kIn J e (fun z => by cases z) fun tk => ⟨.bl b, H, I.tok tk, rfl, q⟩
def dIsS (K : PySem.W.Frag) (a : Addr) (ex : T) (c : V) (de : DE) : DE := fun env P Ex => de env (fun t env' => t = .lf (.ref a) ∧ ∃ C fs ts u b, ex = .nd false (.exc C fs) ts ∧ ExcC K C ∧ clsU c = some u ∧ PySem.W.kitOne K (.ref C) u = some b ∧ P (.lf (.bl b)) env') Ex
theorem t_isS {X : Cx} {W : Wc} {a C dd : Addr} {fs : List Str} {ts : List T} {oe : Obj} {pn : List (Addr × Obj)} {e ec : Expr} {de : DE} {p pos : Pos} {c : V} (hz : Zc (.ref C) (some dd) oe) (hf : ∃ vs, oe.data = .fields vs) (hg : Gl (X.suite a ((a, oe) :: pn)) "isinstance") (hm : X.mg "isinstance" = none) (he : TPE (X.suite a ((a, oe) :: pn)) (suW X.K W (.nd false (.exc C fs) ts) (.ref C) (some dd)) e de) (hc : PE (X.suite a ((a, oe) :: pn)) ec (tC c))
    (h1 : starEach (e :: [ec]) X.env = (false, eval e X.env) :: starEach [ec] X.env := by rfl) (h2 : starEach [ec] X.env = (false, eval ec X.env) :: starEach [] X.env := by rfl) (hpl : (backTo pos (starEach [ec] X.env)).any (·.1) = false := by rfl) :
    TPE (X.suite a ((a, oe) :: pn)) (suW X.K W (.nd false (.exc C fs) ts) (.ref C) (some dd)) (.Call (.Name "isinstance" p) [e, ec] [] pos) (dIsS X.K a (.nd false (.exc C fs) ts) c de) := by
  obtain ⟨te, a1, a2⟩ := he
  refine ⟨_, pe_callB (call_isS hz hf) hg hm (by decide +kernel) (pa_cons a1 (pa_cons hc pa_nil h2) h1) (by decide) (by decide) h1 hpl, fun S D H σ env Q P Ex o r d k x => a2 S D H σ env _ _ Ex o r d (fun S' D' H' env' t v n' rz q => ?_) x⟩
  obtain ⟨rfl, C0, fs0, ts0, u, b, e0, ecc, eu, ek, q⟩ := q
  cases e0
  obtain ⟨D1, D2, dj, s1, s2, re, rv⟩ := rz
  cases rv
  obtain ⟨C', fs', ts', vs', dd', f1, f2, f3, f4, f5, f6, f7⟩ := n'.ok.g.2
  cases f1
  cases f2
  cases f3
  refine ⟨c, u, b, _, rfl, n'.ok.sub _ _ f4, ecc, ?_, ek, k _ _ _ _ _ _ n' (.lf (re.mono (.refl _) (fun _ _ _ e => e) s1)) q⟩
  unfold clsU at eu
  split at eu <;> cases eu
  · exact .ty _
  · exact .own _
end Tr

set_option Elab.async false
set_option linter.all false
set_option maxRecDepth 100000
set_option maxHeartbeats 1000000
set_option autoImplicit false
namespace Tr
open PySem PySem.Spec PyProof.Rows L2 Cm
local macro_rules | `(tactic| walk_at "vis") => `(tactic| (first | exact Or.inl rfl | exact Or.inr (Or.inl rfl) | exact Or.inr (Or.inr rfl)))
local macro_rules | `(tactic| walk_at "loc") => `(tactic| (first | exact Or.inl rfl | exact Or.inr rfl))
/-! ### what is done on trees, step by step -/
theorem Kd.unl_unl (k : Kd) : k.unl.unl = k.unl := by cases k <;> rfl
theorem T.fz_fz : ∀ t : T, t.fz.fz = t.fz
  | .lf v => by simp
  | .nd o k xs => by
    simp only [T.fz_nd, List.map_map, Kd.unl_unl]
    congr 1
    exact List.map_congr_left fun x hx => T.fz_fz x
termination_by t => sizeOf t
decreasing_by
  simp_wf
  have := List.sizeOf_lt_of_mem hx
  omega
theorem outsOf_n (env : Env) : outsOf [] env = some [] := rfl
theorem outsOf_c (i : Nat) (is : List Nat) (env : Env) : outsOf (i :: is) env = (env[i]?.join).bind fun t => (outsOf is env).map (t :: ·) := by
  cases h : env[i]? with
  | none => simp [outsOf, h]
  | some o => cases o <;> simp [outsOf, h]
theorem dLs1_eq (d : DE) (F : T → Env → Prop) (env : Env) (Ex : PT1) : dLs [.v d] env (fun rs env' => ∃ t, rs = [.inl t] ∧ F t env') Ex = d env (fun t env' => F t.fz env') Ex := by
  unfold dLs dLs
  congr 1
  funext t env1
  exact propext ⟨fun ⟨a, e, h⟩ => by cases e; exact h, fun h => ⟨_, rfl, h⟩⟩
theorem dLs2_eq (a b : DE) (F : T → T → Env → Prop) (env : Env) (Ex : PT1) : dLs [.v a, .v b] env (fun rs env' => ∃ t1 t2, rs = [.inl t1, .inl t2] ∧ F t1 t2 env') Ex = a env (fun t1 env1 => b env1 (fun t2 env2 => F t1.fz t2.fz env2) Ex) Ex := by
  unfold dLs dLs dLs
  congr 1
  funext t env1
  congr 1
  funext u env2
  exact propext ⟨fun ⟨x, y, e, h⟩ => by cases e; exact h, fun h => ⟨_, _, rfl, h⟩⟩
theorem dChain_eq (f f' : List T → (T → Prop) → Prop) (d1 d2 d3 : DE) (env : Env) (P Ex : PT1) : dChain f f' d1 d2 d3 env P Ex = d1 env (fun t1 env1 => d2 env1 (fun t2 env2 => f [t1.fz, t2.fz] fun t => ∃ c, t = .lf (.bl c) ∧ if c = true then d3 env2 (fun t3 env3 => f' [t2.fz, t3.fz] fun t => P t env3) Ex else P (.lf (.bl false)) env2) Ex) Ex := by
  unfold dChain
  simp only [dLs1_eq, dLs2_eq]
theorem dLs1i_eq (d : DE) (F : Int → Env → Prop) (env : Env) (Ex : PT1) : dLs [.v d] env (fun rs env' => ∃ j, rs = [.inl (.lf (.int j))] ∧ F j env') Ex = d env (fun t env' => ∃ j, t.fz = .lf (.int j) ∧ F j env') Ex := by
  unfold dLs dLs
  congr 1
  funext t env1
  exact propext ⟨fun ⟨j, e, h⟩ => ⟨j, by simpa using e, h⟩, fun ⟨j, e, h⟩ => ⟨j, by rw [e], h⟩⟩
theorem dLsvi_eq (a d : DE) (F : Rdr → Int → Env → Prop) (env : Env) (Ex : PT1) : dLs [.v a, .v d] env (fun rs env' => ∃ r0 j, rs = [r0, .inl (.lf (.int j))] ∧ F r0 j env') Ex = a env (fun t env1 => d env1 (fun u env2 => ∃ j, u.fz = .lf (.int j) ∧ F (.inl t.fz) j env2) Ex) Ex := by
  unfold dLs dLs dLs
  congr 1
  funext t env1
  congr 1
  funext u env2
  refine propext ⟨fun ⟨r0, j, e, h⟩ => ?_, fun ⟨j, e, h⟩ => ⟨_, j, by rw [e], h⟩⟩
  simp only [List.cons.injEq, Sum.inl.injEq, and_true] at e
  obtain ⟨rfl, e⟩ := e
  exact ⟨j, e, h⟩
theorem dLspi_eq (x : Nat) (d : DE) (F : Rdr → Int → Env → Prop) (env : Env) (Ex : PT1) : dLs [.pk x, .v d] env (fun rs env' => ∃ r0 j, rs = [r0, .inl (.lf (.int j))] ∧ F r0 j env') Ex = ((∃ t, env[x]? = some (some t)) ∧ d env (fun u env2 => ∃ j, u.fz = .lf (.int j) ∧ F (.inr x) j env2) Ex) := by
  unfold dLs dLs dLs
  congr 2
  funext u env2
  refine propext ⟨fun ⟨r0, j, e, h⟩ => ?_, fun ⟨j, e, h⟩ => ⟨_, j, by rw [e], h⟩⟩
  simp only [List.cons.injEq, Sum.inl.injEq, and_true] at e
  obtain ⟨rfl, e⟩ := e
  exact ⟨j, e, h⟩
theorem dSl11_v (d1 d2 d3 : DE) (env : Env) (P Ex : PT1) : dSl11 (.v d1) d2 d3 env P Ex = d1 env (fun t env1 => d2 env1 (fun u env2 => ∃ i, u.fz = .lf (.int i) ∧ d3 env2 (fun w env3 => ∃ j, w.fz = .lf (.int j) ∧ ∃ t', rdT env3 (.inl t.fz) = some t' ∧ fSl (some i) (some j) t' fun t' => P t' env3) Ex) Ex) Ex := by
  unfold dSl11
  simp only [dLsvi_eq, dLs1i_eq]
theorem dSl11_pk (x : Nat) (d2 d3 : DE) (env : Env) (P Ex : PT1) : dSl11 (.pk x) d2 d3 env P Ex = ((∃ t, env[x]? = some (some t)) ∧ d2 env (fun u env2 => ∃ i, u.fz = .lf (.int i) ∧ d3 env2 (fun w env3 => ∃ j, w.fz = .lf (.int j) ∧ ∃ t', rdT env3 (.inr x) = some t' ∧ fSl (some i) (some j) t' fun t' => P t' env3) Ex) Ex) := by
  unfold dSl11
  simp only [dLspi_eq, dLs1i_eq]
/-! lists of ints, lists of such -/
abbrev rowT (o : Bool) (ns : List Int) : T := .nd o .lst (ns.map fun i => .lf (.int i))
abbrev matT (o o' : Bool) (L : List (List Int)) : T := .nd o .lst (L.map (rowT o'))
theorem map_fz_lf {α : Type} (f : α → V) (ns : List α) : (ns.map fun i => T.lf (f i)).map T.fz = ns.map fun i => T.lf (f i) := by
  rw [List.map_map]
  exact List.map_congr_left fun _ _ => T.fz_lf _
theorem rowT_fz (o : Bool) (ns : List Int) : (rowT o ns).fz = rowT false ns := by
  unfold rowT
  rw [T.fz_nd, map_fz_lf]
  rfl
theorem matT_fz (o o' : Bool) (L : List (List Int)) : (matT o o' L).fz = matT false false L := by
  unfold matT
  rw [T.fz_nd, List.map_map]
  show T.nd false .lst _ = _
  congr 1
  exact List.map_congr_left fun r _ => rowT_fz o' r
theorem map_rowT_fz (o : Bool) (L : List (List Int)) : (L.map (rowT o)).map T.fz = L.map (rowT false) := by
  rw [List.map_map]
  exact List.map_congr_left fun r _ => rowT_fz o r
theorem rowT_fzd (ns : List Int) : (rowT false ns).fzd = true := rfl
theorem matT_snoc (o o' : Bool) (L : List (List Int)) (r : List Int) : matT o o' (L ++ [r]) = .nd o .lst (L.map (rowT o') ++ [rowT o' r]) := by simp [matT]
/-! ### what is told of things whose kind is seen -/
section
variable {K : PySem.W.Frag} {P : T → Prop} {o o' : Bool} {xs ys : List T} {i j : Int} {a b : Str} {x y : Bool}
theorem fAdd_ii : fAdd [.lf (.int i), .lf (.int j)] P = P (.lf (.int (i + j))) := rfl
theorem fAdd_ss : fAdd [.lf (.str a), .lf (.str b)] P = (a.length + b.length ≤ sizeLine ∧ P (.lf (.str (a ++ b)))) := rfl
theorem fAdd_ll : fAdd [.nd o .lst xs, .nd o' .lst ys] P = (xs.length + ys.length ≤ sizeLine ∧ ko o xs ∧ ko o' ys ∧ P (.nd true .lst (xs ++ ys))) := rfl
theorem fAdd_tt : fAdd [.nd false .tup xs, .nd false .tup ys] P = (xs.length + ys.length ≤ sizeLine ∧ P (.nd false .tup (xs ++ ys))) := rfl
theorem fMul_ii : fMul [.lf (.int i), .lf (.int j)] P = (CMulW i j ∧ P (.lf (.int (i * j)))) := rfl
theorem fMul_li : fMul [.nd o .lst xs, .lf (.int j)] P = ((-(2 ^ 63) ≤ j ∧ j < 2 ^ 63 ∧ xs.length * j.toNat ≤ sizeLine) ∧ ko o xs ∧ P (.nd true .lst (List.replicate j.toNat xs).flatten)) := rfl
theorem fII_ii (g : Int → Int → V) : fII g [.lf (.int i), .lf (.int j)] P = P (.lf (g i j)) := rfl
theorem fIC_ii (C : Int → Int → Prop) (g : Int → Int → V) : fIC C g [.lf (.int i), .lf (.int j)] P = (C i j ∧ P (.lf (g i j))) := rfl
theorem fCmp_ii (g : Int → Int → Bool) (h : Str → Str → Bool) : fCmp g h [.lf (.int i), .lf (.int j)] P = P (.lf (.bl (g i j))) := rfl
theorem fCmp_ss (g : Int → Int → Bool) (h : Str → Str → Bool) : fCmp g h [.lf (.str a), .lf (.str b)] P = P (.lf (.bl (h a b))) := rfl
theorem isN_non : T.isN (.lf .non) = true := rfl
theorem isN_int : T.isN (.lf (.int i)) = false := rfl
theorem isN_bl : T.isN (.lf (.bl x)) = false := rfl
theorem isN_str : T.isN (.lf (.str a)) = false := rfl
theorem isN_nd (k : Kd) : T.isN (.nd o k xs) = false := rfl
theorem fIsN_n (t : T) : fIsN [t, .lf .non] P = P (.lf (.bl t.isN)) := rfl
theorem fNotN_n (t : T) : fNotN [t, .lf .non] P = P (.lf (.bl (!t.isN))) := rfl
theorem fNeg_i : fNeg [.lf (.int i)] P = P (.lf (.int (-i))) := rfl
theorem fInt1_i : fInt1 [.lf (.int i)] P = P (.lf (.int i)) := rfl
theorem fInt1_b : fInt1 [.lf (.bl x)] P = P (.lf (.int (if x = true then 1 else 0))) := rfl
theorem fTuple_l : fTuple [.nd o .lst xs] P = (ko o xs ∧ P (.nd false .tup xs)) := rfl
theorem fTuple_t : fTuple [.nd false .tup xs] P = P (.nd false .tup xs) := rfl
theorem fList_l : fList [.nd o .lst xs] P = (ko o xs ∧ P (.nd true .lst xs)) := rfl
theorem fList_t : fList [.nd o .tup xs] P = (ko o xs ∧ P (.nd true .lst xs)) := rfl
theorem fList_k : fList [.nd o .tpk xs] P = (ko o xs ∧ P (.nd true .lst xs)) := rfl
theorem fMax_ii : fMax [.lf (.int i), .lf (.int j)] P = P (.lf (.int (if j > i then j else i))) := rfl
theorem fMin_ii : fMin [.lf (.int i), .lf (.int j)] P = P (.lf (.int (if j < i then j else i))) := rfl
theorem fDivmod_ii : fDivmod [.lf (.int i), .lf (.int j)] P = (CDiv i j ∧ P (.nd false .tup [.lf (.int (i / j)), .lf (.int (i % j))])) := rfl
theorem fLen_l : fLen [.nd o .lst xs] P = P (.lf (.int xs.length)) := rfl
theorem fLen_q : fLen [.nd o .seq xs] P = P (.lf (.int xs.length)) := rfl
theorem fLen_t : fLen [.nd o .tup xs] P = P (.lf (.int xs.length)) := rfl
theorem fLen_k : fLen [.nd o .tpk xs] P = P (.lf (.int xs.length)) := rfl
theorem fLen_s : fLen [.lf (.str a)] P = (a.length ≤ sizeLine ∧ P (.lf (.int a.length))) := rfl
theorem fSl_l (lo hi : Option Int) : fSl lo hi (.nd o .lst xs) P = (ko o xs ∧ P (.nd true .lst (cutT xs lo hi))) := rfl
theorem fSl_t (lo hi : Option Int) : fSl lo hi (.nd false .tup xs) P = P (.nd false .tup (cutT xs lo hi)) := rfl
theorem fSl_s (lo hi : Option Int) : fSl lo hi (.lf (.str a)) P = (a.length ≤ sizeLine ∧ P (.lf (.str (cutS a lo hi)))) := rfl
theorem fSl00_e (t : T) : fSl00 [t] P = fSl none none t P := rfl
theorem fSl10_e (t : T) : fSl10 [t, .lf (.int i)] P = fSl (some i) none t P := rfl
theorem fSl01_e (t : T) : fSl01 [t, .lf (.int i)] P = fSl none (some i) t P := rfl
theorem fIsB_bb : fIsB [.lf (.bl x), .lf (.bl y)] P = P (.lf (.bl (decide (x = y)))) := rfl
theorem fIx_l : fIx [.nd o .lst xs, .lf (.int i)] P = (∃ t, atI xs i = some t ∧ t.fzd = true ∧ P t) := rfl
theorem fIx_q : fIx [.nd o .seq xs, .lf (.int i)] P = (∃ t, atI xs i = some t ∧ t.fzd = true ∧ P t) := rfl
theorem fIx_t : fIx [.nd o .tup xs, .lf (.int i)] P = (∃ t, atI xs i = some t ∧ t.fzd = true ∧ P t) := rfl
theorem fIx_k : fIx [.nd o .tpk xs, .lf (.int i)] P = (∃ t, atI xs i = some t ∧ t.fzd = true ∧ P t) := rfl
theorem fIx_s : fIx [.lf (.str a), .lf (.int i)] P = (a.length ≤ sizeLine ∧ ∃ c, atI a.cps.toList i = some c ∧ P (strAt c)) := rfl
theorem tru_non : T.tru (.lf .non) = some false := rfl
theorem tru_bl : T.tru (.lf (.bl x)) = some x := rfl
theorem tru_int : T.tru (.lf (.int i)) = some (i != 0) := rfl
theorem tru_lst : T.tru (.nd o .lst xs) = some (!xs.isEmpty) := rfl
theorem tru_tup : T.tru (.nd o .tup xs) = some (!xs.isEmpty) := rfl
theorem gTupl_t (n : Nat) (gs : DGs) (env : Env) (Q : Env → Prop) : gTupl n gs (.nd o .tup xs) env Q = (xs.length = n ∧ gs xs env Q) := rfl
theorem gTupl_k (n : Nat) (gs : DGs) (env : Env) (Q : Env → Prop) : gTupl n gs (.nd o .tpk xs) env Q = (xs.length = n ∧ gs xs env Q) := rfl
theorem gsCons_c (g : DG) (gs : DGs) (t : T) (env : Env) (Q : Env → Prop) : gsCons g gs (t :: xs) env Q = g t env fun env' => gs xs env' Q := rfl
variable {R : T → Kd → List T → Prop} {t u : T} {ks : List Key}
theorem fAppend_l : fAppend .lst xs [t] R = (xs.length < sizeLine ∧ R (.lf .non) .lst (xs ++ [t])) := rfl
theorem fSetL_l : fSetL .lst xs [t, .lf (.int i)] R = (∃ j, ixN xs.length i = some j ∧ R (.lf .non) .lst (xs.set j t)) := rfl
theorem fExtend_l : fExtend .lst xs [.nd o .lst ys] R = (xs.length + ys.length ≤ sizeLine ∧ R (.lf .non) .lst (xs ++ ys)) := rfl
theorem fPop_l : fPop .lst xs [] R = (∃ t, xs[xs.length - 1]? = some t ∧ R t .lst xs.dropLast) := rfl
theorem fPopAt_l : fPopAt .lst xs [.lf (.int i)] R = (∃ j t, (-(2 ^ 63) ≤ i ∧ i < 2 ^ 63) ∧ seqIndex? i xs.length = some j ∧ xs[j]? = some t ∧ R t .lst (xs.eraseIdx j)) := rfl
theorem fInsert_l : fInsert .lst xs [.lf (.int i), t] R = (xs.length < sizeLine ∧ (0 ≤ i ∧ i < 2 ^ 63) ∧ R (.lf .non) .lst (xs.take i.toNat ++ [t] ++ xs.drop i.toNat)) := rfl
theorem fReverse_l : fReverse .lst xs [] R = R (.lf .non) .lst xs.reverse := rfl
theorem fClear_l : fClear .lst xs [] R = R (.lf .non) .lst [] := rfl
theorem fDPut_i : fDPut (.dk ks) xs [t, .lf (.int i)] R = (xs.length < sizeLine ∧ R (.lf .non) (.dk (Tr.dp ks xs (.inl i) t).1) (Tr.dp ks xs (.inl i) t).2) := by
  refine propext ⟨fun ⟨kk, e, h⟩ => by cases e; exact h, fun h => ⟨_, rfl, h⟩⟩
theorem fDPut_s : fDPut (.dk ks) xs [t, .lf (.str a)] R = (xs.length < sizeLine ∧ R (.lf .non) (.dk (Tr.dp ks xs (.inr a) t).1) (Tr.dp ks xs (.inr a) t).2) := by
  refine propext ⟨fun ⟨kk, e, h⟩ => by cases e; exact h, fun h => ⟨_, rfl, h⟩⟩
theorem fRng1_i : fRng1 [.lf (.int i)] P = P (.nd true (.rg 0 i) []) := rfl
def asR : T → (Int → Int → Prop) → Prop
  | .nd _ (.rg lo hi) _, P => P lo hi
  | _, _ => False
theorem asR_r (lo hi : Int) (Q : Int → Int → Prop) : asR (.nd o (.rg lo hi) xs) Q = Q lo hi := rfl
theorem dRngO_pk (n : Nat) (env : Env) (Q : PLs) (Ex : PT1) : dRngO (.pk n) env Q Ex = ∃ t, env[n]? = some (some t) ∧ asR t fun lo hi => (-(2 ^ 62) ≤ lo ∧ lo < 2 ^ 62 ∧ -(2 ^ 62) ≤ hi ∧ hi < 2 ^ 62) ∧ Q (irg lo (hi - lo).toNat) env := by
  unfold dRngO dLs dLs
  apply propext
  constructor
  · rintro ⟨⟨t, e⟩, lo, hi, ys, w, e2, h⟩
    refine ⟨t, e, ?_⟩
    simp only [rdAll, rdT, e, Option.join, Option.bind_some, id_eq, Option.some.injEq, List.cons.injEq, and_true] at e2
    subst e2
    exact h
  · rintro ⟨t, e, h⟩
    refine ⟨⟨t, e⟩, ?_⟩
    cases t with
    | lf v => exact h.elim
    | nd w k ys =>
      cases k with
      | rg lo hi => exact ⟨lo, hi, ys, w, by simp only [rdAll, rdT, e, Option.join, Option.bind_some, id_eq], h⟩
      | _ => exact h.elim
theorem fDGet2_i : fDGet2 [.nd o (.dk ks) xs, .lf (.int i), t] P = (((Tr.dg ks xs (.inl i)).getD t).fzd = true ∧ P ((Tr.dg ks xs (.inl i)).getD t)) := by
  refine propext ⟨fun ⟨z, e, h⟩ => by cases e; exact h, fun h => ⟨_, rfl, h⟩⟩
theorem fDGet2_s : fDGet2 [.nd o (.dk ks) xs, .lf (.str a), t] P = (((Tr.dg ks xs (.inr a)).getD t).fzd = true ∧ P ((Tr.dg ks xs (.inr a)).getD t)) := by
  refine propext ⟨fun ⟨z, e, h⟩ => by cases e; exact h, fun h => ⟨_, rfl, h⟩⟩
theorem fDGet_i : fDGet [.nd o (.dk ks) xs, .lf (.int i)] P = (∃ t, Tr.dg ks xs (.inl i) = some t ∧ t.fzd = true ∧ P t) := by
  refine propext ⟨fun ⟨t, e, h⟩ => ⟨t, Option.some.inj (show some (Tr.dg ks xs (.inl i)) = some (some t) from e), h⟩, fun ⟨t, e, h⟩ => ⟨t, by rw [show dval (.nd o (.dk ks) xs) (.lf (.int i)) = some (Tr.dg ks xs (.inl i)) from rfl, e], h⟩⟩
theorem one_inj {a b : T} : ([a] = [b]) = (a = b) := by simp
theorem key_i : T.key (.lf (.int i)) = some (.inl i) := rfl
theorem key_s : T.key (.lf (.str a)) = some (.inr a) := rfl
theorem isDic_k : T.isDic (.nd o (.dk ks) xs) = true := rfl
theorem fDIn_i (n : Bool) : fDIn n [.lf (.int i), .nd o (.dk ks) xs] P = P (.lf (.bl (n ^^ (Tr.dg ks xs (.inl i)).isSome))) := by
  refine propext ⟨fun ⟨z, e, h⟩ => by cases e; exact h, fun h => ⟨_, rfl, h⟩⟩
def lsL : T → (List T → Prop) → Prop
  | .nd _ .lst xs, P => P xs
  | .nd _ .seq xs, P => P xs
  | _, _ => False
theorem lsL_e (Q : List T → Prop) (t : T) : lsL t Q = ∃ xs, lstOf t = some xs ∧ Q xs := by
  apply propext
  constructor
  · intro h
    cases t with
    | lf v => exact h.elim
    | nd o k xs =>
      cases k with
      | lst => exact ⟨xs, rfl, h⟩
      | seq => exact ⟨xs, rfl, h⟩
      | _ => exact h.elim
  · rintro ⟨xs, e, h⟩
    cases t with
    | lf v => cases e
    | nd o k ys =>
      cases k with
      | lst => cases e; exact h
      | seq => cases e; exact h
      | _ => cases e
theorem lsL_l (Q : List T → Prop) : lsL (.nd o .lst xs) Q = Q xs := rfl
theorem lsL_m (Q : List T → Prop) (L : List (List Int)) : lsL (matT o o' L) Q = Q (L.map (rowT o')) := rfl
theorem lsL_r (Q : List T → Prop) (L : List Int) : lsL (rowT o L) Q = Q (L.map fun i => .lf (.int i)) := rfl
def as2T : List T → (T → T → Prop) → Prop
  | [t, u], P => P t u
  | _, _ => False
theorem as2T_l (Q : T → T → Prop) (t u : T) : as2T [t, u] Q = Q t u := rfl
def as1T : List T → (T → Prop) → Prop
  | [t], P => P t
  | _, _ => False
theorem as1T_l (Q : T → Prop) (t : T) : as1T [t] Q = Q t := rfl
theorem dZip_e (da : DA) (env : Env) (Q : PLs) (Ex : PT1) : dZip da env Q Ex = da env (fun ts env' => as2T ts fun t u => lsL t.fz fun xs => lsL u.fz fun ys => Q (zipF xs ys) env') Ex := by
  unfold dZip
  congr 1
  funext ts env'
  simp only [lsL_e]
  apply propext
  constructor
  · rintro ⟨t, u, xs, ys, rfl, e1, e2, h⟩
    exact ⟨xs, e1, ys, e2, h⟩
  · intro h
    match ts, h with
    | [t, u], ⟨xs, e1, ys, e2, h⟩ => exact ⟨t, u, xs, ys, rfl, e1, e2, h⟩
theorem dEnum_e (da : DA) (env : Env) (Q : PLs) (Ex : PT1) : dEnum da env Q Ex = da env (fun ts env' => as1T ts fun t => lsL t.fz fun xs => Q (enumF 0 xs) env') Ex := by
  unfold dEnum
  congr 1
  funext ts env'
  simp only [lsL_e]
  apply propext
  constructor
  · rintro ⟨t, xs, rfl, e1, h⟩
    exact ⟨xs, e1, h⟩
  · intro h
    match ts, h with
    | [t], ⟨xs, e1, h⟩ => exact ⟨t, xs, rfl, e1, h⟩
def asM : Option (Option T) → (Kd → List T → Prop) → Prop
  | some (some (.nd true k xs)), P => P k xs
  | _, _ => False
theorem asM_e (Q : Kd → List T → Prop) (z : Option (Option T)) : asM z Q = ∃ k xs, z = some (some (.nd true k xs)) ∧ Q k xs := by
  apply propext
  constructor
  · intro h
    match z, h with
    | some (some (.nd true k xs)), h => exact ⟨k, xs, rfl, h⟩
  · rintro ⟨k, xs, rfl, h⟩
    exact h
theorem asM_n (k : Kd) (Q : Kd → List T → Prop) : asM (some (some (.nd true k xs))) Q = Q k xs := rfl
theorem dMutA_e (i : Nat) (n : String) (f : FM) (da : DA) (env : Env) (Q Ex : PT1) : dMutA i n f da env Q Ex = (asM env[i]? (fun k _ => kindOf k = n) ∧ da env (fun ts env1 => asM env1[i]? fun k xs => f k xs ts fun t k' xs' => Q t (env1.set i (some (.nd true k' xs')))) Ex) := by
  unfold dMutA
  simp only [asM_e]
theorem dPutA_e (i : Nat) (f : FM) (dv de : DE) (DT : DEnds) (env : Env) : dPutA i f dv de DT env = dv env (fun t env1 => (∃ t0, env1[i]? = some (some t0)) ∧ de env1 (fun te env2 => asM env2[i]? fun k xs => f k xs [t, te.fz] fun _ k' xs' => DT.nx (env2.set i (some (.nd true k' xs')))) DT.ex) DT.ex := by
  unfold dPutA
  simp only [asM_e]
theorem kindOf_l : kindOf .lst = "list" := rfl
theorem kindOf_k : kindOf (.dk ks) = "dict" := rfl
def asL : T → (List T → Prop) → Prop
  | .nd _ .lst ts, P => P ts
  | _, _ => False
def asT : T → (List T → Prop) → Prop
  | .nd _ .tup ts, P => P ts
  | .nd _ .tpk ts, P => P ts
  | _, _ => False
theorem asL_l (Q : List T → Prop) : asL (.nd o .lst xs) Q = Q xs := rfl
theorem asT_t (Q : List T → Prop) : asT (.nd o .tup xs) Q = Q xs := rfl
theorem asT_k (Q : List T → Prop) : asT (.nd o .tpk xs) Q = Q xs := rfl
theorem dItems_e (de : DE) (env : Env) (Q : PLs) (Ex : PT1) : dItems de env Q Ex = de env (fun t env' => asL t.fz fun ts => Q ts env') Ex := by
  unfold dItems
  congr 1
  funext t env'
  generalize t.fz = u
  cases u with
  | lf v => rfl
  | nd o k xs => cases k <;> rfl
theorem dItemsT_e (de : DE) (env : Env) (Q : PLs) (Ex : PT1) : dItemsT de env Q Ex = de env (fun t env' => asT t.fz fun ts => Q ts env') Ex := by
  unfold dItemsT
  congr 1
  funext t env'
  generalize t.fz = u
  cases u with
  | lf v => rfl
  | nd o k xs => cases k <;> rfl
def as1 : List T → (Int → Prop) → Prop
  | [.lf (.int j)], P => P j
  | _, _ => False
def as2 : List T → (Int → Int → Prop) → Prop
  | [.lf (.int i), .lf (.int j)], P => P i j
  | _, _ => False
theorem as1_i (Q : Int → Prop) : as1 [.lf (.int i)] Q = Q i := rfl
theorem as2_i (Q : Int → Int → Prop) : as2 [.lf (.int i), .lf (.int j)] Q = Q i j := rfl
theorem dRng1_e (da : DA) (env : Env) (Q : PLs) (Ex : PT1) : dRng1 da env Q Ex = da env (fun ts env' => as1 ts fun j => (-(2 ^ 62) ≤ j ∧ j < 2 ^ 62) ∧ Q (irg 0 j.toNat) env') Ex := by
  unfold dRng1
  congr 1
  funext ts env'
  rcases ts with _ | ⟨t, _ | ⟨u, ts⟩⟩
  · rfl
  · cases t with
    | nd o k xs => rfl
    | lf v => cases v <;> rfl
  · cases t with
    | nd o k xs => rfl
    | lf v => cases v <;> rfl
theorem dRng2_e (da : DA) (env : Env) (Q : PLs) (Ex : PT1) : dRng2 da env Q Ex = da env (fun ts env' => as2 ts fun i j => (-(2 ^ 62) ≤ i ∧ i < 2 ^ 62 ∧ -(2 ^ 62) ≤ j ∧ j < 2 ^ 62) ∧ Q (irg i (j - i).toNat) env') Ex := by
  unfold dRng2
  congr 1
  funext ts env'
  rcases ts with _ | ⟨t, _ | ⟨u, _ | ⟨w, ts⟩⟩⟩
  · rfl
  · cases t with
    | nd o k xs => rfl
    | lf v => cases v <;> rfl
  · cases t with
    | nd o k xs => rfl
    | lf v =>
      cases v <;> first | rfl | (cases u with | nd o k xs => rfl | lf w => cases w <;> rfl)
  · cases t with
    | nd o k xs => rfl
    | lf v =>
      cases v <;> first | rfl | (cases u with | nd o k xs => rfl | lf w => cases w <;> rfl)
end
theorem at_n {α : Type} {xs : List α} {i : Int} (j : Nat) {t : α} (e : i = (j : Nat)) (h : xs[j]? = some t) : atI xs i = some t := by
  rw [e]; exact atI_nat h
theorem at_mem {α : Type} {xs : List α} {i : Int} (h0 : 0 ≤ i) (h1 : i < xs.length) : ∃ t ∈ xs, atI xs i = some t := by
  obtain ⟨j, rfl⟩ := Int.eq_ofNat_of_zero_le h0
  have hj : j < xs.length := by omega
  exact ⟨_, List.getElem_mem hj, at_n j rfl (List.getElem?_eq_getElem hj)⟩
theorem ix_ok {n : Nat} {i : Int} (h0 : 0 ≤ i) (h1 : i < n) : ixN n i = some i.toNat := by
  unfold ixN
  first | (simp; omega) | (split <;> simp_all <;> omega)
theorem at_all {α : Type} {xs : List α} {i : Int} {F : α → Prop} (h0 : 0 ≤ i) (h1 : i < xs.length) (h : ∀ t ∈ xs, F t) : ∃ t, atI xs i = some t ∧ F t := by
  obtain ⟨t, ht, e⟩ := at_mem h0 h1
  exact ⟨t, e, h t ht⟩
theorem at_0 {α : Type} {x : α} {xs : List α} : atI (x :: xs) 0 = some x := at_n 0 rfl rfl
theorem at_1 {α : Type} {x y : α} {xs : List α} : atI (x :: y :: xs) 1 = some y := at_n 1 rfl rfl
theorem at_2 {α : Type} {x y z : α} {xs : List α} : atI (x :: y :: z :: xs) 2 = some z := at_n 2 rfl rfl
theorem at_3 {α : Type} {x y z w : α} {xs : List α} : atI (x :: y :: z :: w :: xs) 3 = some w := at_n 3 rfl rfl
/-! a caught thing's name is gone behind its suite -/
def unt1 (a : Addr) (ex : T) : Option T → Option T
  | some (.lf (.ref b)) => if b = a then some ex else some (.lf (.ref b))
  | o => o
section
variable {a : Addr} {ex : T} {env : Env} {i : Int} {x : Str} {b o : Bool} {k : Kd} {xs : List T}
theorem unt_nil : unt a ex [] = [] := rfl
theorem unt_cons (o : Option T) : unt a ex (o :: env) = unt1 a ex o :: unt a ex env := by
  unfold unt unt1
  rw [List.map_cons]
  try congr 1
theorem unt1_none : unt1 a ex none = none := rfl
theorem unt1_ref : unt1 a ex (some (.lf (.ref a))) = some ex := if_pos rfl
theorem unt1_int : unt1 a ex (some (.lf (.int i))) = some (.lf (.int i)) := rfl
theorem unt1_bl : unt1 a ex (some (.lf (.bl b))) = some (.lf (.bl b)) := rfl
theorem unt1_str : unt1 a ex (some (.lf (.str x))) = some (.lf (.str x)) := rfl
theorem unt1_non : unt1 a ex (some (.lf .non)) = some (.lf .non) := rfl
theorem unt1_nd : unt1 a ex (some (.nd o k xs)) = some (.nd o k xs) := rfl
end
local macro_rules | `(tactic| walk_at "ev1") => `(tactic| simp (maxSteps := 1000000) only [Tr.specOf, endsOf, env0, outsOf_n, outsOf_c, dSkip, dSeq, dRet, dRetN, dExpr, dIf, dAsg, gSet, gSetF, gTupl_t, gTupl_k, gsNil, gsCons_c, dC, dVar, dMv, dGl, dCons, dNil, dSnoc, dT, dTr, dNot, dAnd, dOr, dAndV, dOrV, dNotV, dIfE, dOp, dLs, rdAll, rdT, dNew, dNew0, dCall, dFz, wb, dMutA_e, dPutA_e, asM_n, dFor, dItems_e, dItemsT_e, dRng1_e, dRng2_e, fRng1_i, dRngO_pk, asR_r, asL_l, asT_t, asT_k, as1_i, as2_i, dEnum_e, dZip_e, lsL_l, lsL_m, lsL_r, as2T_l, as1T_l, dKeys, dComp, dDComp, dRaise, dTry, dHds, dDic, dRdM, dYes, wipeE, namE, clrE, endS, dXfK, dXf, unt_nil, unt_cons, unt1_none, unt1_ref, unt1_int, unt1_bl, unt1_str, unt1_non, unt1_nd, dBrk, dCnt, dChain_eq, dSl11_v, dSl11_pk, Option.bind_eq_bind, and_self, exists_eq, T.lf.injEq, V.bl.injEq, T.fz_fz, map_fz_lf, rowT_fz, matT_fz, map_rowT_fz, rowT_fzd, List.length_map, fAdd_ii, fAdd_ss, fAdd_ll, fAdd_tt, fMul_ii, fMul_li, fII_ii, fIC_ii, fCmp_ii, fCmp_ss, isN_non, isN_int, isN_bl, isN_str, isN_nd, fIsN_n, fNotN_n, fNeg_i, fInt1_i, fInt1_b, fTuple_l, fTuple_t, fList_l, fList_t, fList_k, fMax_ii, fMin_ii, fDivmod_ii, fLen_l, fLen_q, fLen_t, fLen_k, fLen_s, fSl_l, fSl_t, fSl_s, fSl00_e, fSl10_e, fSl01_e, fIsB_bb, fIx_l, fIx_q, fIx_t, fIx_k, fIx_s, fAppend_l, fSetL_l, fExtend_l, fPop_l, fPopAt_l, fInsert_l, fReverse_l, fClear_l, fDPut_i, fDPut_s, fDGet2_i, fDGet2_s, fDGet_i, isDic_k, Tr.one_inj, key_i, key_s, fDIn_i, kindOf_l, kindOf_k, at_0, at_1, at_2, at_3, List.map_cons, List.map_nil, List.length_cons, List.length_nil, List.replicate, List.cons_append, List.nil_append, List.append_nil, List.getElem?_cons_zero, List.getElem?_cons_succ, List.set_cons_zero, List.set_cons_succ, Option.join, Option.bind_some, id_eq, Option.some.injEq, Option.map_some, exists_eq_left', exists_eq_left, exists_eq', T.fz_lf, T.fz_nd, T.fzd_lf, T.fzd_nd, Kd.unl, Nat.sub_self, Nat.sub_zero, Nat.reduceSub, Nat.reduceAdd, Nat.zero_add, true_and, and_true, List.reverse_cons, List.reverse_nil, if_true, if_false, Bool.false_eq_true, Bool.not_false, Bool.not_true, Bool.false_xor, Bool.true_xor, tru_non, tru_bl, tru_int, tru_lst, tru_tup, ite_true, ite_false, reduceIte, exists_const, exists_and_left, List.isEmpty_cons, List.isEmpty_nil])
local macro_rules | `(tactic| walk_at "ev") => `(tactic| try walk_at "ev1")
theorem map_fz_fz (xs : List T) : (xs.map T.fz).map T.fz = xs.map T.fz := by
  rw [List.map_map]
  exact List.map_congr_left fun x _ => T.fz_fz x
abbrev iT (i : Int) : T := .lf (.int i)
abbrev bT (b : Bool) : T := .lf (.bl b)
abbrev sT (x : Str) : T := .lf (.str x)

theorem iB {c : Bool} {A B : Prop} (h1 : c = true → A) (h2 : c = false → B) : if c = true then A else B := by
  cases c with
  | true => exact h1 rfl
  | false => exact h2 rfl
/-! ### what a thing is -/
def T.isI : T → Bool
  | .lf (.int _) => true
  | _ => false
def T.isBl : T → Bool
  | .lf (.bl _) => true
  | _ => false
def T.btw (lo hi : Int) : T → Bool
  | .lf (.int i) => decide (lo ≤ i) && decide (i ≤ hi)
  | _ => false
section
variable {K : PySem.W.Frag} {t : T} {P : T → Prop}
theorem tyV_of {n : String} (h : t.tyn = some n) : t.tyV = some (.type n) ∧ t.tyOk K := by
  cases t with
  | lf v => exact ⟨by show (T.lf v).tyn.map Value.type = _; rw [h]; rfl, trivial⟩
  | nd o k xs =>
    cases k with
    | exc C fs => simp [T.tyn] at h
    | ins C fs => simp [T.tyn] at h
    | _ => exact ⟨by simp only [T.tyV, h, Option.map_some], trivial⟩
theorem is_ty {n c : String} (h : t.tyn = some n) (hc : c ∈ ["bool", "int", "str", "list", "tuple", "dict"]) (p : P (bT (kitN n c))) : fIs1 K [t, .lf (.ty c)] P := by
  obtain ⟨h1, h2⟩ := tyV_of (K := K) h
  exact ⟨_, _, _, h1, h2, rfl, kit_ty (kit_names hc (tyn_names h)), p⟩
theorem kitAny_two {n a b : String} (hn : n ∈ ["NoneType", "bool", "int", "str", "list", "tuple", "dict"]) (ha : a ∈ ["bool", "int", "str", "list", "tuple", "dict"]) (hb : b ∈ ["bool", "int", "str", "list", "tuple", "dict"]) : PySem.W.kitAny K (.type n) [.type a, .type b] = some (kitN n a || kitN n b) := by
  have e1 : PySem.W.kitOne K (.type n) (.type a) = some (kitN n a) := kit_ty (kit_names ha hn)
  have e2 : PySem.W.kitOne K (.type n) (.type b) = some (kitN n b) := kit_ty (kit_names hb hn)
  unfold PySem.W.kitAny
  rw [e1]
  cases kitN n a with
  | true => rfl
  | false =>
    unfold PySem.W.kitAny
    rw [e2]
    cases kitN n b with
    | true => rfl
    | false => rfl
theorem is_lt {n : String} (h : t.tyn = some n) (p : P (bT (kitN n "list" || kitN n "tuple"))) : fIs K [.type "list", .type "tuple"] [t] P := by
  obtain ⟨h1, h2⟩ := tyV_of (K := K) h
  exact ⟨_, _, h1, h2, kitAny_two (tyn_names h) (by decide) (by decide), p⟩
theorem isI_of {n : String} (h : t.tyn = some n) : t.isI = (kitN n "int" && !kitN n "bool") := by
  unfold T.tyn at h
  split at h <;> simp at h <;> subst h <;> rfl
theorem isBl_of {n : String} (h : t.tyn = some n) : t.isBl = kitN n "bool" := by
  unfold T.tyn at h
  split at h <;> simp at h <;> subst h <;> rfl
end
theorem tyn_fz {t : T} {n : String} (h : t.tyn = some n) : t.fz.tyn = some n := by
  cases t with
  | lf v => simpa using h
  | nd o k xs => cases k <;> simp [T.tyn] at h ⊢ <;> exact h
@[simp] theorem T.isI_fz (t : T) : t.fz.isI = t.isI := by cases t <;> simp [T.isI]
@[simp] theorem T.btw_fz (lo hi : Int) (t : T) : T.btw lo hi t.fz = T.btw lo hi t := by cases t <;> simp [T.btw]
theorem paired_snoc {α β : Type} {F : α → β → Prop} {xs : List α} {ys : List β} {x : α} {y : β} (h : Paired F xs ys) (e : F x y) : Paired F (xs ++ [x]) (ys ++ [y]) := by
  induction h with
  | nil => exact .cons e .nil
  | cons a _ ih => exact .cons a ih
theorem paired_len {α β : Type} {F : α → β → Prop} {xs : List α} {ys : List β} (h : Paired F xs ys) : xs.length = ys.length := by
  induction h with
  | nil => rfl
  | cons _ _ ih => simp [ih]
/-- all that is told is told by some c -/
theorem paired_map {α β γ : Type} {F : α → β → Prop} (c : γ → β) (G : γ → Prop) {xs : List α} {ys : List β} (h : Paired F xs ys) (hc : ∀ a ∈ xs, ∀ b, F a b → ∃ x, b = c x ∧ G x) : ∃ zs : List γ, ys = zs.map c ∧ zs.length = xs.length ∧ ∀ z ∈ zs, G z := by
  induction h with
  | nil => exact ⟨[], rfl, rfl, by simp⟩
  | @cons a b _ _ e _ ih =>
    obtain ⟨x, rfl, hx⟩ := hc a List.mem_cons_self _ e
    obtain ⟨zs, rfl, h2, h3⟩ := ih fun a ha => hc a (List.mem_cons_of_mem _ ha)
    exact ⟨x :: zs, rfl, by simp [h2], fun z hz => (List.mem_cons.mp hz).elim (fun e => e ▸ hx) (h3 z)⟩
/-! ### walks -/
section
variable {dg : DG} {db : DS} {DT : DEnds}
theorem loop_ind (I : List T → Env → Prop) (hn : ∀ env, I [] env → DT.nx env) (hc : ∀ x xs env, I (x :: xs) env → (∀ env', I xs env' → dLoop dg db DT xs env') → dg x env fun env2 => db { DT with nx := dLoop dg db DT xs, ct := dLoop dg db DT xs, bk := DT.nx } env2) : ∀ xs env, I xs env → dLoop dg db DT xs env
  | [], env, h => hn env h
  | x :: xs, env, h => hc x xs env h fun env' h' => loop_ind I hn hc xs env' h'
theorem loop_gen {α : Type} (c : α → T) (I : Nat → Env → Prop) : ∀ {ys : List α} {k : Nat} {env : Env}, I k env → (∀ i y env, ys[i]? = some y → I (k + i) env → ∀ N : Env → Prop, (∀ env', I (k + i + 1) env' → N env') → dg (c y) env fun env2 => db { DT with nx := N, ct := N, bk := DT.nx } env2) → (∀ env, I (k + ys.length) env → DT.nx env) → dLoop dg db DT (ys.map c) env
  | [], k, env, h0, _, hn => hn env (by simpa using h0)
  | y :: ys, k, env, h0, hs, hn => by
    rw [List.map_cons]
    unfold dLoop
    refine hs 0 y env rfl (by simpa using h0) _ fun env' h' => ?_
    refine loop_gen c I (k := k + 1) h' (fun i z env2 e h N hN => ?_) fun env2 h => hn env2 (by rw [List.length_cons]; rw [show k + (ys.length + 1) = k + 1 + ys.length from by omega]; exact h)
    exact hs (i + 1) z env2 (by simpa using e) (by rw [show k + (i + 1) = k + 1 + i from by omega]; exact h) N fun env' h' => hN env' (by rw [show k + 1 + i + 1 = k + (i + 1) + 1 from by omega]; exact h')
theorem loop_at {α : Type} (c : α → T) (I : Nat → Env → Prop) {ys : List α} {env : Env} (h0 : I 0 env) (hs : ∀ i y env, ys[i]? = some y → I i env → ∀ N : Env → Prop, (∀ env', I (i + 1) env' → N env') → dg (c y) env fun env2 => db { DT with nx := N, ct := N, bk := DT.nx } env2) (hn : ∀ env, I ys.length env → DT.nx env) : dLoop dg db DT (ys.map c) env :=
  loop_gen c I (k := 0) h0 (fun i y env e h N hN => hs i y env e (by simpa using h) N fun env' h' => hN env' (by simpa using h')) fun env h => hn env (by simpa using h)
theorem loop_irg (I : Nat → Env → Prop) {lo : Int} {n : Nat} {env : Env} (h0 : I 0 env) (hs : ∀ i env, i < n → I i env → ∀ N : Env → Prop, (∀ env', I (i + 1) env' → N env') → dg (.lf (.int (lo + (i : Nat)))) env fun env2 => db { DT with nx := N, ct := N, bk := DT.nx } env2) (hn : ∀ env, I n env → DT.nx env) : dLoop dg db DT (irg lo n) env :=
  loop_at _ I h0 (fun i y env e h N hN => by
    obtain ⟨h1, h2⟩ := List.getElem?_eq_some_iff.mp e
    rw [List.getElem_range] at h2
    subst h2
    exact hs i env (by simpa using h1) h N hN) fun env h => hn env (by simpa using h)
variable {own : List Nat} {dc : DB} {de dk dv : DE} {P : PT1}
/-- a comprehension: what is left, what is gathered, the slots -/
theorem comp_ind (I : List T → List T → Env → Prop) (hn : ∀ acc env, I [] acc env → P (.nd true .lst acc) env)
    (hc : ∀ x xs acc env, I (x :: xs) acc env → (∀ acc' env', I xs acc' env' → dCl own dg dc de P xs acc' env') → dg x env fun env2 => dc env2 (fun b env3 => if b = true then de env3 (fun t env4 => acc.length < sizeLine ∧ dCl own dg dc de P xs (acc ++ [t]) (wipeE env4 own)) xno else dCl own dg dc de P xs acc (wipeE env3 own)) xno) : ∀ xs acc env, I xs acc env → dCl own dg dc de P xs acc env
  | [], acc, env, h => hn acc env h
  | x :: xs, acc, env, h => hc x xs acc env h fun acc' env' h' => comp_ind I hn hc xs acc' env' h'
/-- .. the slots stay, each member that p holds of tells f -/
theorem comp_filt {env : Env} (f : T → T) (p : T → Bool) : ∀ {xs acc : List T}, (∀ x ∈ xs, ∀ (C : T → Env → Prop) (Z : Env → Prop), (p x = true → ∀ env4, wipeE env4 own = env → C (f x) env4) → (p x = false → ∀ env3, wipeE env3 own = env → Z env3) → dg x env fun env2 => dc env2 (fun b env3 => if b = true then de env3 C xno else Z env3) xno) →
    acc.length + xs.length ≤ sizeLine → P (.nd true .lst (acc ++ (xs.filter p).map f)) env → dCl own dg dc de P xs acc env
  | [], acc, _, _, h => by
    unfold dCl
    simpa using h
  | x :: xs, acc, hs, hz, h => by
    unfold dCl
    refine hs x List.mem_cons_self _ _ (fun e env4 hw => ⟨by simp at hz; omega, ?_⟩) fun e env3 hw => ?_
    · rw [hw]
      refine comp_filt f p (fun y hy => hs y (List.mem_cons_of_mem _ hy)) (by simp at hz ⊢; omega) ?_
      rw [List.filter_cons_of_pos e] at h
      simpa using h
    · rw [hw]
      refine comp_filt f p (fun y hy => hs y (List.mem_cons_of_mem _ hy)) (by simp at hz ⊢; omega) ?_
      rw [List.filter_cons_of_neg (by rw [e]; simp)] at h
      exact h
/-- .. over things that are told by c -/
theorem comp_gen {α : Type} {env : Env} (c : α → T) (f : α → T) (p : α → Bool) : ∀ {ys : List α} {acc : List T}, (∀ y ∈ ys, ∀ (C : T → Env → Prop) (Z : Env → Prop), (p y = true → ∀ env4, wipeE env4 own = env → C (f y) env4) → (p y = false → ∀ env3, wipeE env3 own = env → Z env3) → dg (c y) env fun env2 => dc env2 (fun b env3 => if b = true then de env3 C xno else Z env3) xno) →
    acc.length + ys.length ≤ sizeLine → P (.nd true .lst (acc ++ (ys.filter p).map f)) env → dCl own dg dc de P (ys.map c) acc env
  | [], acc, _, _, h => by
    unfold dCl
    simpa using h
  | y :: ys, acc, hs, hz, h => by
    rw [List.map_cons]
    unfold dCl
    refine hs y List.mem_cons_self _ _ (fun e env4 hw => ⟨by simp at hz; omega, ?_⟩) fun e env3 hw => ?_
    · rw [hw]
      refine comp_gen c f p (fun y hy => hs y (List.mem_cons_of_mem _ hy)) (by simp at hz ⊢; omega) ?_
      rw [List.filter_cons_of_pos e] at h
      simpa using h
    · rw [hw]
      refine comp_gen c f p (fun y hy => hs y (List.mem_cons_of_mem _ hy)) (by simp at hz ⊢; omega) ?_
      rw [List.filter_cons_of_neg (by rw [e]; simp)] at h
      exact h
theorem comp_irg {env : Env} {lo : Int} {n : Nat} (f : Nat → T) (p : Nat → Bool) (hs : ∀ i, i < n → ∀ (C : T → Env → Prop) (Z : Env → Prop), (p i = true → ∀ env4, wipeE env4 own = env → C (f i) env4) → (p i = false → ∀ env3, wipeE env3 own = env → Z env3) → dg (.lf (.int (lo + (i : Nat)))) env fun env2 => dc env2 (fun b env3 => if b = true then de env3 C xno else Z env3) xno)
    (hz : n ≤ sizeLine) (h : P (.nd true .lst (((List.range n).filter p).map f)) env) : dCl own dg dc de P (irg lo n) [] env :=
  comp_gen _ f p (fun i hi => hs i (List.mem_range.mp hi)) (by simpa using hz) (by simpa using h)
/-- .. each tells one, none is left out -/
theorem comp_irg1 {env : Env} {lo : Int} {n : Nat} (f : Nat → T) (hs : ∀ i, i < n → ∀ (C : T → Env → Prop) (Z : Env → Prop), (∀ env4, wipeE env4 own = env → C (f i) env4) → dg (.lf (.int (lo + (i : Nat)))) env fun env2 => dc env2 (fun b env3 => if b = true then de env3 C xno else Z env3) xno)
    (hz : n ≤ sizeLine) (h : P (.nd true .lst ((List.range n).map f)) env) : dCl own dg dc de P (irg lo n) [] env :=
  comp_irg f (fun _ => true) (fun i hi C Z a _ => hs i hi C Z (a rfl)) hz (by rw [List.filter_eq_self.mpr fun _ _ => rfl]; exact h)
theorem comp_gen1 {α : Type} {env : Env} (c : α → T) (f : α → T) {ys : List α} (hs : ∀ y ∈ ys, ∀ (C : T → Env → Prop) (Z : Env → Prop), (∀ env4, wipeE env4 own = env → C (f y) env4) → dg (c y) env fun env2 => dc env2 (fun b env3 => if b = true then de env3 C xno else Z env3) xno)
    (hz : ys.length ≤ sizeLine) (h : P (.nd true .lst (ys.map f)) env) : dCl own dg dc de P (ys.map c) [] env :=
  comp_gen c f (fun _ => true) (fun i hi C Z a _ => hs i hi C Z (a rfl)) (by simpa using hz) (by rw [List.filter_eq_self.mpr fun _ _ => rfl]; exact h)
/-- .. each tells something that Rl holds of -/
theorem comp_rel' {α : Type} {env : Env} (c : α → T) (Rl : α → T → Prop) : ∀ {ys zs : List α} {acc : List T}, Paired Rl zs acc → (∀ y ∈ ys, ∀ (C : T → Env → Prop) (Z : Env → Prop), (∀ t env4, Rl y t → wipeE env4 own = env → C t env4) → dg (c y) env fun env2 => dc env2 (fun b env3 => if b = true then de env3 C xno else Z env3) xno) →
    acc.length + ys.length ≤ sizeLine → (∀ ts, Paired Rl (zs ++ ys) ts → P (.nd true .lst ts) env) → dCl own dg dc de P (ys.map c) acc env
  | [], zs, acc, ha, _, _, h => by
    unfold dCl
    exact h _ (by simpa using ha)
  | y :: ys, zs, acc, ha, hs, hz, h => by
    rw [List.map_cons]
    unfold dCl
    refine hs y List.mem_cons_self _ _ fun t env4 e hw => ⟨by simp at hz; omega, ?_⟩
    rw [hw]
    refine comp_rel' c Rl (zs := zs ++ [y]) (paired_snoc ha e) (fun y hy => hs y (List.mem_cons_of_mem _ hy)) (by simp at hz ⊢; omega) fun ts hp => h ts (by simpa using hp)
theorem comp_rel {α : Type} {env : Env} (c : α → T) (Rl : α → T → Prop) {ys : List α} (hs : ∀ y ∈ ys, ∀ (C : T → Env → Prop) (Z : Env → Prop), (∀ t env4, Rl y t → wipeE env4 own = env → C t env4) → dg (c y) env fun env2 => dc env2 (fun b env3 => if b = true then de env3 C xno else Z env3) xno)
    (hz : ys.length ≤ sizeLine) (h : ∀ ts, Paired Rl ys ts → P (.nd true .lst ts) env) : dCl own dg dc de P (ys.map c) [] env :=
  comp_rel' c Rl (zs := []) .nil hs (by simpa using hz) h
theorem comp_relT {env : Env} (Rl : T → T → Prop) {ys : List T} (hs : ∀ y ∈ ys, ∀ (C : T → Env → Prop) (Z : Env → Prop), (∀ t env4, Rl y t → wipeE env4 own = env → C t env4) → dg y env fun env2 => dc env2 (fun b env3 => if b = true then de env3 C xno else Z env3) xno)
    (hz : ys.length ≤ sizeLine) (h : ∀ ts, Paired Rl ys ts → P (.nd true .lst ts) env) : dCl own dg dc de P ys [] env := by
  have := comp_rel (own := own) (dg := dg) (dc := dc) (de := de) (P := P) (env := env) id Rl (ys := ys) hs hz h
  rwa [List.map_id] at this
theorem comp_irgR {env : Env} {lo : Int} {n : Nat} (Rl : Nat → T → Prop) (hs : ∀ i, i < n → ∀ (C : T → Env → Prop) (Z : Env → Prop), (∀ t env4, Rl i t → wipeE env4 own = env → C t env4) → dg (.lf (.int (lo + (i : Nat)))) env fun env2 => dc env2 (fun b env3 => if b = true then de env3 C xno else Z env3) xno)
    (hz : n ≤ sizeLine) (h : ∀ ts, Paired Rl (List.range n) ts → P (.nd true .lst ts) env) : dCl own dg dc de P (irg lo n) [] env :=
  comp_rel _ Rl (fun i hi => hs i (List.mem_range.mp hi)) (by simpa using hz) h
/-- a comprehension whose slots change -/
theorem comp_genS {α : Type} (c : α → T) (I : Nat → List T → Env → Prop) : ∀ {ys : List α} {k : Nat} {acc : List T} {env : Env}, I k acc env → acc.length ≤ k → k + ys.length ≤ sizeLine → (∀ i y acc env, ys[i]? = some y → acc.length ≤ k + i → I (k + i) acc env → ∀ (C : T → Env → Prop) (Z : Env → Prop), (∀ t env4, I (k + i + 1) (acc ++ [t]) (wipeE env4 own) → C t env4) → (∀ env3, I (k + i + 1) acc (wipeE env3 own) → Z env3) → dg (c y) env fun env2 => dc env2 (fun b env3 => if b = true then de env3 C xno else Z env3) xno) →
    (∀ acc env, I (k + ys.length) acc env → P (.nd true .lst acc) env) → dCl own dg dc de P (ys.map c) acc env
  | [], k, acc, env, h0, _, _, _, h => by
    unfold dCl
    exact h acc env (by simpa using h0)
  | y :: ys, k, acc, env, h0, hl, hz, hs, h => by
    rw [List.map_cons]
    unfold dCl
    have nx : ∀ i y acc env, ys[i]? = some y → acc.length ≤ k + 1 + i → I (k + 1 + i) acc env → ∀ (C : T → Env → Prop) (Z : Env → Prop), (∀ t env4, I (k + 1 + i + 1) (acc ++ [t]) (wipeE env4 own) → C t env4) → (∀ env3, I (k + 1 + i + 1) acc (wipeE env3 own) → Z env3) → dg (c y) env fun env2 => dc env2 (fun b env3 => if b = true then de env3 C xno else Z env3) xno := fun i z acc env e hl hI => by
      have := hs (i + 1) z acc env (by simpa using e) (by omega) (by rw [show k + (i + 1) = k + 1 + i from by omega]; exact hI)
      rwa [show k + (i + 1) + 1 = k + 1 + i + 1 from by omega] at this
    have hn : ∀ acc env, I (k + 1 + ys.length) acc env → P (.nd true .lst acc) env := fun acc env e => h acc env (by rw [List.length_cons, show k + (ys.length + 1) = k + 1 + ys.length from by omega]; exact e)
    have hz' : k + 1 + ys.length ≤ sizeLine := by rw [List.length_cons] at hz; omega
    refine hs 0 y acc env rfl (by simpa using hl) (by simpa using h0) _ _ (fun t env4 e => ⟨by omega, ?_⟩) fun env3 e => ?_
    · exact comp_genS c I (k := k + 1) e (by simp; omega) hz' nx hn
    · exact comp_genS c I (k := k + 1) e (by omega) hz' nx hn
theorem comp_irgS (I : Nat → List T → Env → Prop) {lo : Int} {n : Nat} {env : Env} (h0 : I 0 [] env) (hz : n ≤ sizeLine) (hs : ∀ i acc env, i < n → I i acc env → ∀ (C : T → Env → Prop) (Z : Env → Prop), (∀ t env4, I (i + 1) (acc ++ [t]) (wipeE env4 own) → C t env4) → (∀ env3, I (i + 1) acc (wipeE env3 own) → Z env3) → dg (.lf (.int (lo + (i : Nat)))) env fun env2 => dc env2 (fun b env3 => if b = true then de env3 C xno else Z env3) xno)
    (h : ∀ acc env, I n acc env → P (.nd true .lst acc) env) : dCl own dg dc de P (irg lo n) [] env :=
  comp_genS _ I (k := 0) h0 (Nat.le_refl _) (by simpa using hz) (fun i y acc env e hl hI => by
    obtain ⟨h1, h2⟩ := List.getElem?_eq_some_iff.mp e
    rw [List.getElem_range] at h2
    subst h2
    simpa using hs i acc env (by simpa using h1) (by simpa using hI)) fun acc env e => h acc env (by simpa using e)
theorem dp_le {κ α : Type} [DecidableEq κ] (ks : List κ) (xs : List α) (k : κ) (t : α) : (Tr.dp ks xs k t).2.length ≤ xs.length + 1 := by
  unfold Tr.dp
  cases ixOf ks k <;> simp
/-- a comprehension that makes a dict: I holds of keys and things -/
theorem dcd_inv {env : Env} (I : List Key → List T → Prop) (n : Nat) (hn : n ≤ sizeLine) : ∀ {xs : List T} {ks : List Key} {acc : List T}, I ks acc → (∀ x ∈ xs, ∀ ks acc, I ks acc → ∀ (C : Key → T → Env → Prop) (Z : Env → Prop), (∀ kk t env5, I (Tr.dp ks acc kk t).1 (Tr.dp ks acc kk t).2 → wipeE env5 own = env → C kk t env5) → (∀ env3, wipeE env3 own = env → Z env3) →
      dg x env fun env2 => dc env2 (fun b env3 => if b = true then dk env3 (fun kt env4 => ∃ kk, kt.key = some kk ∧ dv env4 (fun t env5 => C kk t env5) xno) xno else Z env3) xno) →
    acc.length + xs.length ≤ n → (∀ ks acc, I ks acc → acc.length ≤ n → P (.nd true (.dk ks) acc) env) → dCd own dg dc dk dv P xs ks acc env
  | [], ks, acc, h0, _, hz, h => by
    unfold dCd
    exact h ks acc h0 (by simpa using hz)
  | x :: xs, ks, acc, h0, hs, hz, h => by
    unfold dCd
    refine hs x List.mem_cons_self ks acc h0 (fun kk t env5 => acc.length < sizeLine ∧ dCd own dg dc dk dv P xs (Tr.dp ks acc kk t).1 (Tr.dp ks acc kk t).2 (wipeE env5 own)) _ (fun kk t env5 h' hw => ⟨by simp at hz; omega, ?_⟩) fun env3 hw => ?_
    · rw [hw]
      have := dp_le ks acc kk t
      exact dcd_inv I n hn h' (fun y hy => hs y (List.mem_cons_of_mem _ hy)) (by simp at hz ⊢; omega) h
    · rw [hw]
      exact dcd_inv I n hn h0 (fun y hy => hs y (List.mem_cons_of_mem _ hy)) (by simp at hz ⊢; omega) h
theorem dp_all {κ α : Type} [DecidableEq κ] {ks : List κ} {xs : List α} {k : κ} {t : α} {G : α → Prop} (h : ∀ x ∈ xs, G x) (ht : G t) : ∀ x ∈ (Tr.dp ks xs k t).2, G x := by
  intro x hx
  unfold Tr.dp at hx
  cases q : ixOf ks k with
  | none =>
    rw [q] at hx
    rcases List.mem_append.mp hx with hx | hx
    · exact h x hx
    · rw [List.mem_singleton.mp hx]; exact ht
  | some i =>
    rw [q] at hx
    rcases List.mem_or_eq_of_mem_set hx with hx | hx
    · exact h x hx
    · rw [hx]; exact ht
theorem dg_all {κ α : Type} [DecidableEq κ] {ks : List κ} {xs : List α} {k : κ} {G : α → Prop} (h : ∀ x ∈ xs, G x) {t : α} (e : Tr.dg ks xs k = some t) : G t := by
  unfold Tr.dg at e
  cases q : ixOf ks k with
  | none => rw [q] at e; cases e
  | some i => rw [q] at e; exact h t (List.mem_of_getElem? e)
theorem comp_map {env : Env} (f : T → T) {xs : List T} (hs : ∀ x ∈ xs, ∀ (C : T → Env → Prop) (Z : Env → Prop), (∀ env4, wipeE env4 own = env → C (f x) env4) → dg x env fun env2 => dc env2 (fun b env3 => if b = true then de env3 C xno else Z env3) xno)
    (hz : xs.length ≤ sizeLine) (h : P (.nd true .lst (xs.map f)) env) : dCl own dg dc de P xs [] env :=
  comp_filt f (fun _ => true) (fun x hx C Z h1 _ => hs x hx C Z (h1 rfl)) (by simpa using hz) (by rw [List.filter_eq_self.mpr fun _ _ => rfl]; exact h)
end
theorem log2_lt {n k : Nat} (h : n < 2 ^ k) (hk : 0 < k) : n.log2 < k := by
  by_cases h0 : n = 0
  · subst h0; simpa using hk
  · exact (Nat.log2_lt h0).mpr h
theorem mulOk {i j : Int} (hi : i.natAbs < 2 ^ 400000) (hj : j.natAbs < 2 ^ 400000) : CMulW i j := by
  have a := log2_lt hi (by decide)
  have b := log2_lt hj (by decide)
  unfold CMulW
  omega
theorem mulS {i j : Int} (hi : i.natAbs < 2 ^ 200 := by omega) (hj : j.natAbs < 2 ^ 200 := by omega) : CMulW i j := by
  have a := log2_lt hi (by decide)
  have b := log2_lt hj (by decide)
  unfold CMulW
  omega
theorem divS {i j : Int} (h : 0 < j := by omega) (hj : j.natAbs < 2 ^ 200 := by omega) : CDivW i j := ⟨h, by
  have b := log2_lt hj (by decide)
  omega⟩
/-! ### things that are data -/
mutual
inductive Dat : Nat → T → PyData → Prop
  | non {n : Nat} : Dat n (.lf .non) .none
  | bl {n : Nat} (b : Bool) : Dat n (.lf (.bl b)) (.bool b)
  | int {n : Nat} (i : Int) : Dat n (.lf (.int i)) (.int i)
  | str {n : Nat} {x : Str} (h : PyData.strOk x = true) : Dat n (.lf (.str x)) (.str x)
  | lst {n : Nat} {o : Bool} {xs : List T} {ds : List PyData} (h : Dats n xs ds) : Dat (n + 1) (.nd o .lst xs) (.list ds)
  | tup {n : Nat} {o : Bool} {xs : List T} {ds : List PyData} (h : Dats n xs ds) : Dat (n + 1) (.nd o .tup xs) (.tuple ds)
  | tpk {n : Nat} {o : Bool} {xs : List T} {ds : List PyData} (h : Dats n xs ds) : Dat (n + 1) (.nd o .tpk xs) (.tuple ds)
inductive Dats : Nat → List T → List PyData → Prop
  | nil {n : Nat} : Dats n [] []
  | cons {n : Nat} {t : T} {d : PyData} {ts : List T} {ds : List PyData} (h : Dat n t d) (r : Dats n ts ds) : Dats n (t :: ts) (d :: ds)
end
mutual
theorem Dat.ok : ∀ {n : Nat} {t : T} {d : PyData}, Dat n t d → t.py = some d ∧ d.canLay0 = true ∧ d.depth ≤ n
  | _, _, _, .non => ⟨by simp [T.py], by simp [PyData.canLay0], by simp [PyData.depth]⟩
  | _, _, _, .bl b => ⟨by simp [T.py], by simp [PyData.canLay0], by simp [PyData.depth]⟩
  | _, _, _, .int i => ⟨by simp [T.py], by simp [PyData.canLay0], by simp [PyData.depth]⟩
  | _, _, _, .str h => ⟨by simp [T.py], by simpa [PyData.canLay0] using h, by simp [PyData.depth]⟩
  | _, _, _, .lst h => by
    obtain ⟨h1, h2, h3⟩ := Dats.ok h
    exact ⟨by simp [T.py, h1], by simpa [PyData.canLay0] using h2, by simp [PyData.depth]; exact h3⟩
  | _, _, _, .tup h => by
    obtain ⟨h1, h2, h3⟩ := Dats.ok h
    exact ⟨by simp [T.py, h1], by simpa [PyData.canLay0] using h2, by simp [PyData.depth]; exact h3⟩
  | _, _, _, .tpk h => by
    obtain ⟨h1, h2, h3⟩ := Dats.ok h
    exact ⟨by simp [T.py, h1], by simpa [PyData.canLay0] using h2, by simp [PyData.depth]; exact h3⟩
theorem Dats.ok : ∀ {n : Nat} {ts : List T} {ds : List PyData}, Dats n ts ds → pys ts = some ds ∧ PyData.canLayAll0 ds = true ∧ PyData.depthAll ds ≤ n
  | _, _, _, .nil => ⟨by simp [pys], by simp [PyData.canLayAll0], by simp [PyData.depthAll]⟩
  | _, _, _, .cons h r => by
    obtain ⟨h1, h2, h3⟩ := Dat.ok h
    obtain ⟨g1, g2, g3⟩ := Dats.ok r
    exact ⟨by simp [pys, h1, g1], by simp [PyData.canLayAll0, h2, g2], by simp only [PyData.depthAll]; exact Nat.max_le.mpr ⟨h3, g3⟩⟩
end
mutual
theorem Dat.fz : ∀ {n : Nat} {t : T} {d : PyData}, Dat n t d → Dat n t.fz d
  | _, _, _, .non => by simpa using Dat.non
  | _, _, _, .bl b => by simpa using Dat.bl b
  | _, _, _, .int i => by simpa using Dat.int i
  | _, _, _, .str h => by simpa using Dat.str h
  | _, _, _, .lst h => by simpa using Dat.lst (Dats.fz h)
  | _, _, _, .tup h => by simpa using Dat.tup (Dats.fz h)
  | _, _, _, .tpk h => by simpa using Dat.tpk (Dats.fz h)
theorem Dats.fz : ∀ {n : Nat} {ts : List T} {ds : List PyData}, Dats n ts ds → Dats n (ts.map T.fz) ds
  | _, _, _, .nil => by simpa using Dats.nil
  | _, _, _, .cons h r => by simpa using Dats.cons (Dat.fz h) (Dats.fz r)
end
mutual
theorem Dat.up : ∀ {n m : Nat} {t : T} {d : PyData}, Dat n t d → n ≤ m → Dat m t d
  | _, _, _, _, .non, _ => .non
  | _, _, _, _, .bl b, _ => .bl b
  | _, _, _, _, .int i, _ => .int i
  | _, _, _, _, .str h, _ => .str h
  | _, 0, _, _, .lst h, e => by omega
  | _, m + 1, _, _, .lst h, e => .lst (Dats.up h (by omega))
  | _, 0, _, _, .tup h, e => by omega
  | _, m + 1, _, _, .tup h, e => .tup (Dats.up h (by omega))
  | _, 0, _, _, .tpk h, e => by omega
  | _, m + 1, _, _, .tpk h, e => .tpk (Dats.up h (by omega))
theorem Dats.up : ∀ {n m : Nat} {ts : List T} {ds : List PyData}, Dats n ts ds → n ≤ m → Dats m ts ds
  | _, _, _, _, .nil, _ => .nil
  | _, _, _, _, .cons h r, e => .cons (Dat.up h e) (Dats.up r e)
end
theorem Dat.sh {n : Nat} {t : T} {d : PyData} (h : Dat n t d) (hn : n ≤ 64) : SeqAt.shaped d = true := by
  obtain ⟨_, h2, h3⟩ := h.ok
  unfold SeqAt.shaped
  rw [h2, Bool.true_and, decide_eq_true_eq]
  omega
theorem Dats.len {n : Nat} : ∀ {ts : List T} {ds : List PyData}, Dats n ts ds → ts.length = ds.length
  | _, _, .nil => rfl
  | _, _, .cons _ r => by simp [Dats.len r]
theorem Dats.ints {n : Nat} : ∀ (ns : List Int), Dats n (ns.map fun i => T.lf (.int i)) (ns.map .int)
  | [] => .nil
  | i :: ns => .cons (.int i) (Dats.ints ns)
theorem Dats.app {n : Nat} : ∀ {ts us : List T} {ds es : List PyData}, Dats n ts ds → Dats n us es → Dats n (ts ++ us) (ds ++ es)
  | _, _, _, _, .nil, r => r
  | _, _, _, _, .cons h t, r => .cons h (Dats.app t r)
theorem Dats.mem {n : Nat} : ∀ {ts : List T}, (∀ t ∈ ts, ∃ d, Dat n t d) → ∃ ds, Dats n ts ds
  | [], _ => ⟨_, .nil⟩
  | t :: ts, h => by
    obtain ⟨d, hd⟩ := h t List.mem_cons_self
    obtain ⟨ds, hr⟩ := Dats.mem fun u hu => h u (List.mem_cons_of_mem _ hu)
    exact ⟨_, .cons hd hr⟩
section
variable {P : T → Prop}
theorem eqD {n m : Nat} {t u : T} {d e : PyData} (h1 : Dat n t d) (h2 : Dat m u e) (p : P (bT (d.eqv e))) (hn : n ≤ 64 := by decide) (hm : m ≤ 64 := by decide) : fEq [t, u] P := ⟨d, e, h1.ok.1, h2.ok.1, h1.sh hn, h2.sh hm, p⟩
theorem neD {n m : Nat} {t u : T} {d e : PyData} (h1 : Dat n t d) (h2 : Dat m u e) (p : P (bT (!d.eqv e))) (hn : n ≤ 64 := by decide) (hm : m ≤ 64 := by decide) : fNe [t, u] P := ⟨d, e, h1.ok.1, h2.ok.1, h1.sh hn, h2.sh hm, p⟩
theorem eqI {a b : Int} (p : P (bT (a == b))) : fEq [.lf (.int a), .lf (.int b)] P := eqD (n := 0) (m := 0) (.int a) (.int b) p
theorem neI {a b : Int} (p : P (bT (!(a == b)))) : fNe [.lf (.int a), .lf (.int b)] P := neD (n := 0) (m := 0) (.int a) (.int b) p
theorem eqB {a b : Bool} (p : P (bT (a == b))) : fEq [.lf (.bl a), .lf (.bl b)] P := eqD (n := 0) (m := 0) (.bl a) (.bl b) p
theorem neB {a b : Bool} (p : P (bT (!(a == b)))) : fNe [.lf (.bl a), .lf (.bl b)] P := neD (n := 0) (m := 0) (.bl a) (.bl b) p
theorem eqS {a b : Str} (ha : PyData.strOk a = true) (hb : PyData.strOk b = true) (p : P (bT (a == b))) : fEq [.lf (.str a), .lf (.str b)] P := eqD (n := 0) (m := 0) (.str ha) (.str hb) p
theorem neS {a b : Str} (ha : PyData.strOk a = true) (hb : PyData.strOk b = true) (p : P (bT (!(a == b)))) : fNe [.lf (.str a), .lf (.str b)] P := neD (n := 0) (m := 0) (.str ha) (.str hb) p
theorem eqv_same (d : PyData) (h : d.canLay0 = true) : d.eqv d = true := SeqAt.eqv_refl d h
end
theorem in_ints {n o : Bool} {x : Int} {ns : List Int} {P : T → Prop} (p : P (bT (n ^^ decide (x ∈ ns)))) : fIn n [.lf (.int x), .nd o .lst (ns.map fun i => T.lf (.int i))] P := by
  have h : Dat 1 (T.nd o .lst (ns.map fun i => T.lf (.int i))) (.list (ns.map .int)) := .lst (Dats.ints (n := 0) ns)
  refine ⟨.int x, ns.map .int, by simp [T.py], (Dats.ints (n := 0) ns).ok.1, (Dat.int (n := 0) x).sh (by decide), h.sh (by decide), ?_⟩
  have e : ((ns.map PyData.int).any fun z => PyData.eqv z (.int x)) = decide (x ∈ ns) := by
    rw [List.any_map, Bool.eq_iff_iff, List.any_eq_true, decide_eq_true_eq]
    constructor
    · rintro ⟨y, hy, e⟩
      have : y = x := by simpa [PyData.eqv] using e
      exact this ▸ hy
    · intro hx
      exact ⟨x, hx, by simp [PyData.eqv]⟩
  rw [e]
  exact p
/-- sizes that are seen -/
local macro_rules | `(tactic| walk_at "sz") => `(tactic| repeat (first | refine ⟨by decide, ?_⟩ | refine ⟨fun _ => rfl, ?_⟩))
local macro_rules | `(tactic| walk_at "dat") => `(tactic| repeat (first | exact Dats.nil | exact Dat.int _ | exact Dat.bl _ | exact Dat.non | exact Dat.str (by decide +kernel) | exact Dats.ints _ | apply Dats.cons | apply Dat.lst | apply Dat.tup | apply Dat.tpk))
theorem in_nats {n o : Bool} {x : Nat} {ns : List Nat} {P : T → Prop} (p : P (bT (n ^^ decide (x ∈ ns)))) : fIn n [.lf (.int (x : Nat)), .nd o .lst (ns.map fun i => T.lf (.int (i : Nat)))] P := by
  have e : (ns.map fun i => T.lf (.int (i : Nat))) = (ns.map fun i => ((i : Nat) : Int)).map fun i => T.lf (.int i) := by rw [List.map_map]; rfl
  rw [e]
  refine in_ints ?_
  have : decide (((x : Nat) : Int) ∈ ns.map fun i => ((i : Nat) : Int)) = decide (x ∈ ns) := by
    rw [decide_eq_decide, List.mem_map]
    exact ⟨fun ⟨y, h, e⟩ => by have : y = x := by omega
                               exact this ▸ h, fun h => ⟨x, h, rfl⟩⟩
  rw [this]
  exact p
theorem zipF_mem : ∀ {xs ys : List T} {x : T}, x ∈ zipF xs ys → ∃ a ∈ xs, ∃ b ∈ ys, x = .nd true .tup [a, b]
  | [], _, x, h => by simp [zipF] at h
  | _ :: _, [], x, h => by simp [zipF] at h
  | a :: xs, b :: ys, x, h => by
    simp only [zipF, List.mem_cons] at h
    rcases h with h | h
    · exact ⟨a, List.mem_cons_self, b, List.mem_cons_self, h⟩
    · obtain ⟨a', h1, b', h2, h3⟩ := zipF_mem h
      exact ⟨a', List.mem_cons_of_mem _ h1, b', List.mem_cons_of_mem _ h2, h3⟩
def cutN {α : Type} (xs : List α) (lo hi : Option Int) : List α := (xs.drop (HT.sIx xs.length 0 lo)).take (HT.sIx xs.length xs.length hi - HT.sIx xs.length 0 lo)
theorem cutT_map {α : Type} (f : α → T) (ns : List α) (lo hi : Option Int) : cutT (ns.map f) lo hi = (cutN ns lo hi).map f := by
  unfold cutT cutN
  rw [List.length_map, ← List.map_drop, ← List.map_take]
theorem cutN_mem {α : Type} {ns : List α} {lo hi : Option Int} {x : α} (h : x ∈ cutN ns lo hi) : x ∈ ns := List.mem_of_mem_drop (List.mem_of_mem_take h)
theorem cutN_len {α : Type} (ns : List α) (lo hi : Option Int) : (cutN ns lo hi).length ≤ ns.length := by
  unfold cutN
  rw [List.length_take, List.length_drop]
  omega
theorem cutN_to {α : Type} (ns : List α) (k : Nat) : cutN ns none (some (k : Int)) = ns.take k := by
  unfold cutN HT.sIx
  simp only [List.drop_zero, Nat.sub_zero]
  rw [if_neg (by omega), Int.toNat_natCast]
  by_cases h : k ≤ ns.length
  · rw [Nat.min_eq_left h]
  · rw [Nat.min_eq_right (by omega), List.take_of_length_le (Nat.le_refl _), List.take_of_length_le (by omega)]
theorem cutN_from {α : Type} (ns : List α) (k : Nat) : cutN ns (some (k : Int)) none = ns.drop k := by
  unfold cutN HT.sIx
  simp only
  rw [if_neg (by omega), Int.toNat_natCast]
  by_cases h : k ≤ ns.length
  · rw [Nat.min_eq_left h, List.take_of_length_le (by rw [List.length_drop]; exact Nat.le_refl _)]
  · rw [Nat.min_eq_right (by omega), List.drop_of_length_le (Nat.le_refl _), List.drop_of_length_le (by omega), List.take_nil]
theorem cutN_mid {α : Type} (ns : List α) (a b : Nat) : cutN ns (some (a : Int)) (some (b : Int)) = (ns.drop a).take (b - a) := by
  unfold cutN HT.sIx
  simp only
  rw [if_neg (by omega), if_neg (by omega), Int.toNat_natCast, Int.toNat_natCast]
  by_cases h : a ≤ ns.length
  · rw [Nat.min_eq_left h]
    by_cases h2 : b ≤ ns.length
    · rw [Nat.min_eq_left h2]
    · rw [Nat.min_eq_right (by omega), List.take_of_length_le (by rw [List.length_drop]; exact Nat.le_refl _), List.take_of_length_le (by rw [List.length_drop]; omega)]
  · rw [show min a ns.length = ns.length from Nat.min_eq_right (by omega), List.drop_of_length_le (Nat.le_refl _), List.drop_of_length_le (by omega), List.take_nil, List.take_nil]
theorem cutT_N (xs : List T) (lo hi : Option Int) : cutT xs lo hi = cutN xs lo hi := rfl
theorem rep_one {α : Type} (n : Nat) (x : α) : (List.replicate n [x]).flatten = List.replicate n x := by
  induction n with
  | zero => rfl
  | succ n ih => rw [List.replicate_succ, List.flatten_cons, ih]; rfl
theorem ko_ints (o : Bool) {α : Type} (f : α → V) (ns : List α) : ko o (ns.map fun i => T.lf (f i)) := fun _ => by
  rw [List.all_map, List.all_eq_true]
  intro x _
  rfl
theorem btw_ints {lo hi : Int} : ∀ {xs : List T}, (∀ x ∈ xs, x.btw lo hi = true) → ∃ ns : List Int, xs = ns.map (fun i => T.lf (.int i)) ∧ ∀ x ∈ ns, lo ≤ x ∧ x ≤ hi
  | [], _ => ⟨[], rfl, by simp⟩
  | y :: ys, e => by
    obtain ⟨ns, h1, h2⟩ := btw_ints fun x hx => e x (List.mem_cons_of_mem _ hx)
    have hy := e y List.mem_cons_self
    unfold T.btw at hy
    split at hy
    · rename_i i
      rw [Bool.and_eq_true, decide_eq_true_eq, decide_eq_true_eq] at hy
      exact ⟨i :: ns, by rw [h1]; rfl, fun x hx => (List.mem_cons.mp hx).elim (fun e => by omega) (h2 x)⟩
    · cases hy
end Tr

set_option Elab.async false
set_option linter.all false
set_option maxRecDepth 100000
set_option maxHeartbeats 1000000
set_option autoImplicit false
namespace Tr
open PySem PySem.Spec PyProof.Rows L2 Cm
local macro_rules | `(tactic| walk_at "vis") => `(tactic| (first | exact Or.inl rfl | exact Or.inr (Or.inl rfl) | exact Or.inr (Or.inr rfl)))
local macro_rules | `(tactic| walk_at "loc") => `(tactic| (first | exact Or.inl rfl | exact Or.inr rfl))
local macro_rules | `(tactic| walk_at "ev1") => `(tactic| simp (maxSteps := 1000000) only [Tr.specOf, endsOf, env0, outsOf_n, outsOf_c, dSkip, dSeq, dRet, dRetN, dExpr, dIf, dAsg, gSet, gSetF, gTupl_t, gTupl_k, gsNil, gsCons_c, dC, dVar, dMv, dGl, dCons, dNil, dSnoc, dT, dTr, dNot, dAnd, dOr, dAndV, dOrV, dNotV, dIfE, dOp, dLs, rdAll, rdT, dNew, dNew0, dCall, dFz, wb, dMutA_e, dPutA_e, asM_n, dFor, dItems_e, dItemsT_e, dRng1_e, dRng2_e, fRng1_i, dRngO_pk, asR_r, asL_l, asT_t, asT_k, as1_i, as2_i, dEnum_e, dZip_e, lsL_l, lsL_m, lsL_r, as2T_l, as1T_l, dKeys, dComp, dDComp, dRaise, dTry, dHds, dDic, dRdM, dYes, wipeE, namE, clrE, endS, dXfK, dXf, unt_nil, unt_cons, unt1_none, unt1_ref, unt1_int, unt1_bl, unt1_str, unt1_non, unt1_nd, dBrk, dCnt, dChain_eq, dSl11_v, dSl11_pk, Option.bind_eq_bind, and_self, exists_eq, T.lf.injEq, V.bl.injEq, T.fz_fz, map_fz_lf, rowT_fz, matT_fz, map_rowT_fz, rowT_fzd, List.length_map, fAdd_ii, fAdd_ss, fAdd_ll, fAdd_tt, fMul_ii, fMul_li, fII_ii, fIC_ii, fCmp_ii, fCmp_ss, isN_non, isN_int, isN_bl, isN_str, isN_nd, fIsN_n, fNotN_n, fNeg_i, fInt1_i, fInt1_b, fTuple_l, fTuple_t, fList_l, fList_t, fList_k, fMax_ii, fMin_ii, fDivmod_ii, fLen_l, fLen_q, fLen_t, fLen_k, fLen_s, fSl_l, fSl_t, fSl_s, fSl00_e, fSl10_e, fSl01_e, fIsB_bb, fIx_l, fIx_q, fIx_t, fIx_k, fIx_s, fAppend_l, fSetL_l, fExtend_l, fPop_l, fPopAt_l, fInsert_l, fReverse_l, fClear_l, fDPut_i, fDPut_s, fDGet2_i, fDGet2_s, fDGet_i, isDic_k, Tr.one_inj, key_i, key_s, fDIn_i, kindOf_l, kindOf_k, at_0, at_1, at_2, at_3, List.map_cons, List.map_nil, List.length_cons, List.length_nil, List.replicate, List.cons_append, List.nil_append, List.append_nil, List.getElem?_cons_zero, List.getElem?_cons_succ, List.set_cons_zero, List.set_cons_succ, Option.join, Option.bind_some, id_eq, Option.some.injEq, Option.map_some, exists_eq_left', exists_eq_left, exists_eq', T.fz_lf, T.fz_nd, T.fzd_lf, T.fzd_nd, Kd.unl, Nat.sub_self, Nat.sub_zero, Nat.reduceSub, Nat.reduceAdd, Nat.zero_add, true_and, and_true, List.reverse_cons, List.reverse_nil, if_true, if_false, Bool.false_eq_true, Bool.not_false, Bool.not_true, Bool.false_xor, Bool.true_xor, tru_non, tru_bl, tru_int, tru_lst, tru_tup, ite_true, ite_false, reduceIte, exists_const, exists_and_left, List.isEmpty_cons, List.isEmpty_nil])
local macro_rules | `(tactic| walk_at "ev") => `(tactic| try walk_at "ev1")
local macro_rules | `(tactic| walk_at "sz") => `(tactic| repeat (first | refine ⟨by decide, ?_⟩ | refine ⟨fun _ => rfl, ?_⟩))
local macro_rules | `(tactic| walk_at "dat") => `(tactic| repeat (first | exact Dats.nil | exact Dat.int _ | exact Dat.bl _ | exact Dat.non | exact Dat.str (by decide +kernel) | exact Dats.ints _ | apply Dats.cons | apply Dat.lst | apply Dat.tup | apply Dat.tpk))
/-! ### the next step alone: what follows is no lambda, so nothing in it is looked at ahead of its time -/
abbrev lzIfE (c : Bool) (env : Env) (A B : Env → Prop) : Prop := if c = true then A env else B env
abbrev appE (s : Spec) (bs : List Nat) (ts : List T) (env : Env) (P Ex : PT1) : Prop := s ts (fun t outs => P t (wb bs outs env)) (fun ex outs => Ex ex (wb bs outs env))
abbrev lzLoop (dg : DG) (db : DS) (DT : DEnds) (items : List T) (env : Env) : Prop := dLoop dg db DT items env
abbrev lzCl (own : List Nat) (dg : DG) (dc : DB) (de : DE) (P : PT1) (items acc : List T) (env : Env) : Prop := dCl own dg dc de P items acc env
abbrev lzCd (own : List Nat) (dg : DG) (dc : DB) (dk dv : DE) (P : PT1) (items : List T) (ks : List Key) (acc : List T) (env : Env) : Prop := dCd own dg dc dk dv P items ks acc env
abbrev lzWhile (dc : DB) (db : DS) (DT : DEnds) (env : Env) : Prop := dWhile dc db DT env
def isE : Option (Option T) → Prop → Prop
  | some (some _), P => P
  | _, _ => False
def isM : Option (Option T) → String → Prop → Prop
  | some (some (.nd true k _)), n, P => kindOf k = n ∧ P
  | _, _, _ => False
def rdE : Option (Option T) → (T → Prop) → Prop
  | some (some t), P => P t
  | _, _ => False
def rdA : Option (List T) → (List T → Prop) → Prop
  | some t, P => P t
  | _, _ => False
def asB : T → (Bool → Prop) → Prop
  | .lf (.bl c), P => P c
  | _, _ => False
def asO {α : Type} : Option α → (α → Prop) → Prop
  | some t, P => P t
  | _, _ => False
def asRef : T → Addr → Prop → Prop
  | .lf (.ref b), a, P => b = a ∧ P
  | _, _, _ => False
def asI : T → (Int → Prop) → Prop
  | .lf (.int i), P => P i
  | _, _ => False
def asD : T → (List Key → List T → Prop) → Prop
  | .nd false (.dk ks) xs, P => P ks xs
  | _, _ => False
def asS : T → (Str → Prop) → Prop
  | .lf (.str z), P => P z
  | _, _ => False
theorem asB_e (t : T) (P : Bool → Prop) : asB t P = ∃ c, t = .lf (.bl c) ∧ P c := by
  apply propext
  constructor
  · intro h
    match t, h with
    | .lf (.bl c), h => exact ⟨c, rfl, h⟩
  · rintro ⟨c, rfl, h⟩; exact h
theorem rdE_e (t : Option (Option T)) (P : T → Prop) : rdE t P = ∃ c, t = some (some c) ∧ P c := by
  apply propext
  constructor
  · intro h
    match t, h with
    | some (some c), h => exact ⟨c, rfl, h⟩
  · rintro ⟨c, rfl, h⟩; exact h
theorem rdA_e (t : Option (List T)) (P : List T → Prop) : rdA t P = ∃ c, t = some c ∧ P c := by
  apply propext
  constructor
  · intro h
    match t, h with
    | some c, h => exact ⟨c, rfl, h⟩
  · rintro ⟨c, rfl, h⟩; exact h
theorem asO_e {α : Type} (t : Option α) (P : α → Prop) : asO t P = ∃ c, t = some c ∧ P c := by
  apply propext
  constructor
  · intro h
    match t, h with
    | some c, h => exact ⟨c, rfl, h⟩
  · rintro ⟨c, rfl, h⟩; exact h
theorem asI_e (t : T) (P : Int → Prop) : asI t P = ∃ c, t = .lf (.int c) ∧ P c := by
  apply propext
  constructor
  · intro h
    match t, h with
    | .lf (.int c), h => exact ⟨c, rfl, h⟩
  · rintro ⟨c, rfl, h⟩; exact h
theorem asD_e (t : T) (P : List Key → List T → Prop) : asD t P = ∃ ks xs, t = .nd false (.dk ks) xs ∧ P ks xs := by
  apply propext
  constructor
  · intro h
    match t, h with
    | .nd false (.dk ks) xs, h => exact ⟨ks, xs, rfl, h⟩
  · rintro ⟨ks, xs, rfl, h⟩; exact h
theorem asS_e (t : T) (P : Str → Prop) : asS t P = ∃ c, t = .lf (.str c) ∧ P c := by
  apply propext
  constructor
  · intro h
    match t, h with
    | .lf (.str c), h => exact ⟨c, rfl, h⟩
  · rintro ⟨c, rfl, h⟩; exact h
theorem asRef_e (t : T) (a : Addr) (P : Prop) : asRef t a P = (t = .lf (.ref a) ∧ P) := by
  apply propext
  constructor
  · intro h
    match t, h with
    | .lf (.ref b), h => exact ⟨by rw [show b = a from And.left h], And.right h⟩
  · rintro ⟨rfl, h⟩; exact ⟨rfl, h⟩
theorem isE_e (t : Option (Option T)) (P : Prop) : isE t P = ((∃ c, t = some (some c)) ∧ P) := by
  apply propext
  constructor
  · intro h
    match t, h with
    | some (some c), h => exact ⟨⟨c, rfl⟩, h⟩
  · rintro ⟨⟨c, rfl⟩, h⟩; exact h
theorem isM_e (t : Option (Option T)) (n : String) (P : Prop) : isM t n P = (asM t (fun k _ => kindOf k = n) ∧ P) := by
  apply propext
  constructor
  · intro h
    match t, h with
    | some (some (.nd true k xs)), h => exact ⟨h.1, h.2⟩
  · intro ⟨h, p⟩
    match t, h with
    | some (some (.nd true k xs)), h => exact ⟨h, p⟩
theorem rdT_r (env : Env) (i : Nat) (F : T → Prop) : (∃ t', rdT env (.inr i) = some t' ∧ F t') = rdE env[i]? F := by
  show (∃ t', (env[i]?).join = some t' ∧ F t') = _
  generalize env[i]? = z
  rcases z with _ | _ | t <;> simp [rdE]
namespace Lz
end Lz
section

def kEnx (io : List Nat) (P0 : T → List T → Prop) (env : Env) : Prop := ∃ outs, outsOf io env = some outs ∧ P0 (.lf .non) outs
theorem kEnx_w {io : List Nat} {P0 : T → List T → Prop} {env : Env} : kEnx io P0 env = (∃ outs, outsOf io env = some outs ∧ P0 (.lf .non) outs) := (rfl)
def kEt (io : List Nat) (P0 : T → List T → Prop) (t : T) (env : Env) : Prop := ∃ outs, outsOf io env = some outs ∧ P0 t outs
theorem kEt_w {io : List Nat} {P0 : T → List T → Prop} {t : T} {env : Env} : kEt io P0 t env = (∃ outs, outsOf io env = some outs ∧ P0 t outs) := (rfl)
theorem lz_spec {n : Nat} {io : List Nat} {a : DS} {ts : List T} {P0 E1 : T → List T → Prop} : specOf n io a ts P0 E1 = a { nx := kEnx io P0, rt := kEt io P0, ex := kEt io E1 } (env0 n ts) := (rfl)
theorem lz_skip {DT : DEnds} {env : Env} : dSkip DT env = (DT.nx env) := (rfl)
theorem lz_seq {a : DS} {b : DS} {DT : DEnds} {env : Env} : dSeq a b DT env = (a { nx := b DT, bk := DT.bk, ct := DT.ct, rt := DT.rt, ex := DT.ex } env) := (rfl)
def kAsg (dg : DG) (DT : DEnds) (t : T) (env : Env) : Prop := dg t env DT.nx
theorem kAsg_w {dg : DG} {DT : DEnds} {t : T} {env : Env} : kAsg dg DT t env = (dg t env DT.nx) := (rfl)
theorem lz_asg {de : DE} {dg : DG} {DT : DEnds} {env : Env} : dAsg de dg DT env = (de env (kAsg dg DT) DT.ex) := (rfl)
theorem lz_ret {de : DE} {DT : DEnds} {env : Env} : dRet de DT env = (de env DT.rt DT.ex) := (rfl)
theorem lz_retN {DT : DEnds} {env : Env} : dRetN DT env = (DT.rt (.lf .non) env) := (rfl)
def kExpr (DT : DEnds) (t : T) (env : Env) : Prop := DT.nx env
theorem kExpr_w {DT : DEnds} {t : T} {env : Env} : kExpr DT t env = (DT.nx env) := (rfl)
theorem lz_expr {de : DE} {DT : DEnds} {env : Env} : dExpr de DT env = (de env (kExpr DT) DT.ex) := (rfl)
def kIf (a : DS) (b : DS) (DT : DEnds) (z : Bool) (env : Env) : Prop := lzIfE z env (a DT) (b DT)
theorem kIf_w {a : DS} {b : DS} {DT : DEnds} {z : Bool} {env : Env} : kIf a b DT z env = (lzIfE z env (a DT) (b DT)) := (rfl)
theorem lz_if {c : DB} {a : DS} {b : DS} {DT : DEnds} {env : Env} : dIf c a b DT env = (c env (kIf a b DT) DT.ex) := (rfl)
theorem lz_for {di : DI} {dg : DG} {b : DS} {DT : DEnds} {env : Env} : dFor di dg b DT env = (di env (lzLoop dg b DT) DT.ex) := (rfl)
theorem lz_while {c : DB} {b : DS} {DT : DEnds} {env : Env} : dWhile c b DT env = (lzWhile c b DT env) := (rfl)
theorem lz_brk {DT : DEnds} {env : Env} : dBrk DT env = (DT.bk env) := (rfl)
theorem lz_cnt {DT : DEnds} {env : Env} : dCnt DT env = (DT.ct env) := (rfl)
def kRaise (C : Addr) (fs : List Str) (DT : DEnds) (ts : List T) (env : Env) : Prop := ts.length = fs.length ∧ DT.ex (.nd false (.exc C fs.reverse) (ts.map T.fz).reverse) env
theorem kRaise_w {C : Addr} {fs : List Str} {DT : DEnds} {ts : List T} {env : Env} : kRaise C fs DT ts env = (ts.length = fs.length ∧ DT.ex (.nd false (.exc C fs.reverse) (ts.map T.fz).reverse) env) := (rfl)
theorem lz_raise {C : Addr} {fs : List Str} {da : DA} {DT : DEnds} {env : Env} : dRaise C fs da DT env = (da env (kRaise C fs DT) DT.ex) := (rfl)
theorem lz_try {K : PySem.W.Frag} {b : DS} {l : List DHd} {DT : DEnds} {env : Env} : dTry K b l DT env = (b { nx := DT.nx, bk := DT.bk, ct := DT.ct, rt := DT.rt, ex := dHds K DT l } env) := (rfl)
theorem lz_hds0 {K : PySem.W.Frag} {DT : DEnds} {ex : T} {env : Env} : dHds K DT [] ex env = DT.ex ex env := (rfl)
theorem lz_hds1 {K : PySem.W.Frag} {DT : DEnds} {o : Bool} {C : Addr} {fs : List Str} {xs : List T} {env : Env} {c : Value} {oi : Option Nat} {ds : Addr → T → DS} {l : List DHd} : dHds K DT ((c, oi, ds) :: l) (.nd o (.exc C fs) xs) env = (∃ b, PySem.W.exmOne K (.ref C) c = some b ∧ (b = true → ∀ a : Addr, ds a (.nd o (.exc C fs) xs) (endS a (.nd o (.exc C fs) xs) oi DT) (namE oi a env)) ∧ (b = false → dHds K DT l (.nd o (.exc C fs) xs) env)) := (rfl)
theorem lz_endS_nx {ad : Addr} {ex : T} {oi : Option Nat} {DT : DEnds} {env : Env} : (endS ad ex oi DT).nx env = (DT.nx (clrE oi (unt ad ex env))) := (rfl)
theorem lz_endS_bk {ad : Addr} {ex : T} {oi : Option Nat} {DT : DEnds} {env : Env} : (endS ad ex oi DT).bk env = (DT.bk (clrE oi (unt ad ex env))) := (rfl)
theorem lz_endS_ct {ad : Addr} {ex : T} {oi : Option Nat} {DT : DEnds} {env : Env} : (endS ad ex oi DT).ct env = (DT.ct (clrE oi (unt ad ex env))) := (rfl)
theorem lz_endS_rt {ad : Addr} {ex : T} {oi : Option Nat} {DT : DEnds} {t : T} {env : Env} : (endS ad ex oi DT).rt t env = (DT.rt t (unt ad ex env)) := (rfl)
def kPut3 (i : Nat) (DT : DEnds) (env : Env) (t : T) (k : Kd) (xs : List T) : Prop := DT.nx (env.set i (some (.nd true k xs)))
theorem kPut3_w {i : Nat} {DT : DEnds} {env : Env} {t : T} {k : Kd} {xs : List T} : kPut3 i DT env t k xs = (DT.nx (env.set i (some (.nd true k xs)))) := (rfl)
def kPut2 (i : Nat) (fm : FM) (t : T) (u : T) (DT : DEnds) (env : Env) (k : Kd) (xs : List T) : Prop := fm k xs [t, u] (kPut3 i DT env)
theorem kPut2_w {i : Nat} {fm : FM} {t : T} {u : T} {DT : DEnds} {env : Env} {k : Kd} {xs : List T} : kPut2 i fm t u DT env k xs = (fm k xs [t, u] (kPut3 i DT env)) := (rfl)
def kPut1 (i : Nat) (fm : FM) (t : T) (DT : DEnds) (u : T) (env : Env) : Prop := asM env[i]? (kPut2 i fm t u.fz DT env)
theorem kPut1_w {i : Nat} {fm : FM} {t : T} {DT : DEnds} {u : T} {env : Env} : kPut1 i fm t DT u env = (asM env[i]? (kPut2 i fm t u.fz DT env)) := (rfl)
def kPut (i : Nat) (fm : FM) (de : DE) (DT : DEnds) (t : T) (env : Env) : Prop := isE env[i]? (de env (kPut1 i fm t DT) DT.ex)
theorem kPut_w {i : Nat} {fm : FM} {de : DE} {DT : DEnds} {t : T} {env : Env} : kPut i fm de DT t env = (isE env[i]? (de env (kPut1 i fm t DT) DT.ex)) := (rfl)
theorem lz_put {i : Nat} {fm : FM} {dv : DE} {de : DE} {DT : DEnds} {env : Env} : dPutA i fm dv de DT env = (dv env (kPut i fm de DT) DT.ex) := by
  rw [dPutA_e]
  congr 1
  funext t env1
  rw [kPut_w, isE_e]
  rfl
def kDel2 (i : Nat) (fm : FM) (u : T) (DT : DEnds) (env : Env) (k : Kd) (xs : List T) : Prop := fm k xs [u] (kPut3 i DT env)
theorem kDel2_w {i : Nat} {fm : FM} {u : T} {DT : DEnds} {env : Env} {k : Kd} {xs : List T} : kDel2 i fm u DT env k xs = (fm k xs [u] (kPut3 i DT env)) := (rfl)
def kDel1 (i : Nat) (fm : FM) (DT : DEnds) (u : T) (env : Env) : Prop := asM env[i]? (kDel2 i fm u.fz DT env)
theorem kDel1_w {i : Nat} {fm : FM} {DT : DEnds} {u : T} {env : Env} : kDel1 i fm DT u env = (asM env[i]? (kDel2 i fm u.fz DT env)) := (rfl)
theorem lz_del {i : Nat} {fm : FM} {de : DE} {DT : DEnds} {env : Env} : dDelA i fm de DT env = (isE env[i]? (de env (kDel1 i fm DT) DT.ex)) := by
  unfold dDelA
  rw [isE_e]
  unfold kDel1
  simp only [asM_e]
  rfl
theorem lz_c {v : V} {env : Env} {P Ex : PT1} : dC v env P Ex = P (.lf v) env := (rfl)
def kVar (i : Nat) (env : Env) (P : PT1) (t : T) : Prop := P t.fz (env.set i (some t.fz))
theorem kVar_w {i : Nat} {env : Env} {P : PT1} {t : T} : kVar i env P t = (P t.fz (env.set i (some t.fz))) := (rfl)
theorem lz_var {i : Nat} {env : Env} {P : PT1} {Ex : PT1} : dVar i env P Ex = (rdE env[i]? (kVar i env P)) := by
  rw [rdE_e]; rfl
def kMv (i : Nat) (env : Env) (P : PT1) (t : T) : Prop := P t (env.set i none)
theorem kMv_w {i : Nat} {env : Env} {P : PT1} {t : T} : kMv i env P t = (P t (env.set i none)) := (rfl)
theorem lz_mv {i : Nat} {env : Env} {P : PT1} {Ex : PT1} : dMv i env P Ex = (rdE env[i]? (kMv i env P)) := by
  rw [rdE_e]; rfl
theorem lz_gl {t : T} {env : Env} {P : PT1} {Ex : PT1} : dGl t env P Ex = (P t env) := (rfl)
def kFz (P : PT1) (t : T) (env : Env) : Prop := P t.fz env
theorem kFz_w {P : PT1} {t : T} {env : Env} : kFz P t env = (P t.fz env) := (rfl)
theorem lz_fz {de : DE} {env : Env} {P : PT1} {Ex : PT1} : dFz de env P Ex = (de env (kFz P) Ex) := (rfl)
def kLRg2 (P : PT1) (env : Env) (n : Int) : Prop := RgOk 0 n ∧ P (.nd true .lst (irg 0 n.toNat)) env
theorem kLRg2_w {P : PT1} {env : Env} {n : Int} : kLRg2 P env n = (RgOk 0 n ∧ P (.nd true .lst (irg 0 n.toNat)) env) := (rfl)
def kLRg (P : PT1) (t : T) (env : Env) : Prop := asI t (kLRg2 P env)
theorem kLRg_w {P : PT1} {t : T} {env : Env} : kLRg P t env = (asI t (kLRg2 P env)) := (rfl)
theorem lz_lrg {de : DE} {env : Env} {P : PT1} {Ex : PT1} : dLRg de env P Ex = (de env (kLRg P) Ex) := by
  unfold dLRg
  congr 1
  funext t env'
  rw [kLRg_w, asI_e]
  rfl
def kNew (k : Kd) (P : PT1) (ts : List T) (env : Env) : Prop := ts.length ≤ sizeLine ∧ P (.nd true k ts) env
theorem kNew_w {k : Kd} {P : PT1} {ts : List T} {env : Env} : kNew k P ts env = (ts.length ≤ sizeLine ∧ P (.nd true k ts) env) := (rfl)
theorem lz_new {k : Kd} {da : DA} {env : Env} {P : PT1} {Ex : PT1} : dNew k da env P Ex = (da env (kNew k P) Ex) := (rfl)
theorem lz_new0 {k : Kd} {env : Env} {P : PT1} {Ex : PT1} : dNew0 k env P Ex = (P (.nd true k []) env) := (rfl)
def kOp3 (P : PT1) (env : Env) (t : T) : Prop := P t env
theorem kOp3_w {P : PT1} {env : Env} {t : T} : kOp3 P env t = (P t env) := (rfl)
def kOp2 (f : List T → (T → Prop) → Prop) (P : PT1) (env : Env) (ts : List T) : Prop := f ts (kOp3 P env)
theorem kOp2_w {f : List T → (T → Prop) → Prop} {P : PT1} {env : Env} {ts : List T} : kOp2 f P env ts = (f ts (kOp3 P env)) := (rfl)
def kOp (f : List T → (T → Prop) → Prop) (P : PT1) (rs : List Rdr) (env : Env) : Prop := rdA (rdAll env rs) (kOp2 f P env)
theorem kOp_w {f : List T → (T → Prop) → Prop} {P : PT1} {rs : List Rdr} {env : Env} : kOp f P rs env = (rdA (rdAll env rs) (kOp2 f P env)) := (rfl)
theorem lz_op {f : List T → (T → Prop) → Prop} {os : List Od} {env : Env} {P : PT1} {Ex : PT1} : dOp f os env P Ex = (dLs os env (kOp f P) Ex) := by
  unfold dOp
  congr 1
  funext rs env'
  rw [kOp_w, rdA_e]
  rfl
def kLsc (r : Rdr) (QL : List Rdr → Env → Prop) (rs : List Rdr) (env : Env) : Prop := QL (r :: rs) env
theorem kLsc_w {r : Rdr} {QL : List Rdr → Env → Prop} {rs : List Rdr} {env : Env} : kLsc r QL rs env = (QL (r :: rs) env) := (rfl)
def kLsv (os : List Od) (QL : List Rdr → Env → Prop) (Ex : PT1) (t : T) (env : Env) : Prop := dLs os env (kLsc (.inl t.fz) QL) Ex
theorem kLsv_w {os : List Od} {QL : List Rdr → Env → Prop} {Ex : PT1} {t : T} {env : Env} : kLsv os QL Ex t env = (dLs os env (kLsc (.inl t.fz) QL) Ex) := (rfl)
theorem lz_ls0 {env : Env} {QL : List Rdr → Env → Prop} {Ex : PT1} : dLs [] env QL Ex = (QL [] env) := (rfl)
theorem lz_lsv {de : DE} {os : List Od} {env : Env} {QL : List Rdr → Env → Prop} {Ex : PT1} : dLs (.v de :: os) env QL Ex = (de env (kLsv os QL Ex) Ex) := (rfl)
theorem lz_lsp {i : Nat} {os : List Od} {env : Env} {QL : List Rdr → Env → Prop} {Ex : PT1} : dLs (.pk i :: os) env QL Ex = (isE env[i]? (dLs os env (kLsc (.inr i) QL) Ex)) := by
  rw [isE_e]; rfl
theorem kNotV2_d : True := trivial
def kNotV2 (P : PT1) (env : Env) (c : Bool) : Prop := P (.lf (.bl (!c))) env
theorem kNotV2_w {P : PT1} {env : Env} {c : Bool} : kNotV2 P env c = P (.lf (.bl (!c))) env := (rfl)
def kNotV (P : PT1) (t : T) (env : Env) : Prop := asB t (kNotV2 P env)
theorem kNotV_w {P : PT1} {t : T} {env : Env} : kNotV P t env = (asB t (kNotV2 P env)) := (rfl)
theorem lz_notV {de : DE} {env : Env} {P : PT1} {Ex : PT1} : dNotV de env P Ex = (de env (kNotV P) Ex) := by
  unfold dNotV
  congr 1
  funext t env'
  rw [kNotV_w, asB_e]
  rfl
def kDE (de : DE) (P : PT1) (Ex : PT1) (env : Env) : Prop := de env P Ex
theorem kDE_w {de : DE} {P : PT1} {Ex : PT1} {env : Env} : kDE de P Ex env = (de env P Ex) := (rfl)
def kBo (b : Bool) (P : PT1) (env : Env) : Prop := P (.lf (.bl b)) env
theorem kBo_w {b : Bool} {P : PT1} {env : Env} : kBo b P env = P (.lf (.bl b)) env := (rfl)
def kAndV2 (de : DE) (P : PT1) (Ex : PT1) (env : Env) (z : Bool) : Prop := lzIfE z env (kDE de P Ex) (kBo false P)
theorem kAndV2_w {de : DE} {P : PT1} {Ex : PT1} {env : Env} {z : Bool} : kAndV2 de P Ex env z = (lzIfE z env (kDE de P Ex) (kBo false P)) := (rfl)
def kAndV (de : DE) (P : PT1) (Ex : PT1) (t : T) (env : Env) : Prop := asB t (kAndV2 de P Ex env)
theorem kAndV_w {de : DE} {P : PT1} {Ex : PT1} {t : T} {env : Env} : kAndV de P Ex t env = (asB t (kAndV2 de P Ex env)) := (rfl)
theorem lz_andV {d1 : DE} {d2 : DE} {env : Env} {P : PT1} {Ex : PT1} : dAndV d1 d2 env P Ex = (d1 env (kAndV d2 P Ex) Ex) := by
  unfold dAndV
  congr 1
  funext t env'
  rw [kAndV_w, asB_e]
  rfl
def kOrV2 (de : DE) (P : PT1) (Ex : PT1) (env : Env) (z : Bool) : Prop := lzIfE z env (kBo true P) (kDE de P Ex)
theorem kOrV2_w {de : DE} {P : PT1} {Ex : PT1} {env : Env} {z : Bool} : kOrV2 de P Ex env z = (lzIfE z env (kBo true P) (kDE de P Ex)) := (rfl)
def kOrV (de : DE) (P : PT1) (Ex : PT1) (t : T) (env : Env) : Prop := asB t (kOrV2 de P Ex env)
theorem kOrV_w {de : DE} {P : PT1} {Ex : PT1} {t : T} {env : Env} : kOrV de P Ex t env = (asB t (kOrV2 de P Ex env)) := (rfl)
theorem lz_orV {d1 : DE} {d2 : DE} {env : Env} {P : PT1} {Ex : PT1} : dOrV d1 d2 env P Ex = (d1 env (kOrV d2 P Ex) Ex) := by
  unfold dOrV
  congr 1
  funext t env'
  rw [kOrV_w, asB_e]
  rfl
def kIfE (d1 : DE) (d2 : DE) (P : PT1) (Ex : PT1) (z : Bool) (env : Env) : Prop := lzIfE z env (kDE d1 P Ex) (kDE d2 P Ex)
theorem kIfE_w {d1 : DE} {d2 : DE} {P : PT1} {Ex : PT1} {z : Bool} {env : Env} : kIfE d1 d2 P Ex z env = (lzIfE z env (kDE d1 P Ex) (kDE d2 P Ex)) := (rfl)
theorem lz_ifE {c : DB} {d1 : DE} {d2 : DE} {env : Env} {P : PT1} {Ex : PT1} : dIfE c d1 d2 env P Ex = (c env (kIfE d1 d2 P Ex) Ex) := (rfl)
def kCall (bs : List Nat) (s : Spec) (P : PT1) (Ex : PT1) (ts : List T) (env : Env) : Prop := appE s bs ts env P Ex
theorem kCall_w {bs : List Nat} {s : Spec} {P : PT1} {Ex : PT1} {ts : List T} {env : Env} : kCall bs s P Ex ts env = (appE s bs ts env P Ex) := (rfl)
theorem lz_call {bs : List Nat} {s : Spec} {da : DA} {env : Env} {P : PT1} {Ex : PT1} : dCall bs s da env P Ex = (da env (kCall bs s P Ex) Ex) := (rfl)
def kComp (own : List Nat) (dg : DG) (c : DB) (de : DE) (P : PT1) (ts : List T) (env : Env) : Prop := lzCl own dg c de P ts [] (wipeE env own)
theorem kComp_w {own : List Nat} {dg : DG} {c : DB} {de : DE} {P : PT1} {ts : List T} {env : Env} : kComp own dg c de P ts env = (lzCl own dg c de P ts [] (wipeE env own)) := (rfl)
theorem lz_comp {own : List Nat} {di : DI} {dg : DG} {c : DB} {de : DE} {env : Env} {P : PT1} {Ex : PT1} : dComp own di dg c de env P Ex = (di env (kComp own dg c de P) Ex) := (rfl)
def kDComp (own : List Nat) (dg : DG) (c : DB) (d1 : DE) (d2 : DE) (P : PT1) (ts : List T) (env : Env) : Prop := lzCd own dg c d1 d2 P ts [] [] (wipeE env own)
theorem kDComp_w {own : List Nat} {dg : DG} {c : DB} {d1 : DE} {d2 : DE} {P : PT1} {ts : List T} {env : Env} : kDComp own dg c d1 d2 P ts env = (lzCd own dg c d1 d2 P ts [] [] (wipeE env own)) := (rfl)
theorem lz_dcomp {own : List Nat} {di : DI} {dg : DG} {c : DB} {d1 : DE} {d2 : DE} {env : Env} {P : PT1} {Ex : PT1} : dDComp own di dg c d1 d2 env P Ex = (di env (kDComp own dg c d1 d2 P) Ex) := (rfl)
def kMut3 (i : Nat) (P : PT1) (env : Env) (t : T) (k : Kd) (xs : List T) : Prop := P t (env.set i (some (.nd true k xs)))
theorem kMut3_w {i : Nat} {P : PT1} {env : Env} {t : T} {k : Kd} {xs : List T} : kMut3 i P env t k xs = (P t (env.set i (some (.nd true k xs)))) := (rfl)
def kMut2 (i : Nat) (fm : FM) (ts : List T) (P : PT1) (env : Env) (k : Kd) (xs : List T) : Prop := fm k xs ts (kMut3 i P env)
theorem kMut2_w {i : Nat} {fm : FM} {ts : List T} {P : PT1} {env : Env} {k : Kd} {xs : List T} : kMut2 i fm ts P env k xs = (fm k xs ts (kMut3 i P env)) := (rfl)
def kMut (i : Nat) (fm : FM) (P : PT1) (ts : List T) (env : Env) : Prop := asM env[i]? (kMut2 i fm ts P env)
theorem kMut_w {i : Nat} {fm : FM} {P : PT1} {ts : List T} {env : Env} : kMut i fm P ts env = (asM env[i]? (kMut2 i fm ts P env)) := (rfl)
theorem lz_mut {i : Nat} {m : String} {fm : FM} {da : DA} {env : Env} {P : PT1} {Ex : PT1} : dMutA i m fm da env P Ex = (isM env[i]? m (da env (kMut i fm P) Ex)) := by
  rw [dMutA_e, isM_e]
  rfl
def kMx3 (i : Nat) (k0 : Kd) (xs : List T) (pp : Nat) (P : PT1) (env : Env) (t : T) (k : Kd) (ys : List T) : Prop := P t (env.set i (some (.nd true k0 (xs.set pp (.nd true k ys)))))
theorem kMx3_w {i : Nat} {k0 : Kd} {xs : List T} {pp : Nat} {P : PT1} {env : Env} {t : T} {k : Kd} {ys : List T} : kMx3 i k0 xs pp P env t k ys = (P t (env.set i (some (.nd true k0 (xs.set pp (.nd true k ys)))))) := (rfl)
def kMx2 (i : Nat) (k0 : Kd) (xs : List T) (pp : Nat) (fm : FM) (kk : Kd) (ys : List T) (P : PT1) (ts : List T) (env : Env) : Prop := fm kk ys ts (kMx3 i k0 xs pp P env)
theorem kMx2_w {i : Nat} {k0 : Kd} {xs : List T} {pp : Nat} {fm : FM} {kk : Kd} {ys : List T} {P : PT1} {ts : List T} {env : Env} : kMx2 i k0 xs pp fm kk ys P ts env = (fm kk ys ts (kMx3 i k0 xs pp P env)) := (rfl)
def atM (f0 : Kd → List T → T → Option Nat) (n : String) (t : T) : Option (Option T) → (Kd → List T → Nat → Kd → List T → Prop) → Prop
  | some (some (.nd true k xs)), P => ∃ p kk ys, f0 k xs t = some p ∧ xs[p]? = some (.nd true kk ys) ∧ kindOf kk = n ∧ P k xs p kk ys
  | _, _ => False
theorem atM_n {f0 : Kd → List T → T → Option Nat} {n : String} {t : T} {k : Kd} {xs : List T} {P : Kd → List T → Nat → Kd → List T → Prop} : atM f0 n t (some (some (.nd true k xs))) P = (∃ p kk ys, f0 k xs t = some p ∧ xs[p]? = some (.nd true kk ys) ∧ kindOf kk = n ∧ P k xs p kk ys) := (rfl)
theorem atM_e (f0 : Kd → List T → T → Option Nat) (n : String) (t : T) (z : Option (Option T)) (P : Kd → List T → Nat → Kd → List T → Prop) : atM f0 n t z P = ∃ k xs p kk ys, z = some (some (.nd true k xs)) ∧ f0 k xs t = some p ∧ xs[p]? = some (.nd true kk ys) ∧ kindOf kk = n ∧ P k xs p kk ys := by
  apply propext
  constructor
  · intro h
    match z, h with
    | some (some (.nd true k xs)), ⟨p, kk, ys, a, b, c, d⟩ => exact ⟨k, xs, p, kk, ys, rfl, a, b, c, d⟩
  · rintro ⟨k, xs, p, kk, ys, rfl, a, b, c, d⟩
    exact ⟨p, kk, ys, a, b, c, d⟩
theorem chL_i {xs : List T} {j : Int} : chL .lst xs (.lf (.int j)) = ixN xs.length j := (rfl)
def kMx1 (i : Nat) (m : String) (fm : FM) (da : DA) (P : PT1) (Ex : PT1) (env : Env) (k0 : Kd) (xs : List T) (pp : Nat) (kk : Kd) (ys : List T) : Prop := da (env.set i none) (kMx2 i k0 xs pp fm kk ys P) Ex
theorem kMx1_w {i : Nat} {m : String} {fm : FM} {da : DA} {P : PT1} {Ex : PT1} {env : Env} {k0 : Kd} {xs : List T} {pp : Nat} {kk : Kd} {ys : List T} : kMx1 i m fm da P Ex env k0 xs pp kk ys = (da (env.set i none) (kMx2 i k0 xs pp fm kk ys P) Ex) := (rfl)
def kMx0 (i : Nat) (m : String) (f0 : Kd → List T → T → Option Nat) (fm : FM) (da : DA) (P : PT1) (Ex : PT1) (t : T) (env : Env) : Prop := atM f0 m t.fz env[i]? (kMx1 i m fm da P Ex env)
theorem kMx0_w {i : Nat} {m : String} {f0 : Kd → List T → T → Option Nat} {fm : FM} {da : DA} {P : PT1} {Ex : PT1} {t : T} {env : Env} : kMx0 i m f0 fm da P Ex t env = (atM f0 m t.fz env[i]? (kMx1 i m fm da P Ex env)) := (rfl)
theorem lz_mutIx {i : Nat} {m : String} {f0 : Kd → List T → T → Option Nat} {fm : FM} {de : DE} {da : DA} {env : Env} {P : PT1} {Ex : PT1} : dMutIx i m f0 fm de da env P Ex = (isE env[i]? (de env (kMx0 i m f0 fm da P Ex) Ex)) := by
  unfold dMutIx
  rw [isE_e]
  congr 2
  funext tj env1
  rw [kMx0_w, atM_e]
  rfl
def atP (f0 : Kd → List T → T → Option Nat) (t : T) : Option (Option T) → (Kd → List T → Nat → Kd → List T → Prop) → Prop
  | some (some (.nd true k xs)), P => ∃ p kk ys, f0 k xs t = some p ∧ xs[p]? = some (.nd true kk ys) ∧ P k xs p kk ys
  | _, _ => False
theorem atP_n {f0 : Kd → List T → T → Option Nat} {t : T} {k : Kd} {xs : List T} {P : Kd → List T → Nat → Kd → List T → Prop} : atP f0 t (some (some (.nd true k xs))) P = (∃ p kk ys, f0 k xs t = some p ∧ xs[p]? = some (.nd true kk ys) ∧ P k xs p kk ys) := (rfl)
theorem atP_e (f0 : Kd → List T → T → Option Nat) (t : T) (z : Option (Option T)) (P : Kd → List T → Nat → Kd → List T → Prop) : atP f0 t z P = ∃ k xs p kk ys, z = some (some (.nd true k xs)) ∧ f0 k xs t = some p ∧ xs[p]? = some (.nd true kk ys) ∧ P k xs p kk ys := by
  apply propext
  constructor
  · intro h
    match z, h with
    | some (some (.nd true k xs)), ⟨p, kk, ys, a, b, d⟩ => exact ⟨k, xs, p, kk, ys, rfl, a, b, d⟩
  · rintro ⟨k, xs, p, kk, ys, rfl, a, b, d⟩
    exact ⟨p, kk, ys, a, b, d⟩
theorem chD_i {ks : List Key} {xs : List T} {j : Int} : chD (.dk ks) xs (.lf (.int j)) = ixOf ks (.inl j) := (rfl)
theorem chD_s {ks : List Key} {xs : List T} {j : Str} : chD (.dk ks) xs (.lf (.str j)) = ixOf ks (.inr j) := (rfl)
def kPx3 (i : Nat) (k0 : Kd) (xs : List T) (pp : Nat) (DT : DEnds) (env : Env) (t : T) (k : Kd) (ys : List T) : Prop := DT.nx (env.set i (some (.nd true k0 (xs.set pp (.nd true k ys)))))
theorem kPx3_w {i : Nat} {k0 : Kd} {xs : List T} {pp : Nat} {DT : DEnds} {env : Env} {t : T} {k : Kd} {ys : List T} : kPx3 i k0 xs pp DT env t k ys = (DT.nx (env.set i (some (.nd true k0 (xs.set pp (.nd true k ys)))))) := (rfl)
def kPx2 (i : Nat) (k0 : Kd) (xs : List T) (pp : Nat) (fm : FM) (kk : Kd) (ys : List T) (t : T) (DT : DEnds) (u : T) (env : Env) : Prop := fm kk ys [t, u.fz] (kPx3 i k0 xs pp DT env)
theorem kPx2_w {i : Nat} {k0 : Kd} {xs : List T} {pp : Nat} {fm : FM} {kk : Kd} {ys : List T} {t : T} {DT : DEnds} {u : T} {env : Env} : kPx2 i k0 xs pp fm kk ys t DT u env = (fm kk ys [t, u.fz] (kPx3 i k0 xs pp DT env)) := (rfl)
def kPx1 (i : Nat) (fm : FM) (de : DE) (t : T) (DT : DEnds) (env : Env) (k0 : Kd) (xs : List T) (pp : Nat) (kk : Kd) (ys : List T) : Prop := de (env.set i none) (kPx2 i k0 xs pp fm kk ys t DT) DT.ex
theorem kPx1_w {i : Nat} {fm : FM} {de : DE} {t : T} {DT : DEnds} {env : Env} {k0 : Kd} {xs : List T} {pp : Nat} {kk : Kd} {ys : List T} : kPx1 i fm de t DT env k0 xs pp kk ys = (de (env.set i none) (kPx2 i k0 xs pp fm kk ys t DT) DT.ex) := (rfl)
def kPx0 (i : Nat) (f0 : Kd → List T → T → Option Nat) (fm : FM) (de : DE) (t : T) (DT : DEnds) (u : T) (env : Env) : Prop := atP f0 u.fz env[i]? (kPx1 i fm de t DT env)
theorem kPx0_w {i : Nat} {f0 : Kd → List T → T → Option Nat} {fm : FM} {de : DE} {t : T} {DT : DEnds} {u : T} {env : Env} : kPx0 i f0 fm de t DT u env = (atP f0 u.fz env[i]? (kPx1 i fm de t DT env)) := (rfl)
def kPx (i : Nat) (f0 : Kd → List T → T → Option Nat) (fm : FM) (d2 : DE) (de : DE) (DT : DEnds) (t : T) (env : Env) : Prop := isE env[i]? (d2 env (kPx0 i f0 fm de t DT) DT.ex)
theorem kPx_w {i : Nat} {f0 : Kd → List T → T → Option Nat} {fm : FM} {d2 : DE} {de : DE} {DT : DEnds} {t : T} {env : Env} : kPx i f0 fm d2 de DT t env = (isE env[i]? (d2 env (kPx0 i f0 fm de t DT) DT.ex)) := (rfl)
theorem lz_putIx {i : Nat} {f0 : Kd → List T → T → Option Nat} {fm : FM} {dv : DE} {d2 : DE} {de : DE} {DT : DEnds} {env : Env} : dPutIx i f0 fm dv d2 de DT env = (dv env (kPx i f0 fm d2 de DT) DT.ex) := by
  unfold dPutIx
  congr 1
  funext t env1
  rw [kPx_w, isE_e]
  congr 2
  funext tj env2
  rw [kPx0_w, atP_e]
  rfl
def kCl (h : Nat) (i : Nat) (k0 : Kd) (xs : List T) (pp : Nat) (E0 : Env → Prop) (env : Env) (k : Kd) (ys : List T) : Prop := E0 ((env.set h none).set i (some (.nd true k0 (xs.set pp (.nd true k ys)))))
theorem kCl_w {h : Nat} {i : Nat} {k0 : Kd} {xs : List T} {pp : Nat} {E0 : Env → Prop} {env : Env} {k : Kd} {ys : List T} : kCl h i k0 xs pp E0 env k ys = (E0 ((env.set h none).set i (some (.nd true k0 (xs.set pp (.nd true k ys)))))) := (rfl)
theorem lz_cloE {h : Nat} {i : Nat} {k0 : Kd} {xs : List T} {pp : Nat} {E0 : Env → Prop} {env : Env} : cloE h i k0 xs pp E0 env = (asM env[h]? (kCl h i k0 xs pp E0 env)) := by
  rw [asM_e]
  rfl
theorem lz_clo_nx {h : Nat} {i : Nat} {k0 : Kd} {xs : List T} {pp : Nat} {DT : DEnds} {env : Env} : (clo h i k0 xs pp DT).nx env = (cloE h i k0 xs pp DT.nx env) := (rfl)
theorem lz_clo_bk {h : Nat} {i : Nat} {k0 : Kd} {xs : List T} {pp : Nat} {DT : DEnds} {env : Env} : (clo h i k0 xs pp DT).bk env = (cloE h i k0 xs pp DT.bk env) := (rfl)
theorem lz_clo_ct {h : Nat} {i : Nat} {k0 : Kd} {xs : List T} {pp : Nat} {DT : DEnds} {env : Env} : (clo h i k0 xs pp DT).ct env = (cloE h i k0 xs pp DT.ct env) := (rfl)
theorem lz_clo_rt {h : Nat} {i : Nat} {k0 : Kd} {xs : List T} {pp : Nat} {DT : DEnds} {t : T} {env : Env} : (clo h i k0 xs pp DT).rt t env = (DT.rt t env) := (rfl)
theorem lz_clo_ex {h : Nat} {i : Nat} {k0 : Kd} {xs : List T} {pp : Nat} {DT : DEnds} {t : T} {env : Env} : (clo h i k0 xs pp DT).ex t env = (DT.ex t env) := (rfl)
def kOpn1 (h : Nat) (i : Nat) (a : DS) (DT : DEnds) (env : Env) (k0 : Kd) (xs : List T) (pp : Nat) (kk : Kd) (ys : List T) : Prop := h < env.length ∧ a (clo h i k0 xs pp DT) ((env.set i none).set h (some (.nd true kk ys)))
theorem kOpn1_w {h : Nat} {i : Nat} {a : DS} {DT : DEnds} {env : Env} {k0 : Kd} {xs : List T} {pp : Nat} {kk : Kd} {ys : List T} : kOpn1 h i a DT env k0 xs pp kk ys = (h < env.length ∧ a (clo h i k0 xs pp DT) ((env.set i none).set h (some (.nd true kk ys)))) := (rfl)
def kOpn (h : Nat) (i : Nat) (f0 : Kd → List T → T → Option Nat) (a : DS) (DT : DEnds) (t : T) (env : Env) : Prop := atP f0 t.fz env[i]? (kOpn1 h i a DT env)
theorem kOpn_w {h : Nat} {i : Nat} {f0 : Kd → List T → T → Option Nat} {a : DS} {DT : DEnds} {t : T} {env : Env} : kOpn h i f0 a DT t env = (atP f0 t.fz env[i]? (kOpn1 h i a DT env)) := (rfl)
theorem lz_open {h : Nat} {i : Nat} {f0 : Kd → List T → T → Option Nat} {d2 : DE} {a : DS} {DT : DEnds} {env : Env} : dOpen h i f0 d2 a DT env = (isE env[i]? (d2 env (kOpn h i f0 a DT) DT.ex)) := by
  unfold dOpen
  rw [isE_e]
  congr 2
  funext tj env1
  rw [kOpn_w, atP_e]
  rfl
def kCh6 (f : List T → (T → Prop) → Prop) (P : PT1) (u : T) (t : T) (env : Env) : Prop := f [u.fz, t.fz] (kOp3 P env)
theorem kCh6_w {f : List T → (T → Prop) → Prop} {P : PT1} {u : T} {t : T} {env : Env} : kCh6 f P u t env = (f [u.fz, t.fz] (kOp3 P env)) := (rfl)
def kCh5 (f : List T → (T → Prop) → Prop) (d3 : DE) (P : PT1) (Ex : PT1) (u : T) (env : Env) : Prop := d3 env (kCh6 f P u) Ex
theorem kCh5_w {f : List T → (T → Prop) → Prop} {d3 : DE} {P : PT1} {Ex : PT1} {u : T} {env : Env} : kCh5 f d3 P Ex u env = (d3 env (kCh6 f P u) Ex) := (rfl)
def kCh4 (f : List T → (T → Prop) → Prop) (d3 : DE) (P : PT1) (Ex : PT1) (u : T) (env : Env) (z : Bool) : Prop := lzIfE z env (kCh5 f d3 P Ex u) (kBo false P)
theorem kCh4_w {f : List T → (T → Prop) → Prop} {d3 : DE} {P : PT1} {Ex : PT1} {u : T} {env : Env} {z : Bool} : kCh4 f d3 P Ex u env z = (lzIfE z env (kCh5 f d3 P Ex u) (kBo false P)) := (rfl)
def kCh3 (f : List T → (T → Prop) → Prop) (d3 : DE) (P : PT1) (Ex : PT1) (u : T) (env : Env) (t : T) : Prop := asB t (kCh4 f d3 P Ex u env)
theorem kCh3_w {f : List T → (T → Prop) → Prop} {d3 : DE} {P : PT1} {Ex : PT1} {u : T} {env : Env} {t : T} : kCh3 f d3 P Ex u env t = (asB t (kCh4 f d3 P Ex u env)) := (rfl)
def kCh2 (f : List T → (T → Prop) → Prop) (f2 : List T → (T → Prop) → Prop) (d3 : DE) (P : PT1) (Ex : PT1) (t : T) (u : T) (env : Env) : Prop := f [t.fz, u.fz] (kCh3 f2 d3 P Ex u env)
theorem kCh2_w {f : List T → (T → Prop) → Prop} {f2 : List T → (T → Prop) → Prop} {d3 : DE} {P : PT1} {Ex : PT1} {t : T} {u : T} {env : Env} : kCh2 f f2 d3 P Ex t u env = (f [t.fz, u.fz] (kCh3 f2 d3 P Ex u env)) := (rfl)
def kCh1 (f : List T → (T → Prop) → Prop) (f2 : List T → (T → Prop) → Prop) (d2 : DE) (d3 : DE) (P : PT1) (Ex : PT1) (t : T) (env : Env) : Prop := d2 env (kCh2 f f2 d3 P Ex t) Ex
theorem kCh1_w {f : List T → (T → Prop) → Prop} {f2 : List T → (T → Prop) → Prop} {d2 : DE} {d3 : DE} {P : PT1} {Ex : PT1} {t : T} {env : Env} : kCh1 f f2 d2 d3 P Ex t env = (d2 env (kCh2 f f2 d3 P Ex t) Ex) := (rfl)
theorem lz_chain {f : List T → (T → Prop) → Prop} {f2 : List T → (T → Prop) → Prop} {d1 : DE} {d2 : DE} {d3 : DE} {env : Env} {P : PT1} {Ex : PT1} : dChain f f2 d1 d2 d3 env P Ex = (d1 env (kCh1 f f2 d2 d3 P Ex) Ex) := by
  rw [dChain_eq]
  congr 1
  funext t1 env1
  rw [kCh1_w]
  congr 1
  funext t2 env2
  rw [kCh2_w]
  congr 1
  funext t
  rw [kCh3_w, asB_e]
  rfl
def kSl4 (ii : Int) (j : Int) (P : PT1) (env : Env) (t : T) : Prop := fSl (some ii) (some j) t (kOp3 P env)
theorem kSl4_w {ii : Int} {j : Int} {P : PT1} {env : Env} {t : T} : kSl4 ii j P env t = (fSl (some ii) (some j) t (kOp3 P env)) := (rfl)
def kSlv3 (ii : Int) (P : PT1) (t : T) (env : Env) (j : Int) : Prop := fSl (some ii) (some j) t (kOp3 P env)
theorem kSlv3_w {ii : Int} {P : PT1} {t : T} {env : Env} {j : Int} : kSlv3 ii P t env j = (fSl (some ii) (some j) t (kOp3 P env)) := (rfl)
def kSlv2 (ii : Int) (P : PT1) (t : T) (u : T) (env : Env) : Prop := asI u.fz (kSlv3 ii P t env)
theorem kSlv2_w {ii : Int} {P : PT1} {t : T} {u : T} {env : Env} : kSlv2 ii P t u env = (asI u.fz (kSlv3 ii P t env)) := (rfl)
def kSlv1 (d3 : DE) (P : PT1) (Ex : PT1) (t : T) (env : Env) (ii : Int) : Prop := d3 env (kSlv2 ii P t) Ex
theorem kSlv1_w {d3 : DE} {P : PT1} {Ex : PT1} {t : T} {env : Env} {ii : Int} : kSlv1 d3 P Ex t env ii = (d3 env (kSlv2 ii P t) Ex) := (rfl)
def kSlv0 (d3 : DE) (P : PT1) (Ex : PT1) (t : T) (u : T) (env : Env) : Prop := asI u.fz (kSlv1 d3 P Ex t env)
theorem kSlv0_w {d3 : DE} {P : PT1} {Ex : PT1} {t : T} {u : T} {env : Env} : kSlv0 d3 P Ex t u env = (asI u.fz (kSlv1 d3 P Ex t env)) := (rfl)
def kSlv (d2 : DE) (d3 : DE) (P : PT1) (Ex : PT1) (t : T) (env : Env) : Prop := d2 env (kSlv0 d3 P Ex t.fz) Ex
theorem kSlv_w {d2 : DE} {d3 : DE} {P : PT1} {Ex : PT1} {t : T} {env : Env} : kSlv d2 d3 P Ex t env = (d2 env (kSlv0 d3 P Ex t.fz) Ex) := (rfl)
theorem lz_sl11v {d1 : DE} {d2 : DE} {d3 : DE} {env : Env} {P : PT1} {Ex : PT1} : dSl11 (.v d1) d2 d3 env P Ex = (d1 env (kSlv d2 d3 P Ex) Ex) := by
  rw [dSl11_v]
  congr 1
  funext t env1
  rw [kSlv_w]
  congr 1
  funext u env2
  rw [kSlv0_w, asI_e]
  congr 1
  funext ii
  congr 1
  rw [kSlv1_w]
  congr 1
  funext w env3
  rw [kSlv2_w, asI_e]
  congr 1
  funext j
  congr 1
  apply propext
  constructor
  · rintro ⟨t', e, h⟩
    cases e
    exact h
  · exact fun h => ⟨_, rfl, h⟩
def kSlp3 (i : Nat) (ii : Int) (P : PT1) (env : Env) (j : Int) : Prop := rdE env[i]? (kSl4 ii j P env)
theorem kSlp3_w {i : Nat} {ii : Int} {P : PT1} {env : Env} {j : Int} : kSlp3 i ii P env j = (rdE env[i]? (kSl4 ii j P env)) := (rfl)
def kSlp2 (i : Nat) (ii : Int) (P : PT1) (u : T) (env : Env) : Prop := asI u.fz (kSlp3 i ii P env)
theorem kSlp2_w {i : Nat} {ii : Int} {P : PT1} {u : T} {env : Env} : kSlp2 i ii P u env = (asI u.fz (kSlp3 i ii P env)) := (rfl)
def kSlp1 (i : Nat) (d3 : DE) (P : PT1) (Ex : PT1) (env : Env) (ii : Int) : Prop := d3 env (kSlp2 i ii P) Ex
theorem kSlp1_w {i : Nat} {d3 : DE} {P : PT1} {Ex : PT1} {env : Env} {ii : Int} : kSlp1 i d3 P Ex env ii = (d3 env (kSlp2 i ii P) Ex) := (rfl)
def kSlp0 (i : Nat) (d3 : DE) (P : PT1) (Ex : PT1) (u : T) (env : Env) : Prop := asI u.fz (kSlp1 i d3 P Ex env)
theorem kSlp0_w {i : Nat} {d3 : DE} {P : PT1} {Ex : PT1} {u : T} {env : Env} : kSlp0 i d3 P Ex u env = (asI u.fz (kSlp1 i d3 P Ex env)) := (rfl)
theorem lz_sl11p {i : Nat} {d2 : DE} {d3 : DE} {env : Env} {P : PT1} {Ex : PT1} : dSl11 (.pk i) d2 d3 env P Ex = (isE env[i]? (d2 env (kSlp0 i d3 P Ex) Ex)) := by
  rw [dSl11_pk, isE_e]
  congr 2
  funext u env2
  rw [kSlp0_w, asI_e]
  congr 1
  funext ii
  congr 1
  rw [kSlp1_w]
  congr 1
  funext w env3
  rw [kSlp2_w, asI_e]
  congr 1
  funext j
  congr 1
  rw [kSlp3_w, ← rdT_r]
  rfl
def kXfH2 (K : PySem.W.Frag) (f : Str) (P : PT1) (env : Env) (C : Addr) (fs : List Str) (ts : List T) : Prop := XfC K C ∧ PySem.W.findIn K (.ref C) f = some none ∧ ∃ t, (fs.zip ts).lookup f = some t ∧ P t env
theorem kXfH2_w {K : PySem.W.Frag} {f : Str} {P : PT1} {env : Env} {C : Addr} {fs : List Str} {ts : List T} : kXfH2 K f P env C fs ts = (XfC K C ∧ PySem.W.findIn K (.ref C) f = some none ∧ ∃ t, (fs.zip ts).lookup f = some t ∧ P t env) := (rfl)
theorem asX_x {C : Addr} {fs : List Str} {ts : List T} {Q : Addr → List Str → List T → Prop} : asX (.nd false (.exc C fs) ts) Q = Q C fs ts := (rfl)
def kXfH (K : PySem.W.Frag) (fn : Str) (P : PT1) (t : T) (env : Env) : Prop := asX t (kXfH2 K fn P env)
theorem kXfH_w {K : PySem.W.Frag} {fn : Str} {P : PT1} {t : T} {env : Env} : kXfH K fn P t env = (asX t (kXfH2 K fn P env)) := (rfl)
theorem lz_xfH {K : PySem.W.Frag} {fn : Str} {de : DE} {env : Env} {P : PT1} {Ex : PT1} : dXfH K fn de env P Ex = (de env (kXfH K fn P) Ex) := (rfl)
def kT2 (QB : Bool → Env → Prop) (env : Env) (z : Bool) : Prop := QB z env
theorem kT2_w {QB : Bool → Env → Prop} {env : Env} {z : Bool} : kT2 QB env z = (QB z env) := (rfl)
def kT (QB : Bool → Env → Prop) (t : T) (env : Env) : Prop := asB t (kT2 QB env)
theorem kT_w {QB : Bool → Env → Prop} {t : T} {env : Env} : kT QB t env = (asB t (kT2 QB env)) := (rfl)
theorem lz_T {de : DE} {env : Env} {QB : Bool → Env → Prop} {Ex : PT1} : dT de env QB Ex = (de env (kT QB) Ex) := by
  unfold dT
  congr 1
  funext t env'
  rw [kT_w, asB_e]
  rfl
def kTr (QB : Bool → Env → Prop) (t : T) (env : Env) : Prop := asO t.tru (kT2 QB env)
theorem kTr_w {QB : Bool → Env → Prop} {t : T} {env : Env} : kTr QB t env = (asO t.tru (kT2 QB env)) := (rfl)
theorem lz_Tr {de : DE} {env : Env} {QB : Bool → Env → Prop} {Ex : PT1} : dTr de env QB Ex = (de env (kTr QB) Ex) := by
  unfold dTr
  congr 1
  funext t env'
  rw [kTr_w, asO_e]
  rfl
def kNot (QB : Bool → Env → Prop) (z : Bool) (env : Env) : Prop := QB (!z) env
theorem kNot_w {QB : Bool → Env → Prop} {z : Bool} {env : Env} : kNot QB z env = (QB (!z) env) := (rfl)
theorem lz_not {c : DB} {env : Env} {QB : Bool → Env → Prop} {Ex : PT1} : dNot c env QB Ex = (c env (kNot QB) Ex) := (rfl)
def kDB (c : DB) (QB : Bool → Env → Prop) (Ex : PT1) (env : Env) : Prop := c env QB Ex
theorem kDB_w {c : DB} {QB : Bool → Env → Prop} {Ex : PT1} {env : Env} : kDB c QB Ex env = (c env QB Ex) := (rfl)
def kBb (z : Bool) (QB : Bool → Env → Prop) (env : Env) : Prop := QB z env
theorem kBb_w {z : Bool} {QB : Bool → Env → Prop} {env : Env} : kBb z QB env = (QB z env) := (rfl)
def kAnd (c : DB) (QB : Bool → Env → Prop) (Ex : PT1) (z : Bool) (env : Env) : Prop := lzIfE z env (kDB c QB Ex) (kBb false QB)
theorem kAnd_w {c : DB} {QB : Bool → Env → Prop} {Ex : PT1} {z : Bool} {env : Env} : kAnd c QB Ex z env = (lzIfE z env (kDB c QB Ex) (kBb false QB)) := (rfl)
theorem lz_and {c1 : DB} {c2 : DB} {env : Env} {QB : Bool → Env → Prop} {Ex : PT1} : dAnd c1 c2 env QB Ex = (c1 env (kAnd c2 QB Ex) Ex) := (rfl)
def kOr (c : DB) (QB : Bool → Env → Prop) (Ex : PT1) (z : Bool) (env : Env) : Prop := lzIfE z env (kBb true QB) (kDB c QB Ex)
theorem kOr_w {c : DB} {QB : Bool → Env → Prop} {Ex : PT1} {z : Bool} {env : Env} : kOr c QB Ex z env = (lzIfE z env (kBb true QB) (kDB c QB Ex)) := (rfl)
theorem lz_or {c1 : DB} {c2 : DB} {env : Env} {QB : Bool → Env → Prop} {Ex : PT1} : dOr c1 c2 env QB Ex = (c1 env (kOr c2 QB Ex) Ex) := (rfl)
theorem lz_yes {env : Env} {QB : Bool → Env → Prop} {Ex : PT1} : dYes env QB Ex = (QB true env) := (rfl)
theorem lz_nil {env : Env} {Q : PLs} {Ex : PT1} : dNil env Q Ex = (Q [] env) := (rfl)
def kCons2 (t : T) (Q : PLs) (ts : List T) (env : Env) : Prop := Q (t :: ts) env
theorem kCons2_w {t : T} {Q : PLs} {ts : List T} {env : Env} : kCons2 t Q ts env = (Q (t :: ts) env) := (rfl)
def kCons (da : DA) (Q : PLs) (Ex : PT1) (t : T) (env : Env) : Prop := da env (kCons2 t Q) Ex
theorem kCons_w {da : DA} {Q : PLs} {Ex : PT1} {t : T} {env : Env} : kCons da Q Ex t env = (da env (kCons2 t Q) Ex) := (rfl)
theorem lz_cons {de : DE} {da : DA} {env : Env} {Q : PLs} {Ex : PT1} : dCons de da env Q Ex = (de env (kCons da Q Ex) Ex) := (rfl)
def kConsL2 (i : Nat) (ts : List T) (Q : PLs) (env : Env) (t : T) : Prop := Q (t :: ts) (env.set i none)
theorem kConsL2_w {i : Nat} {ts : List T} {Q : PLs} {env : Env} {t : T} : kConsL2 i ts Q env t = (Q (t :: ts) (env.set i none)) := (rfl)
def kConsL (i : Nat) (Q : PLs) (ts : List T) (env : Env) : Prop := rdE env[i]? (kConsL2 i ts Q env)
theorem kConsL_w {i : Nat} {Q : PLs} {ts : List T} {env : Env} : kConsL i Q ts env = (rdE env[i]? (kConsL2 i ts Q env)) := (rfl)
theorem lz_consL {i : Nat} {da : DA} {env : Env} {Q : PLs} {Ex : PT1} : dConsL i da env Q Ex = (isE env[i]? (da env (kConsL i Q) Ex)) := by
  unfold dConsL
  rw [isE_e]
  congr 2
  funext ts env'
  rw [kConsL_w, rdE_e]
  rfl
def kSnoc2 (ts : List T) (Q : PLs) (t : T) (env : Env) : Prop := Q (ts ++ [t]) env
theorem kSnoc2_w {ts : List T} {Q : PLs} {t : T} {env : Env} : kSnoc2 ts Q t env = (Q (ts ++ [t]) env) := (rfl)
def kSnoc (de : DE) (Q : PLs) (Ex : PT1) (ts : List T) (env : Env) : Prop := de env (kSnoc2 ts Q) Ex
theorem kSnoc_w {de : DE} {Q : PLs} {Ex : PT1} {ts : List T} {env : Env} : kSnoc de Q Ex ts env = (de env (kSnoc2 ts Q) Ex) := (rfl)
theorem lz_snoc {da : DA} {de : DE} {env : Env} {Q : PLs} {Ex : PT1} : dSnoc da de env Q Ex = (da env (kSnoc de Q Ex) Ex) := (rfl)
def kFld (C : Addr) (fn : Str) (P : PT1) (t : T) (env : Env) : Prop := insAt C fn t.fz (kOp3 P env)
theorem kFld_w {C : Addr} {fn : Str} {P : PT1} {t : T} {env : Env} : kFld C fn P t env = (insAt C fn t.fz (kOp3 P env)) := (rfl)
theorem lz_fld {C : Addr} {fn : Str} {de : DE} {env : Env} {P : PT1} {Ex : PT1} : dFld C fn de env P Ex = (de env (kFld C fn P) Ex) := (rfl)
def kFldS2 (P : PT1) (env : Env) (t : T) : Prop := t.fzd = true ∧ P t env
theorem kFldS2_w {P : PT1} {env : Env} {t : T} : kFldS2 P env t = (t.fzd = true ∧ P t env) := (rfl)
def kFldS (C : Addr) (fn : Str) (P : PT1) (env : Env) (t : T) : Prop := insAt C fn t (kFldS2 P env)
theorem kFldS_w {C : Addr} {fn : Str} {P : PT1} {env : Env} {t : T} : kFldS C fn P env t = (insAt C fn t (kFldS2 P env)) := (rfl)
theorem lz_fldS {i : Nat} {C : Addr} {fn : Str} {env : Env} {P : PT1} {Ex : PT1} : dFldS i C fn env P Ex = (rdE env[i]? (kFldS C fn P env)) := by
  unfold dFldS
  rw [rdE_e]
  rfl
def kOA3 (i : Nat) (t : T) (P : PT1) (env : Env) (u : T) : Prop := P u (env.set i (some t))
theorem kOA3_w {i : Nat} {t : T} {P : PT1} {env : Env} {u : T} : kOA3 i t P env u = (P u (env.set i (some t))) := (rfl)
def kOA2 (f : List T → (T → Prop) → Prop) (i : Nat) (t : T) (P : PT1) (u : T) (env : Env) (ts : List T) : Prop := f (u :: ts) (kOA3 i t P env)
theorem kOA2_w {f : List T → (T → Prop) → Prop} {i : Nat} {t : T} {P : PT1} {u : T} {env : Env} {ts : List T} : kOA2 f i t P u env ts = (f (u :: ts) (kOA3 i t P env)) := (rfl)
def kOA1 (f : List T → (T → Prop) → Prop) (i : Nat) (t : T) (P : PT1) (u : T) (rs : List Rdr) (env : Env) : Prop := rdA (rdAll env rs) (kOA2 f i t P u env)
theorem kOA1_w {f : List T → (T → Prop) → Prop} {i : Nat} {t : T} {P : PT1} {u : T} {rs : List Rdr} {env : Env} : kOA1 f i t P u rs env = (rdA (rdAll env rs) (kOA2 f i t P u env)) := (rfl)
def kOAx (i : Nat) (t : T) (Ex : PT1) (u : T) (env : Env) : Prop := Ex u (env.set i (some t))
theorem kOAx_w {i : Nat} {t : T} {Ex : PT1} {u : T} {env : Env} : kOAx i t Ex u env = (Ex u (env.set i (some t))) := (rfl)
def kOA0 (f : List T → (T → Prop) → Prop) (i : Nat) (os : List Od) (t : T) (P : PT1) (Ex : PT1) (env : Env) (u : T) : Prop := dLs os (env.set i none) (kOA1 f i t P u) (kOAx i t Ex)
theorem kOA0_w {f : List T → (T → Prop) → Prop} {i : Nat} {os : List Od} {t : T} {P : PT1} {Ex : PT1} {env : Env} {u : T} : kOA0 f i os t P Ex env u = (dLs os (env.set i none) (kOA1 f i t P u) (kOAx i t Ex)) := (rfl)
def kOA (f : List T → (T → Prop) → Prop) (i : Nat) (C : Addr) (fn : Str) (os : List Od) (P : PT1) (Ex : PT1) (env : Env) (t : T) : Prop := insAt C fn t (kOA0 f i os t P Ex env)
theorem kOA_w {f : List T → (T → Prop) → Prop} {i : Nat} {C : Addr} {fn : Str} {os : List Od} {P : PT1} {Ex : PT1} {env : Env} {t : T} : kOA f i C fn os P Ex env t = (insAt C fn t (kOA0 f i os t P Ex env)) := (rfl)
theorem lz_opA {f : List T → (T → Prop) → Prop} {i : Nat} {C : Addr} {fn : Str} {os : List Od} {env : Env} {P : PT1} {Ex : PT1} : dOpA f i C fn os env P Ex = (rdE env[i]? (kOA f i C fn os P Ex env)) := by
  unfold dOpA
  rw [rdE_e]
  congr 1
  funext t
  congr 1
  rw [kOA_w]
  congr 1
  funext u
  rw [kOA0_w]
  congr 1
  funext rs env2
  rw [kOA1_w, rdA_e]
  rfl
def kOB2 (f : List T → (T → Prop) → Prop) (t : T) (P : PT1) (env : Env) (u : T) : Prop := f [t, u] (kOp3 P env)
theorem kOB2_w {f : List T → (T → Prop) → Prop} {t : T} {P : PT1} {env : Env} {u : T} : kOB2 f t P env u = (f [t, u] (kOp3 P env)) := (rfl)
def kOB3 (f : List T → (T → Prop) → Prop) (C : Addr) (fn : Str) (P : PT1) (env : Env) (t : T) (u : T) : Prop := insAt C fn t (kOB2 f u P env)
theorem kOB3_w {f : List T → (T → Prop) → Prop} {C : Addr} {fn : Str} {P : PT1} {env : Env} {t : T} {u : T} : kOB3 f C fn P env t u = (insAt C fn t (kOB2 f u P env)) := (rfl)
def kOB1 (f : List T → (T → Prop) → Prop) (C : Addr) (fn : Str) (t : T) (P : PT1) (env : Env) (ts : List T) : Prop := as1T ts (kOB3 f C fn P env t)
theorem kOB1_w {f : List T → (T → Prop) → Prop} {C : Addr} {fn : Str} {t : T} {P : PT1} {env : Env} {ts : List T} : kOB1 f C fn t P env ts = (as1T ts (kOB3 f C fn P env t)) := (rfl)
def kOB0 (f : List T → (T → Prop) → Prop) (C : Addr) (fn : Str) (P : PT1) (env : Env) (rs : List Rdr) (t : T) : Prop := rdA (rdAll env rs) (kOB1 f C fn t P env)
theorem kOB0_w {f : List T → (T → Prop) → Prop} {C : Addr} {fn : Str} {P : PT1} {env : Env} {rs : List Rdr} {t : T} : kOB0 f C fn P env rs t = (rdA (rdAll env rs) (kOB1 f C fn t P env)) := (rfl)
def kOB (f : List T → (T → Prop) → Prop) (i : Nat) (C : Addr) (fn : Str) (P : PT1) (rs : List Rdr) (env : Env) : Prop := rdE env[i]? (kOB0 f C fn P env rs)
theorem kOB_w {f : List T → (T → Prop) → Prop} {i : Nat} {C : Addr} {fn : Str} {P : PT1} {rs : List Rdr} {env : Env} : kOB f i C fn P rs env = (rdE env[i]? (kOB0 f C fn P env rs)) := (rfl)
theorem lz_opB {f : List T → (T → Prop) → Prop} {oj : Od} {i : Nat} {C : Addr} {fn : Str} {env : Env} {P Ex : PT1} : dOpB f oj i C fn env P Ex = dLs [oj] env (kOB f i C fn P) Ex := by
  unfold dOpB
  congr 1
  funext rs env1
  rw [kOB_w, rdE_e]
  apply propext
  constructor
  · rintro ⟨t, t0, e1, e2, p⟩
    refine ⟨t, e1, ?_⟩
    rw [kOB0_w, rdA_e]
    exact ⟨_, e2, p⟩
  · rintro ⟨t, e1, p⟩
    rw [kOB0_w, rdA_e] at p
    obtain ⟨ts, e2, p⟩ := p
    rw [kOB1_w] at p
    match ts, p with
    | [t0], p => exact ⟨t, t0, e1, e2, p⟩
def kChk (C : Addr) (fn : Str) (P : PT1) (t : T) (env : Env) : Prop := insC C fn t ∧ P t env
theorem kChk_w {C : Addr} {fn : Str} {P : PT1} {t : T} {env : Env} : kChk C fn P t env = (insC C fn t ∧ P t env) := (rfl)
theorem lz_chk {C : Addr} {fn : Str} {de : DE} {env : Env} {P : PT1} {Ex : PT1} : dChk C fn de env P Ex = (de env (kChk C fn P) Ex) := (rfl)
def kCm1 (i : Nat) (C : Addr) (fn : Str) (da : DA) (Q : PLs) (Ex : PT1) (env : Env) (t : T) : Prop := insC C fn t ∧ da env (kConsL i Q) Ex
theorem kCm1_w {i : Nat} {C : Addr} {fn : Str} {da : DA} {Q : PLs} {Ex : PT1} {env : Env} {t : T} : kCm1 i C fn da Q Ex env t = (insC C fn t ∧ da env (kConsL i Q) Ex) := (rfl)
theorem lz_consM {i : Nat} {C : Addr} {fn : Str} {da : DA} {env : Env} {Q : PLs} {Ex : PT1} : dConsM i C fn da env Q Ex = (rdE env[i]? (kCm1 i C fn da Q Ex env)) := by
  unfold dConsM
  rw [rdE_e]
  have e : (fun ts env1 => ∃ t, env1[i]? = some (some t) ∧ Q (t :: ts) (env1.set i none)) = kConsL i Q := by
    funext ts env'
    rw [kConsL_w, rdE_e]
    rfl
  rw [e]
  apply propext
  constructor
  · rintro ⟨⟨t, a, b⟩, c⟩
    exact ⟨t, a, b, c⟩
  · rintro ⟨t, a, b, c⟩
    exact ⟨⟨t, a, b⟩, c⟩
def kMkR (P : PT1) (env : Env) (t : T) (outs : List T) : Prop := t = .lf .non ∧ ∃ u, outs = [u] ∧ P u env
theorem kMkR_n {P : PT1} {env : Env} {u : T} : kMkR P env (.lf .non) [u] = P u env := by
  apply propext
  constructor
  · rintro ⟨_, v, e, p⟩
    cases e
    exact p
  · exact fun p => ⟨rfl, u, rfl, p⟩
def kMkX (Ex : PT1) (env : Env) (t : T) (outs : List T) : Prop := Ex t env
theorem kMkX_n {Ex : PT1} {env : Env} {t : T} {outs : List T} : kMkX Ex env t outs = Ex t env := (rfl)
theorem insAt_1 {C : Addr} {f : Str} {o : Bool} {fs : List Str} {u : T} {ts : List T} {P : T → Prop} : insAt C f (.nd o (.ins C (f :: fs)) (u :: ts)) P = P u := by
  unfold insAt
  apply propext
  constructor
  · rintro ⟨_, p, v, e1, e2, h⟩
    have e1 : (if f = f then some 0 else (ixOf fs f).map (· + 1)) = some p := e1
    rw [if_pos rfl] at e1
    cases e1
    cases e2
    exact h
  · refine fun h => ⟨rfl, 0, u, ?_, rfl, h⟩
    show (if f = f then some 0 else (ixOf fs f).map (· + 1)) = some 0
    rw [if_pos rfl]
theorem insAt_n {C : Addr} {f : Str} {o : Bool} {fs : List Str} {ts : List T} {P : T → Prop} : insAt C f (.nd o (.ins C fs) ts) P = ∃ p u, ixOf fs f = some p ∧ ts[p]? = some u ∧ P u := by
  unfold insAt
  apply propext
  exact ⟨fun h => h.2, fun h => ⟨rfl, h⟩⟩
theorem insC_n {C : Addr} {f : Str} {o : Bool} {fs : List Str} {ts : List T} : insC C f (.nd o (.ins C fs) ts) = (ixOf fs f = none) := by
  unfold insC
  apply propext
  exact ⟨fun h => h.2, fun h => ⟨rfl, h⟩⟩
theorem chF_n {C : Addr} {f : Str} {fs : List Str} {xs : List T} {t : T} : chF C f (.ins C fs) xs t = ixOf fs f := if_pos rfl
def dpK (fs : List Str) (xs : List T) (f : Str) (t : T) (R : List Str → List T → Prop) : Prop := R (dp fs xs f t).1 (dp fs xs f t).2
theorem dpK_0 {f : Str} {t : T} {R : List Str → List T → Prop} : dpK [] [] f t R = R [f] [t] := (rfl)
theorem dpK_i {fs fs' : List Str} {xs xs' : List T} {f : Str} {t : T} {R : List Str → List T → Prop} (e : dp fs xs f t = (fs', xs')) (h : R fs' xs') : dpK fs xs f t R := by
  unfold dpK
  rw [e]
  exact h
def kPF (C : Addr) (R : T → Kd → List T → Prop) (fs : List Str) (xs : List T) : Prop := R (.lf .non) (.ins C fs) xs
theorem kPF_w {C : Addr} {R : T → Kd → List T → Prop} {fs : List Str} {xs : List T} : kPF C R fs xs = R (.lf .non) (.ins C fs) xs := (rfl)
theorem fPutF_n {C : Addr} {f : Str} {fs : List Str} {xs : List T} {t u : T} {R : T → Kd → List T → Prop} : fPutF C f (.ins C fs) xs [t, u] R = (fs.length < 1000 ∧ dpK fs xs f t (kPF C R)) := by
  unfold fPutF
  apply propext
  exact ⟨fun h => h.2, fun h => ⟨rfl, h⟩⟩
def kMk (C : Addr) (s : Spec) (P Ex : PT1) (ts : List T) (env : Env) : Prop := s (.nd true (.ins C []) [] :: ts) (kMkR P env) (kMkX Ex env)
theorem kMk_w {C : Addr} {s : Spec} {P Ex : PT1} {ts : List T} {env : Env} : kMk C s P Ex ts env = s (.nd true (.ins C []) [] :: ts) (kMkR P env) (kMkX Ex env) := (rfl)
theorem lz_make {C : Addr} {s : Spec} {da : DA} {P Ex : PT1} {env : Env} : dMake C s da env P Ex = da env (kMk C s P Ex) Ex := (rfl)
def kIsS (K : PySem.W.Frag) (a : Addr) (ex : T) (c : V) (P : PT1) (t : T) (env : Env) : Prop := t = .lf (.ref a) ∧ ∃ C fs ts u b, ex = .nd false (.exc C fs) ts ∧ ExcC K C ∧ clsU c = some u ∧ PySem.W.kitOne K (.ref C) u = some b ∧ P (.lf (.bl b)) env
theorem kIsS_n {K : PySem.W.Frag} {a C : Addr} {fs : List Str} {ts : List T} {c : V} {P : PT1} {env : Env} : kIsS K a (.nd false (.exc C fs) ts) c P (.lf (.ref a)) env = (ExcC K C ∧ ∃ u b, clsU c = some u ∧ PySem.W.kitOne K (.ref C) u = some b ∧ P (.lf (.bl b)) env) := by
  unfold kIsS
  apply propext
  constructor
  · rintro ⟨_, C', fs', ts', u, b, e, h1, h2, h3, h4⟩
    cases e
    exact ⟨h1, u, b, h2, h3, h4⟩
  · rintro ⟨h1, u, b, h2, h3, h4⟩
    exact ⟨rfl, C, fs, ts, u, b, rfl, h1, h2, h3, h4⟩
theorem lz_isS {K : PySem.W.Frag} {a : Addr} {ex : T} {c : V} {de : DE} {env : Env} {P Ex : PT1} : dIsS K a ex c de env P Ex = de env (kIsS K a ex c P) Ex := (rfl)
theorem fDIn_s {n o : Bool} {a : Str} {ks : List Key} {xs : List T} {P : T → Prop} : fDIn n [.lf (.str a), .nd o (.dk ks) xs] P = P (.lf (.bl (n ^^ (Tr.dg ks xs (.inr a)).isSome))) := by
  refine propext ⟨fun ⟨z, e, h⟩ => by cases e; exact h, fun h => ⟨_, rfl, h⟩⟩
theorem fDGet_s {o : Bool} {a : Str} {ks : List Key} {xs : List T} {P : T → Prop} : fDGet [.nd o (.dk ks) xs, .lf (.str a)] P = (∃ t, Tr.dg ks xs (.inr a) = some t ∧ t.fzd = true ∧ P t) := by
  refine propext ⟨fun ⟨t, e, h⟩ => ⟨t, Option.some.inj (show some (Tr.dg ks xs (.inr a)) = some (some t) from e), h⟩, fun ⟨t, e, h⟩ => ⟨t, by rw [show dval (.nd o (.dk ks) xs) (.lf (.str a)) = some (Tr.dg ks xs (.inr a)) from rfl, e], h⟩⟩
theorem fRevS_s {z : Str} {P : T → Prop} : fRevS [.lf (.str z)] P = (z.length ≤ sizeLine ∧ P (.lf (.str (revS z)))) := (rfl)
theorem fSIndex_s {a b : Str} {P : T → Prop} : fSIndex [.lf (.str a), .lf (.str b)] P = ∃ i rest, Builtin.Str.occurrences a b 0 a.length 1 = i :: rest ∧ P (.lf (.int (i : Nat))) := (rfl)
theorem lz_gset {i : Nat} {t : T} {env : Env} {E0 : Env → Prop} : gSet i t env E0 = (E0 (env.set i (some t))) := (rfl)
theorem lz_gsetF {i : Nat} {t : T} {env : Env} {E0 : Env → Prop} : gSetF i t env E0 = (E0 (env.set i (some t.fz))) := (rfl)
theorem lz_gsnil {env : Env} {E0 : Env → Prop} : gsNil [] env E0 = (E0 env) := by simp [gsNil]
def kGs (gs : DGs) (ts : List T) (Q : Env → Prop) (env : Env) : Prop := gs ts env Q
theorem kGs_w {gs : DGs} {ts : List T} {Q : Env → Prop} {env : Env} : kGs gs ts Q env = gs ts env Q := (rfl)
theorem lz_gscons {g : DG} {gs : DGs} {t : T} {ts : List T} {env : Env} {Q : Env → Prop} : gsCons g gs (t :: ts) env Q = g t env (kGs gs ts Q) := (rfl)
def kQ (Q : PLs) (env : Env) (ts : List T) : Prop := Q ts env
theorem kQ_w {Q : PLs} {env : Env} {ts : List T} : kQ Q env ts = (Q ts env) := (rfl)
def kItems (Q : PLs) (t : T) (env : Env) : Prop := asL t.fz (kQ Q env)
theorem kItems_w {Q : PLs} {t : T} {env : Env} : kItems Q t env = (asL t.fz (kQ Q env)) := (rfl)
theorem lz_items {de : DE} {env : Env} {Q : PLs} {Ex : PT1} : dItems de env Q Ex = (de env (kItems Q) Ex) := dItems_e _ _ _ _
def kItemsT (Q : PLs) (t : T) (env : Env) : Prop := asT t.fz (kQ Q env)
theorem kItemsT_w {Q : PLs} {t : T} {env : Env} : kItemsT Q t env = (asT t.fz (kQ Q env)) := (rfl)
theorem lz_itemsT {de : DE} {env : Env} {Q : PLs} {Ex : PT1} : dItemsT de env Q Ex = (de env (kItemsT Q) Ex) := dItemsT_e _ _ _ _
def kRng1b (Q : PLs) (env : Env) (j : Int) : Prop := (-(2 ^ 62) ≤ j ∧ j < 2 ^ 62) ∧ Q (irg 0 j.toNat) env
theorem kRng1b_w {Q : PLs} {env : Env} {j : Int} : kRng1b Q env j = ((-(2 ^ 62) ≤ j ∧ j < 2 ^ 62) ∧ Q (irg 0 j.toNat) env) := (rfl)
def kRng1 (Q : PLs) (ts : List T) (env : Env) : Prop := as1 ts (kRng1b Q env)
theorem kRng1_w {Q : PLs} {ts : List T} {env : Env} : kRng1 Q ts env = (as1 ts (kRng1b Q env)) := (rfl)
theorem lz_rng1 {da : DA} {env : Env} {Q : PLs} {Ex : PT1} : dRng1 da env Q Ex = (da env (kRng1 Q) Ex) := dRng1_e _ _ _ _
def kRng2b (Q : PLs) (env : Env) (ii : Int) (j : Int) : Prop := (-(2 ^ 62) ≤ ii ∧ ii < 2 ^ 62 ∧ -(2 ^ 62) ≤ j ∧ j < 2 ^ 62) ∧ Q (irg ii (j - ii).toNat) env
theorem kRng2b_w {Q : PLs} {env : Env} {ii : Int} {j : Int} : kRng2b Q env ii j = ((-(2 ^ 62) ≤ ii ∧ ii < 2 ^ 62 ∧ -(2 ^ 62) ≤ j ∧ j < 2 ^ 62) ∧ Q (irg ii (j - ii).toNat) env) := (rfl)
def kRng2 (Q : PLs) (ts : List T) (env : Env) : Prop := as2 ts (kRng2b Q env)
theorem kRng2_w {Q : PLs} {ts : List T} {env : Env} : kRng2 Q ts env = (as2 ts (kRng2b Q env)) := (rfl)
theorem lz_rng2 {da : DA} {env : Env} {Q : PLs} {Ex : PT1} : dRng2 da env Q Ex = (da env (kRng2 Q) Ex) := dRng2_e _ _ _ _
def kRng3b (Q : PLs) (env : Env) (i j c : Int) : Prop := ∃ n, RgC i j c n ∧ Q (irc i c n) env
theorem kRng3b_w {Q : PLs} {env : Env} {i j c : Int} : kRng3b Q env i j c = (∃ n, RgC i j c n ∧ Q (irc i c n) env) := (rfl)
theorem as3_i {i j c : Int} {Q : Int → Int → Int → Prop} : as3 [.lf (.int i), .lf (.int j), .lf (.int c)] Q = Q i j c := (rfl)
def kRng3 (Q : PLs) (ts : List T) (env : Env) : Prop := as3 ts (kRng3b Q env)
theorem kRng3_w {Q : PLs} {ts : List T} {env : Env} : kRng3 Q ts env = (as3 ts (kRng3b Q env)) := (rfl)
theorem lz_rng3 {da : DA} {env : Env} {Q : PLs} {Ex : PT1} : dRng3 da env Q Ex = (da env (kRng3 Q) Ex) := (rfl)
def kRngO (Q : PLs) (env : Env) (t : T) : Prop := asR t (kRng2b Q env)
theorem kRngO_w {Q : PLs} {env : Env} {t : T} : kRngO Q env t = (asR t (kRng2b Q env)) := (rfl)
theorem lz_rngO {n : Nat} {env : Env} {Q : PLs} {Ex : PT1} : dRngO (.pk n) env Q Ex = (rdE env[n]? (kRngO Q env)) := by
  rw [dRngO_pk, rdE_e]; rfl
def kZip3 (Q : PLs) (xs : List T) (env : Env) (ts : List T) : Prop := Q (zipF xs ts) env
theorem kZip3_w {Q : PLs} {xs : List T} {env : Env} {ts : List T} : kZip3 Q xs env ts = (Q (zipF xs ts) env) := (rfl)
def kZip2 (Q : PLs) (u : T) (env : Env) (ts : List T) : Prop := lsL u.fz (kZip3 Q ts env)
theorem kZip2_w {Q : PLs} {u : T} {env : Env} {ts : List T} : kZip2 Q u env ts = (lsL u.fz (kZip3 Q ts env)) := (rfl)
def kZip1 (Q : PLs) (env : Env) (t : T) (u : T) : Prop := lsL t.fz (kZip2 Q u env)
theorem kZip1_w {Q : PLs} {env : Env} {t : T} {u : T} : kZip1 Q env t u = (lsL t.fz (kZip2 Q u env)) := (rfl)
def kZip (Q : PLs) (ts : List T) (env : Env) : Prop := as2T ts (kZip1 Q env)
theorem kZip_w {Q : PLs} {ts : List T} {env : Env} : kZip Q ts env = (as2T ts (kZip1 Q env)) := (rfl)
theorem lz_zip {da : DA} {env : Env} {Q : PLs} {Ex : PT1} : dZip da env Q Ex = (da env (kZip Q) Ex) := dZip_e _ _ _ _
def kEn2 (Q : PLs) (env : Env) (ts : List T) : Prop := Q (enumF 0 ts) env
theorem kEn2_w {Q : PLs} {env : Env} {ts : List T} : kEn2 Q env ts = (Q (enumF 0 ts) env) := (rfl)
def kEn1 (Q : PLs) (env : Env) (t : T) : Prop := lsL t.fz (kEn2 Q env)
theorem kEn1_w {Q : PLs} {env : Env} {t : T} : kEn1 Q env t = (lsL t.fz (kEn2 Q env)) := (rfl)
def kEn (Q : PLs) (ts : List T) (env : Env) : Prop := as1T ts (kEn1 Q env)
theorem kEn_w {Q : PLs} {ts : List T} {env : Env} : kEn Q ts env = (as1T ts (kEn1 Q env)) := (rfl)
theorem lz_enum {da : DA} {env : Env} {Q : PLs} {Ex : PT1} : dEnum da env Q Ex = (da env (kEn Q) Ex) := dEnum_e _ _ _ _
def kKeys2 (Q : PLs) (env : Env) (ks : List Key) (xs : List T) : Prop := Q (ks.map keyT) env
theorem kKeys2_w {Q : PLs} {env : Env} {ks : List Key} {xs : List T} : kKeys2 Q env ks xs = (Q (ks.map keyT) env) := (rfl)
def kKeys (Q : PLs) (t : T) (env : Env) : Prop := asD t.fz (kKeys2 Q env)
theorem kKeys_w {Q : PLs} {t : T} {env : Env} : kKeys Q t env = (asD t.fz (kKeys2 Q env)) := (rfl)
theorem lz_keys {de : DE} {env : Env} {Q : PLs} {Ex : PT1} : dKeys de env Q Ex = (de env (kKeys Q) Ex) := by
  unfold dKeys
  congr 1
  funext t env'
  rw [kKeys_w, asD_e]
  rfl
theorem fInR_i {n o : Bool} {i lo hi : Int} {xs : List T} {P : T → Prop} : fInR n [.lf (.int i), .nd o (.rg lo hi) xs] P = P (.lf (.bl (n ^^ decide (lo ≤ i ∧ i < hi)))) := (rfl)
theorem fRev_l {o : Bool} {xs : List T} {P : T → Prop} : fRev [.nd o .lst xs] P = (ko o xs ∧ P (.nd true .lst xs.reverse)) := (rfl)
def kFa (i m : Nat) (DT : DEnds) (env : Env) : Kd → List T → Prop
  | .dk _, xs => (∀ x ∈ xs, ∃ ys, x = .nd true .lst ys ∧ ys.length < sizeLine) ∧ m < env.length ∧ DT.nx ((env.set i none).set m none)
  | _, _ => False
theorem kFa_w {i m : Nat} {DT : DEnds} {env : Env} {ks : List Key} {xs : List T} : kFa i m DT env (.dk ks) xs = ((∀ x ∈ xs, ∃ ys, x = .nd true .lst ys ∧ ys.length < sizeLine) ∧ m < env.length ∧ DT.nx ((env.set i none).set m none)) := (rfl)
theorem lz_forApp {i m : Nat} {DT : DEnds} {env : Env} : dForApp i m DT env = asM env[i]? (kFa i m DT env) := by
  unfold dForApp
  rw [asM_e]
  apply propext
  constructor
  · rintro ⟨ks, xs, e, p⟩
    exact ⟨_, xs, e, p⟩
  · rintro ⟨k, xs, e, p⟩
    cases k <;> first | exact ⟨_, xs, e, p⟩ | exact p.elim
theorem fVia_n {f0 : Kd → List T → T → Option Nat} {f : List T → (T → Prop) → Prop} {k : Kd} {xs ts : List T} {ti : T} {P : T → Prop} : fVia f0 f (.nd true k xs :: ti :: ts) P = (ti.fzd = true ∧ ∃ p t, f0 k xs ti = some p ∧ xs[p]? = some t ∧ f (t :: ts) P) := (rfl)
def kVia2 (f0 : Kd → List T → T → Option Nat) (f : List T → (T → Prop) → Prop) (P : PT1) (env : Env) (tm : T) : List T → Prop
  | [tx, tj] => fVia f0 f [tx, tj, tm] (kOp3 P env)
  | _ => False
theorem kVia2_w {f0 : Kd → List T → T → Option Nat} {f : List T → (T → Prop) → Prop} {P : PT1} {env : Env} {tm tx tj : T} : kVia2 f0 f P env tm [tx, tj] = fVia f0 f [tx, tj, tm] (kOp3 P env) := (rfl)
def kVia1 (f0 : Kd → List T → T → Option Nat) (f : List T → (T → Prop) → Prop) (P : PT1) (env : Env) (ts : List T) (tm : T) : Prop := kVia2 f0 f P env tm ts
theorem kVia1_w {f0 : Kd → List T → T → Option Nat} {f : List T → (T → Prop) → Prop} {P : PT1} {env : Env} {ts : List T} {tm : T} : kVia1 f0 f P env ts tm = kVia2 f0 f P env tm ts := (rfl)
def kVia0 (f0 : Kd → List T → T → Option Nat) (f : List T → (T → Prop) → Prop) (m : Nat) (P : PT1) (env : Env) (ts : List T) : Prop := rdE env[m]? (kVia1 f0 f P env ts)
theorem kVia0_w {f0 : Kd → List T → T → Option Nat} {f : List T → (T → Prop) → Prop} {m : Nat} {P : PT1} {env : Env} {ts : List T} : kVia0 f0 f m P env ts = rdE env[m]? (kVia1 f0 f P env ts) := (rfl)
def kVia (f0 : Kd → List T → T → Option Nat) (f : List T → (T → Prop) → Prop) (m : Nat) (P : PT1) (rs : List Rdr) (env : Env) : Prop := rdA (rdAll env rs) (kVia0 f0 f m P env)
theorem kVia_w {f0 : Kd → List T → T → Option Nat} {f : List T → (T → Prop) → Prop} {m : Nat} {P : PT1} {rs : List Rdr} {env : Env} : kVia f0 f m P rs env = rdA (rdAll env rs) (kVia0 f0 f m P env) := (rfl)
theorem lz_via {f0 : Kd → List T → T → Option Nat} {f : List T → (T → Prop) → Prop} {i m : Nat} {oj : Od} {env : Env} {P Ex : PT1} : dVia f0 f i oj m env P Ex = dLs [.pk i, oj] env (kVia f0 f m P) Ex := by
  unfold dVia
  congr 1
  funext rs env1
  rw [kVia_w, rdA_e]
  apply propext
  constructor
  · rintro ⟨tx, tj, tm, e1, e2, p⟩
    refine ⟨_, e1, ?_⟩
    rw [kVia0_w, rdE_e]
    exact ⟨tm, e2, p⟩
  · rintro ⟨ts, e1, p⟩
    rw [kVia0_w, rdE_e] at p
    obtain ⟨tm, e2, p⟩ := p
    rw [kVia1_w] at p
    match ts, p with
    | [tx, tj], p => exact ⟨tx, tj, tm, e1, e2, p⟩
theorem fKIn_s {n : Bool} {kvs : List (Str × Tv)} {z : Str} {P : T → Prop} : fKIn n kvs [.lf (.str z)] P = P (.lf (.bl (n ^^ (kvs.lookup z).isSome))) := (rfl)
theorem fKGet_s {kvs : List (Str × Tv)} {z : Str} {P : T → Prop} : fKGet kvs [.lf (.str z)] P = ∃ v, kvs.lookup z = some v ∧ P (tvT v) := (rfl)
theorem fLenS_t {o : Bool} {xs : List T} {P : T → Prop} : fLenS [.nd o .tup xs] P = ∃ ys : List Str, xs = ys.map (fun i => T.lf (.str i)) ∧ ys.length < 4000 ∧ P (.lf (.int (dd ys).length)) := (rfl)
theorem fLenS_l {o : Bool} {xs : List T} {P : T → Prop} : fLenS [.nd o .lst xs] P = ∃ ys : List Str, xs = ys.map (fun i => T.lf (.str i)) ∧ ys.length < 4000 ∧ P (.lf (.int (dd ys).length)) := (rfl)
def kParF (i j : Nat) (DT : DEnds) (ts : List T) (env : Env) : Prop := as2T ts fun t u => DT.nx ((env.set i (some t.fz)).set j (some u.fz))
theorem kParF_w {i j : Nat} {DT : DEnds} {ts : List T} {env : Env} : kParF i j DT ts env = as2T ts fun t u => DT.nx ((env.set i (some t.fz)).set j (some u.fz)) := (rfl)
theorem lz_parF {i j : Nat} {da : DA} {DT : DEnds} {env : Env} : dParF i j da DT env = da env (kParF i j DT) DT.ex := by
  unfold dParF
  congr 1
  funext ts env1
  rw [kParF_w]
  apply propext
  constructor
  · rintro ⟨t, u, rfl, p⟩
    exact p
  · intro p
    match ts, p with
    | [t, u], p => exact ⟨t, u, rfl, p⟩
def tupL : T → (List T → Prop) → Prop
  | .nd _ .tup xs, P => P xs
  | .nd _ .tpk xs, P => P xs
  | _, _ => False
theorem tupL_t {o : Bool} {xs : List T} {P : List T → Prop} : tupL (.nd o .tup xs) P = P xs := (rfl)
theorem tupL_k {o : Bool} {xs : List T} {P : List T → Prop} : tupL (.nd o .tpk xs) P = P xs := (rfl)
theorem tupL_e (Q : List T → Prop) (t : T) : tupL t Q = ∃ xs, tupOf t = some xs ∧ Q xs := by
  apply propext
  constructor
  · intro h
    cases t with
    | lf v => exact h.elim
    | nd o k xs => cases k <;> first | exact ⟨xs, rfl, h⟩ | exact h.elim
  · rintro ⟨xs, e, h⟩
    cases t with
    | lf v => cases e
    | nd o k ys => cases k <;> first | (cases e; exact h) | cases e
def kZipT3 (Q : PLs) (xs : List T) (env : Env) (ts : List T) : Prop := Q (zipF xs ts) env
theorem kZipT3_w {Q : PLs} {xs : List T} {env : Env} {ts : List T} : kZipT3 Q xs env ts = (Q (zipF xs ts) env) := (rfl)
def kZipT2 (Q : PLs) (u : T) (env : Env) (ts : List T) : Prop := tupL u.fz (kZipT3 Q ts env)
theorem kZipT2_w {Q : PLs} {u : T} {env : Env} {ts : List T} : kZipT2 Q u env ts = (tupL u.fz (kZipT3 Q ts env)) := (rfl)
def kZipT1 (Q : PLs) (env : Env) (t : T) (u : T) : Prop := tupL t.fz (kZipT2 Q u env)
theorem kZipT1_w {Q : PLs} {env : Env} {t : T} {u : T} : kZipT1 Q env t u = (tupL t.fz (kZipT2 Q u env)) := (rfl)
def kZipT (Q : PLs) (ts : List T) (env : Env) : Prop := as2T ts (kZipT1 Q env)
theorem kZipT_w {Q : PLs} {ts : List T} {env : Env} : kZipT Q ts env = (as2T ts (kZipT1 Q env)) := (rfl)
theorem lz_zipT {da : DA} {env : Env} {Q : PLs} {Ex : PT1} : dZipT da env Q Ex = (da env (kZipT Q) Ex) := by
  unfold dZipT
  congr 1
  funext ts env'
  rw [kZipT_w]
  apply propext
  constructor
  · rintro ⟨t, u, xs, ys, rfl, e1, e2, p⟩
    show tupL t.fz (kZipT2 Q u env')
    rw [tupL_e]
    refine ⟨xs, e1, ?_⟩
    rw [kZipT2_w, tupL_e]
    exact ⟨ys, e2, p⟩
  · intro p
    match ts, p with
    | [t, u], p =>
      have p : tupL t.fz (kZipT2 Q u env') := p
      rw [tupL_e] at p
      obtain ⟨xs, e1, p⟩ := p
      rw [kZipT2_w, tupL_e] at p
      obtain ⟨ys, e2, p⟩ := p
      exact ⟨t, u, xs, ys, rfl, e1, e2, p⟩
def kCha2 (Q : PLs) (env : Env) (zs : Str) : Prop := Q (zs.cps.toList.map strAt) env
theorem kCha2_w {Q : PLs} {env : Env} {zs : Str} : kCha2 Q env zs = (Q (zs.cps.toList.map strAt) env) := (rfl)
def kCha (Q : PLs) (t : T) (env : Env) : Prop := asS t (kCha2 Q env)
theorem kCha_w {Q : PLs} {t : T} {env : Env} : kCha Q t env = (asS t (kCha2 Q env)) := (rfl)
theorem lz_chars {de : DE} {env : Env} {Q : PLs} {Ex : PT1} : dChars de env Q Ex = (de env (kCha Q) Ex) := by
  unfold dChars
  congr 1
  funext t env'
  rw [kCha_w, asS_e]
  rfl
end
section
variable {K : PySem.W.Frag} {env : Env}
theorem w_rdE {t : T} {F : T → Prop} : rdE (some (some t)) F = F t := (rfl)
theorem w_rdA {t : List T} {F : List T → Prop} : rdA (some t) F = F t := (rfl)
theorem w_asB {c : Bool} {F : Bool → Prop} : asB (.lf (.bl c)) F = F c := (rfl)
theorem w_asO {α : Type} {t : α} {F : α → Prop} : asO (some t) F = F t := (rfl)
theorem w_asI {j : Int} {F : Int → Prop} : asI (.lf (.int j)) F = F j := (rfl)
theorem w_asS {z : Str} {F : Str → Prop} : asS (.lf (.str z)) F = F z := (rfl)
theorem w_asD {ks : List Key} {xs : List T} {F : List Key → List T → Prop} : asD (.nd false (.dk ks) xs) F = F ks xs := (rfl)
theorem w_asRef {a b : Addr} {F : Prop} : asRef (.lf (.ref a)) b F = (a = b ∧ F) := (rfl)
theorem w_ifET {e : Env} {A B : Env → Prop} : lzIfE true e A B = A e := if_pos rfl
theorem w_ifEF {e : Env} {A B : Env → Prop} : lzIfE false e A B = B e := if_neg (by simp)
theorem w_isE {t : T} {P : Prop} : isE (some (some t)) P = P := (rfl)
theorem w_isM {k : Kd} {xs : List T} {n : String} {P : Prop} : isM (some (some (.nd true k xs))) n P = (kindOf k = n ∧ P) := (rfl)
/-- what a thing is -/
theorem fIs1_of {t : T} {n c : String} {F : T → Prop} (h : t.tyn = some n) (hc : c ∈ ["bool", "int", "str", "list", "tuple", "dict"]) : fIs1 K [t, .lf (.ty c)] F = F (bT (kitN n c)) := by
  apply propext
  constructor
  · rintro ⟨tv, u, b, h1, h2, h3, h4, h5⟩
    obtain ⟨g1, _⟩ := tyV_of (K := K) h
    rw [g1] at h1
    cases h1
    cases h3
    have := kit_ty (K := K) (kit_names hc (tyn_names h))
    rw [show PySem.W.kitOne K (Value.type n) (Value.type c) = some (kitN n c) from this] at h4
    cases h4
    exact h5
  · exact is_ty h hc
theorem fIsLT_of {t : T} {n : String} {F : T → Prop} (h : t.tyn = some n) : fIs K [.type "list", .type "tuple"] [t] F = F (bT (kitN n "list" || kitN n "tuple")) := by
  apply propext
  constructor
  · rintro ⟨tv, b, h1, h2, h4, h5⟩
    obtain ⟨g1, _⟩ := tyV_of (K := K) h
    rw [g1] at h1
    cases h1
    rw [kitAny_two (K := K) (tyn_names h) (by decide) (by decide)] at h4
    cases h4
    exact h5
  · exact is_lt h
theorem is_non_bool  {F : T → Prop} : fIs1 K [(.lf .non), .lf (.ty "bool")] F = F (bT false) := fIs1_of (n := "NoneType") (c := "bool") rfl (by decide)
theorem is_non_int  {F : T → Prop} : fIs1 K [(.lf .non), .lf (.ty "int")] F = F (bT false) := fIs1_of (n := "NoneType") (c := "int") rfl (by decide)
theorem is_non_str  {F : T → Prop} : fIs1 K [(.lf .non), .lf (.ty "str")] F = F (bT false) := fIs1_of (n := "NoneType") (c := "str") rfl (by decide)
theorem is_non_list  {F : T → Prop} : fIs1 K [(.lf .non), .lf (.ty "list")] F = F (bT false) := fIs1_of (n := "NoneType") (c := "list") rfl (by decide)
theorem is_non_tuple  {F : T → Prop} : fIs1 K [(.lf .non), .lf (.ty "tuple")] F = F (bT false) := fIs1_of (n := "NoneType") (c := "tuple") rfl (by decide)
theorem is_non_dict  {F : T → Prop} : fIs1 K [(.lf .non), .lf (.ty "dict")] F = F (bT false) := fIs1_of (n := "NoneType") (c := "dict") rfl (by decide)
theorem isLT_non  {F : T → Prop} : fIs K [.type "list", .type "tuple"] [(.lf .non)] F = F (bT false) := fIsLT_of (n := "NoneType") rfl
theorem is_bl_bool {x : Bool} {F : T → Prop} : fIs1 K [(.lf (.bl x)), .lf (.ty "bool")] F = F (bT true) := fIs1_of (n := "bool") (c := "bool") rfl (by decide)
theorem is_bl_int {x : Bool} {F : T → Prop} : fIs1 K [(.lf (.bl x)), .lf (.ty "int")] F = F (bT true) := fIs1_of (n := "bool") (c := "int") rfl (by decide)
theorem is_bl_str {x : Bool} {F : T → Prop} : fIs1 K [(.lf (.bl x)), .lf (.ty "str")] F = F (bT false) := fIs1_of (n := "bool") (c := "str") rfl (by decide)
theorem is_bl_list {x : Bool} {F : T → Prop} : fIs1 K [(.lf (.bl x)), .lf (.ty "list")] F = F (bT false) := fIs1_of (n := "bool") (c := "list") rfl (by decide)
theorem is_bl_tuple {x : Bool} {F : T → Prop} : fIs1 K [(.lf (.bl x)), .lf (.ty "tuple")] F = F (bT false) := fIs1_of (n := "bool") (c := "tuple") rfl (by decide)
theorem is_bl_dict {x : Bool} {F : T → Prop} : fIs1 K [(.lf (.bl x)), .lf (.ty "dict")] F = F (bT false) := fIs1_of (n := "bool") (c := "dict") rfl (by decide)
theorem isLT_bl {x : Bool} {F : T → Prop} : fIs K [.type "list", .type "tuple"] [(.lf (.bl x))] F = F (bT false) := fIsLT_of (n := "bool") rfl
theorem is_int_bool {x : Int} {F : T → Prop} : fIs1 K [(.lf (.int x)), .lf (.ty "bool")] F = F (bT false) := fIs1_of (n := "int") (c := "bool") rfl (by decide)
theorem is_int_int {x : Int} {F : T → Prop} : fIs1 K [(.lf (.int x)), .lf (.ty "int")] F = F (bT true) := fIs1_of (n := "int") (c := "int") rfl (by decide)
theorem is_int_str {x : Int} {F : T → Prop} : fIs1 K [(.lf (.int x)), .lf (.ty "str")] F = F (bT false) := fIs1_of (n := "int") (c := "str") rfl (by decide)
theorem is_int_list {x : Int} {F : T → Prop} : fIs1 K [(.lf (.int x)), .lf (.ty "list")] F = F (bT false) := fIs1_of (n := "int") (c := "list") rfl (by decide)
theorem is_int_tuple {x : Int} {F : T → Prop} : fIs1 K [(.lf (.int x)), .lf (.ty "tuple")] F = F (bT false) := fIs1_of (n := "int") (c := "tuple") rfl (by decide)
theorem is_int_dict {x : Int} {F : T → Prop} : fIs1 K [(.lf (.int x)), .lf (.ty "dict")] F = F (bT false) := fIs1_of (n := "int") (c := "dict") rfl (by decide)
theorem isLT_int {x : Int} {F : T → Prop} : fIs K [.type "list", .type "tuple"] [(.lf (.int x))] F = F (bT false) := fIsLT_of (n := "int") rfl
theorem is_str_bool {x : Str} {F : T → Prop} : fIs1 K [(.lf (.str x)), .lf (.ty "bool")] F = F (bT false) := fIs1_of (n := "str") (c := "bool") rfl (by decide)
theorem is_str_int {x : Str} {F : T → Prop} : fIs1 K [(.lf (.str x)), .lf (.ty "int")] F = F (bT false) := fIs1_of (n := "str") (c := "int") rfl (by decide)
theorem is_str_str {x : Str} {F : T → Prop} : fIs1 K [(.lf (.str x)), .lf (.ty "str")] F = F (bT true) := fIs1_of (n := "str") (c := "str") rfl (by decide)
theorem is_str_list {x : Str} {F : T → Prop} : fIs1 K [(.lf (.str x)), .lf (.ty "list")] F = F (bT false) := fIs1_of (n := "str") (c := "list") rfl (by decide)
theorem is_str_tuple {x : Str} {F : T → Prop} : fIs1 K [(.lf (.str x)), .lf (.ty "tuple")] F = F (bT false) := fIs1_of (n := "str") (c := "tuple") rfl (by decide)
theorem is_str_dict {x : Str} {F : T → Prop} : fIs1 K [(.lf (.str x)), .lf (.ty "dict")] F = F (bT false) := fIs1_of (n := "str") (c := "dict") rfl (by decide)
theorem isLT_str {x : Str} {F : T → Prop} : fIs K [.type "list", .type "tuple"] [(.lf (.str x))] F = F (bT false) := fIsLT_of (n := "str") rfl
theorem is_lst_bool {o : Bool} {xs : List T} {F : T → Prop} : fIs1 K [(.nd o .lst xs), .lf (.ty "bool")] F = F (bT false) := fIs1_of (n := "list") (c := "bool") rfl (by decide)
theorem is_lst_int {o : Bool} {xs : List T} {F : T → Prop} : fIs1 K [(.nd o .lst xs), .lf (.ty "int")] F = F (bT false) := fIs1_of (n := "list") (c := "int") rfl (by decide)
theorem is_lst_str {o : Bool} {xs : List T} {F : T → Prop} : fIs1 K [(.nd o .lst xs), .lf (.ty "str")] F = F (bT false) := fIs1_of (n := "list") (c := "str") rfl (by decide)
theorem is_lst_list {o : Bool} {xs : List T} {F : T → Prop} : fIs1 K [(.nd o .lst xs), .lf (.ty "list")] F = F (bT true) := fIs1_of (n := "list") (c := "list") rfl (by decide)
theorem is_lst_tuple {o : Bool} {xs : List T} {F : T → Prop} : fIs1 K [(.nd o .lst xs), .lf (.ty "tuple")] F = F (bT false) := fIs1_of (n := "list") (c := "tuple") rfl (by decide)
theorem is_lst_dict {o : Bool} {xs : List T} {F : T → Prop} : fIs1 K [(.nd o .lst xs), .lf (.ty "dict")] F = F (bT false) := fIs1_of (n := "list") (c := "dict") rfl (by decide)
theorem isLT_lst {o : Bool} {xs : List T} {F : T → Prop} : fIs K [.type "list", .type "tuple"] [(.nd o .lst xs)] F = F (bT true) := fIsLT_of (n := "list") rfl
theorem is_tup_bool {o : Bool} {xs : List T} {F : T → Prop} : fIs1 K [(.nd o .tup xs), .lf (.ty "bool")] F = F (bT false) := fIs1_of (n := "tuple") (c := "bool") rfl (by decide)
theorem is_tup_int {o : Bool} {xs : List T} {F : T → Prop} : fIs1 K [(.nd o .tup xs), .lf (.ty "int")] F = F (bT false) := fIs1_of (n := "tuple") (c := "int") rfl (by decide)
theorem is_tup_str {o : Bool} {xs : List T} {F : T → Prop} : fIs1 K [(.nd o .tup xs), .lf (.ty "str")] F = F (bT false) := fIs1_of (n := "tuple") (c := "str") rfl (by decide)
theorem is_tup_list {o : Bool} {xs : List T} {F : T → Prop} : fIs1 K [(.nd o .tup xs), .lf (.ty "list")] F = F (bT false) := fIs1_of (n := "tuple") (c := "list") rfl (by decide)
theorem is_tup_tuple {o : Bool} {xs : List T} {F : T → Prop} : fIs1 K [(.nd o .tup xs), .lf (.ty "tuple")] F = F (bT true) := fIs1_of (n := "tuple") (c := "tuple") rfl (by decide)
theorem is_tup_dict {o : Bool} {xs : List T} {F : T → Prop} : fIs1 K [(.nd o .tup xs), .lf (.ty "dict")] F = F (bT false) := fIs1_of (n := "tuple") (c := "dict") rfl (by decide)
theorem isLT_tup {o : Bool} {xs : List T} {F : T → Prop} : fIs K [.type "list", .type "tuple"] [(.nd o .tup xs)] F = F (bT true) := fIsLT_of (n := "tuple") rfl
theorem is_tpk_bool {o : Bool} {xs : List T} {F : T → Prop} : fIs1 K [(.nd o .tpk xs), .lf (.ty "bool")] F = F (bT false) := fIs1_of (n := "tuple") (c := "bool") rfl (by decide)
theorem is_tpk_int {o : Bool} {xs : List T} {F : T → Prop} : fIs1 K [(.nd o .tpk xs), .lf (.ty "int")] F = F (bT false) := fIs1_of (n := "tuple") (c := "int") rfl (by decide)
theorem is_tpk_str {o : Bool} {xs : List T} {F : T → Prop} : fIs1 K [(.nd o .tpk xs), .lf (.ty "str")] F = F (bT false) := fIs1_of (n := "tuple") (c := "str") rfl (by decide)
theorem is_tpk_list {o : Bool} {xs : List T} {F : T → Prop} : fIs1 K [(.nd o .tpk xs), .lf (.ty "list")] F = F (bT false) := fIs1_of (n := "tuple") (c := "list") rfl (by decide)
theorem is_tpk_tuple {o : Bool} {xs : List T} {F : T → Prop} : fIs1 K [(.nd o .tpk xs), .lf (.ty "tuple")] F = F (bT true) := fIs1_of (n := "tuple") (c := "tuple") rfl (by decide)
theorem is_tpk_dict {o : Bool} {xs : List T} {F : T → Prop} : fIs1 K [(.nd o .tpk xs), .lf (.ty "dict")] F = F (bT false) := fIs1_of (n := "tuple") (c := "dict") rfl (by decide)
theorem isLT_tpk {o : Bool} {xs : List T} {F : T → Prop} : fIs K [.type "list", .type "tuple"] [(.nd o .tpk xs)] F = F (bT true) := fIsLT_of (n := "tuple") rfl
theorem is_dk_bool {o : Bool} {xs : List T} {ks : List Key} {F : T → Prop} : fIs1 K [(.nd o (.dk ks) xs), .lf (.ty "bool")] F = F (bT false) := fIs1_of (n := "dict") (c := "bool") rfl (by decide)
theorem is_dk_int {o : Bool} {xs : List T} {ks : List Key} {F : T → Prop} : fIs1 K [(.nd o (.dk ks) xs), .lf (.ty "int")] F = F (bT false) := fIs1_of (n := "dict") (c := "int") rfl (by decide)
theorem is_dk_str {o : Bool} {xs : List T} {ks : List Key} {F : T → Prop} : fIs1 K [(.nd o (.dk ks) xs), .lf (.ty "str")] F = F (bT false) := fIs1_of (n := "dict") (c := "str") rfl (by decide)
theorem is_dk_list {o : Bool} {xs : List T} {ks : List Key} {F : T → Prop} : fIs1 K [(.nd o (.dk ks) xs), .lf (.ty "list")] F = F (bT false) := fIs1_of (n := "dict") (c := "list") rfl (by decide)
theorem is_dk_tuple {o : Bool} {xs : List T} {ks : List Key} {F : T → Prop} : fIs1 K [(.nd o (.dk ks) xs), .lf (.ty "tuple")] F = F (bT false) := fIs1_of (n := "dict") (c := "tuple") rfl (by decide)
theorem is_dk_dict {o : Bool} {xs : List T} {ks : List Key} {F : T → Prop} : fIs1 K [(.nd o (.dk ks) xs), .lf (.ty "dict")] F = F (bT true) := fIs1_of (n := "dict") (c := "dict") rfl (by decide)
theorem isLT_dk {o : Bool} {xs : List T} {ks : List Key} {F : T → Prop} : fIs K [.type "list", .type "tuple"] [(.nd o (.dk ks) xs)] F = F (bT false) := fIsLT_of (n := "dict") rfl
theorem eqv_of {x y : T} {d e : PyData} {P : T → Prop} (h1 : x.py = some d) (h2 : y.py = some e) (s1 : SeqAt.shaped d = true) (s2 : SeqAt.shaped e = true) : fEq [x, y] P = P (bT (d.eqv e)) := by
  apply propext
  constructor
  · rintro ⟨d', e', g1, g2, _, _, p⟩
    rw [h1] at g1; rw [h2] at g2
    cases g1; cases g2; exact p
  · exact fun p => ⟨d, e, h1, h2, s1, s2, p⟩
theorem neqv_of {x y : T} {d e : PyData} {P : T → Prop} (h1 : x.py = some d) (h2 : y.py = some e) (s1 : SeqAt.shaped d = true) (s2 : SeqAt.shaped e = true) : fNe [x, y] P = P (bT (!d.eqv e)) := by
  apply propext
  constructor
  · rintro ⟨d', e', g1, g2, _, _, p⟩
    rw [h1] at g1; rw [h2] at g2
    cases g1; cases g2; exact p
  · exact fun p => ⟨d, e, h1, h2, s1, s2, p⟩
theorem eqT_of {b : Bool} {n m : Nat} {x y : T} {d e : PyData} {P : T → Prop} (h1 : Dat n x d) (h2 : Dat m y e) (hn : n ≤ 64 := by decide) (hm : m ≤ 64 := by decide) : fEqT b [x, y] P = P (bT (b ^^ d.eqv e)) := by
  have key : (∃ d e, x.py = some d ∧ y.py = some e ∧ SeqAt.shaped d = true ∧ SeqAt.shaped e = true ∧ P (.lf (.bl (b ^^ d.eqv e)))) = P (bT (b ^^ d.eqv e)) := by
    apply propext
    constructor
    · rintro ⟨d', e', g1, g2, _, _, p⟩
      rw [h1.ok.1] at g1; rw [h2.ok.1] at g2
      cases g1; cases g2; exact p
    · exact fun p => ⟨d, e, h1.ok.1, h2.ok.1, h1.sh hn, h2.sh hm, p⟩
  cases h1 <;> exact key
theorem eqTD {n m : Nat} {b : Bool} {t u : T} {d e : PyData} {P : T → Prop} (h1 : Dat n t d) (h2 : Dat m u e) (p : P (bT (b ^^ d.eqv e))) (hn : n ≤ 64 := by decide) (hm : m ≤ 64 := by decide) : fEqT b [t, u] P := by rw [eqT_of h1 h2 hn hm]; exact p
theorem fEq_ii {u : Int} {v : Int} {F : T → Prop} : fEq [(.lf (.int u)), (.lf (.int v))] F = F (bT (u == v)) := eqv_of (d := (.int u)) (e := (.int v)) (Dat.ok (n := 0) (.int _)).1 (Dat.ok (n := 0) (.int _)).1 (Dat.sh (n := 0) (.int _) (by decide)) (Dat.sh (n := 0) (.int _) (by decide))
theorem fNe_ii {u : Int} {v : Int} {F : T → Prop} : fNe [(.lf (.int u)), (.lf (.int v))] F = F (bT (!(u == v))) := neqv_of (d := (.int u)) (e := (.int v)) (Dat.ok (n := 0) (.int _)).1 (Dat.ok (n := 0) (.int _)).1 (Dat.sh (n := 0) (.int _) (by decide)) (Dat.sh (n := 0) (.int _) (by decide))
theorem fEqT_ii_true {u : Int} {v : Int} {F : T → Prop} : fEqT true [(.lf (.int u)), (.lf (.int v))] F = F (bT (!(u == v))) := (eqT_of (n := 0) (m := 0) (d := (.int u)) (e := (.int v)) (.int _) (.int _)).trans (congrArg F (congrArg bT (by simp [PyData.eqv])))
theorem fEqT_ii_false {u : Int} {v : Int} {F : T → Prop} : fEqT false [(.lf (.int u)), (.lf (.int v))] F = F (bT (u == v)) := (eqT_of (n := 0) (m := 0) (d := (.int u)) (e := (.int v)) (.int _) (.int _)).trans (congrArg F (congrArg bT (by simp [PyData.eqv])))
theorem fEq_in {u : Int} {F : T → Prop} : fEq [(.lf (.int u)), (.lf .non)] F = F (bT false) := eqv_of (d := (.int u)) (e := (.none)) (Dat.ok (n := 0) (.int _)).1 (Dat.ok (n := 0) (.non)).1 (Dat.sh (n := 0) (.int _) (by decide)) (Dat.sh (n := 0) (.non) (by decide))
theorem fNe_in {u : Int} {F : T → Prop} : fNe [(.lf (.int u)), (.lf .non)] F = F (bT true) := neqv_of (d := (.int u)) (e := (.none)) (Dat.ok (n := 0) (.int _)).1 (Dat.ok (n := 0) (.non)).1 (Dat.sh (n := 0) (.int _) (by decide)) (Dat.sh (n := 0) (.non) (by decide))
theorem fEqT_in_true {u : Int} {F : T → Prop} : fEqT true [(.lf (.int u)), (.lf .non)] F = F (bT true) := (eqT_of (n := 0) (m := 0) (d := (.int u)) (e := (.none)) (.int _) (.non)).trans (congrArg F (congrArg bT (by simp [PyData.eqv])))
theorem fEqT_in_false {u : Int} {F : T → Prop} : fEqT false [(.lf (.int u)), (.lf .non)] F = F (bT false) := (eqT_of (n := 0) (m := 0) (d := (.int u)) (e := (.none)) (.int _) (.non)).trans (congrArg F (congrArg bT (by simp [PyData.eqv])))
theorem fEq_bb {u : Bool} {v : Bool} {F : T → Prop} : fEq [(.lf (.bl u)), (.lf (.bl v))] F = F (bT (u == v)) := eqv_of (d := (.bool u)) (e := (.bool v)) (Dat.ok (n := 0) (.bl _)).1 (Dat.ok (n := 0) (.bl _)).1 (Dat.sh (n := 0) (.bl _) (by decide)) (Dat.sh (n := 0) (.bl _) (by decide))
theorem fNe_bb {u : Bool} {v : Bool} {F : T → Prop} : fNe [(.lf (.bl u)), (.lf (.bl v))] F = F (bT (!(u == v))) := neqv_of (d := (.bool u)) (e := (.bool v)) (Dat.ok (n := 0) (.bl _)).1 (Dat.ok (n := 0) (.bl _)).1 (Dat.sh (n := 0) (.bl _) (by decide)) (Dat.sh (n := 0) (.bl _) (by decide))
theorem fEqT_bb_true {u : Bool} {v : Bool} {F : T → Prop} : fEqT true [(.lf (.bl u)), (.lf (.bl v))] F = F (bT (!(u == v))) := (eqT_of (n := 0) (m := 0) (d := (.bool u)) (e := (.bool v)) (.bl _) (.bl _)).trans (congrArg F (congrArg bT (by simp [PyData.eqv])))
theorem fEqT_bb_false {u : Bool} {v : Bool} {F : T → Prop} : fEqT false [(.lf (.bl u)), (.lf (.bl v))] F = F (bT (u == v)) := (eqT_of (n := 0) (m := 0) (d := (.bool u)) (e := (.bool v)) (.bl _) (.bl _)).trans (congrArg F (congrArg bT (by simp [PyData.eqv])))
theorem fEq_bn {u : Bool} {F : T → Prop} : fEq [(.lf (.bl u)), (.lf .non)] F = F (bT false) := eqv_of (d := (.bool u)) (e := (.none)) (Dat.ok (n := 0) (.bl _)).1 (Dat.ok (n := 0) (.non)).1 (Dat.sh (n := 0) (.bl _) (by decide)) (Dat.sh (n := 0) (.non) (by decide))
theorem fNe_bn {u : Bool} {F : T → Prop} : fNe [(.lf (.bl u)), (.lf .non)] F = F (bT true) := neqv_of (d := (.bool u)) (e := (.none)) (Dat.ok (n := 0) (.bl _)).1 (Dat.ok (n := 0) (.non)).1 (Dat.sh (n := 0) (.bl _) (by decide)) (Dat.sh (n := 0) (.non) (by decide))
theorem fEqT_bn_true {u : Bool} {F : T → Prop} : fEqT true [(.lf (.bl u)), (.lf .non)] F = F (bT true) := (eqT_of (n := 0) (m := 0) (d := (.bool u)) (e := (.none)) (.bl _) (.non)).trans (congrArg F (congrArg bT (by simp [PyData.eqv])))
theorem fEqT_bn_false {u : Bool} {F : T → Prop} : fEqT false [(.lf (.bl u)), (.lf .non)] F = F (bT false) := (eqT_of (n := 0) (m := 0) (d := (.bool u)) (e := (.none)) (.bl _) (.non)).trans (congrArg F (congrArg bT (by simp [PyData.eqv])))
theorem fEq_ni {v : Int} {F : T → Prop} : fEq [(.lf .non), (.lf (.int v))] F = F (bT false) := eqv_of (d := (.none)) (e := (.int v)) (Dat.ok (n := 0) (.non)).1 (Dat.ok (n := 0) (.int _)).1 (Dat.sh (n := 0) (.non) (by decide)) (Dat.sh (n := 0) (.int _) (by decide))
theorem fNe_ni {v : Int} {F : T → Prop} : fNe [(.lf .non), (.lf (.int v))] F = F (bT true) := neqv_of (d := (.none)) (e := (.int v)) (Dat.ok (n := 0) (.non)).1 (Dat.ok (n := 0) (.int _)).1 (Dat.sh (n := 0) (.non) (by decide)) (Dat.sh (n := 0) (.int _) (by decide))
theorem fEqT_ni_true {v : Int} {F : T → Prop} : fEqT true [(.lf .non), (.lf (.int v))] F = F (bT true) := (eqT_of (n := 0) (m := 0) (d := (.none)) (e := (.int v)) (.non) (.int _)).trans (congrArg F (congrArg bT (by simp [PyData.eqv])))
theorem fEqT_ni_false {v : Int} {F : T → Prop} : fEqT false [(.lf .non), (.lf (.int v))] F = F (bT false) := (eqT_of (n := 0) (m := 0) (d := (.none)) (e := (.int v)) (.non) (.int _)).trans (congrArg F (congrArg bT (by simp [PyData.eqv])))
theorem fEq_nb {v : Bool} {F : T → Prop} : fEq [(.lf .non), (.lf (.bl v))] F = F (bT false) := eqv_of (d := (.none)) (e := (.bool v)) (Dat.ok (n := 0) (.non)).1 (Dat.ok (n := 0) (.bl _)).1 (Dat.sh (n := 0) (.non) (by decide)) (Dat.sh (n := 0) (.bl _) (by decide))
theorem fNe_nb {v : Bool} {F : T → Prop} : fNe [(.lf .non), (.lf (.bl v))] F = F (bT true) := neqv_of (d := (.none)) (e := (.bool v)) (Dat.ok (n := 0) (.non)).1 (Dat.ok (n := 0) (.bl _)).1 (Dat.sh (n := 0) (.non) (by decide)) (Dat.sh (n := 0) (.bl _) (by decide))
theorem fEqT_nb_true {v : Bool} {F : T → Prop} : fEqT true [(.lf .non), (.lf (.bl v))] F = F (bT true) := (eqT_of (n := 0) (m := 0) (d := (.none)) (e := (.bool v)) (.non) (.bl _)).trans (congrArg F (congrArg bT (by simp [PyData.eqv])))
theorem fEqT_nb_false {v : Bool} {F : T → Prop} : fEqT false [(.lf .non), (.lf (.bl v))] F = F (bT false) := (eqT_of (n := 0) (m := 0) (d := (.none)) (e := (.bool v)) (.non) (.bl _)).trans (congrArg F (congrArg bT (by simp [PyData.eqv])))
theorem fEq_nn {F : T → Prop} : fEq [(.lf .non), (.lf .non)] F = F (bT true) := eqv_of (d := (.none)) (e := (.none)) (Dat.ok (n := 0) (.non)).1 (Dat.ok (n := 0) (.non)).1 (Dat.sh (n := 0) (.non) (by decide)) (Dat.sh (n := 0) (.non) (by decide))
theorem fNe_nn {F : T → Prop} : fNe [(.lf .non), (.lf .non)] F = F (bT false) := neqv_of (d := (.none)) (e := (.none)) (Dat.ok (n := 0) (.non)).1 (Dat.ok (n := 0) (.non)).1 (Dat.sh (n := 0) (.non) (by decide)) (Dat.sh (n := 0) (.non) (by decide))
theorem fEqT_nn_true {F : T → Prop} : fEqT true [(.lf .non), (.lf .non)] F = F (bT false) := (eqT_of (n := 0) (m := 0) (d := (.none)) (e := (.none)) (.non) (.non)).trans (congrArg F (congrArg bT (by simp [PyData.eqv])))
theorem fEqT_nn_false {F : T → Prop} : fEqT false [(.lf .non), (.lf .non)] F = F (bT true) := (eqT_of (n := 0) (m := 0) (d := (.none)) (e := (.none)) (.non) (.non)).trans (congrArg F (congrArg bT (by simp [PyData.eqv])))
theorem fEq_ss {u v : Str} {F : T → Prop} : fEq [.lf (.str u), .lf (.str v)] F = ((PyData.strOk u = true ∧ PyData.strOk v = true) ∧ F (bT (u == v))) := by
  apply propext
  constructor
  · rintro ⟨d, e, h1, h2, s1, s2, p⟩
    cases h1; cases h2
    simp only [SeqAt.shaped, PyData.canLay0, PyData.depth, Bool.and_eq_true] at s1 s2
    exact ⟨⟨s1.1, s2.1⟩, p⟩
  · exact fun ⟨⟨h1, h2⟩, p⟩ => eqS h1 h2 p
theorem fNe_ss {u v : Str} {F : T → Prop} : fNe [.lf (.str u), .lf (.str v)] F = ((PyData.strOk u = true ∧ PyData.strOk v = true) ∧ F (bT (!(u == v)))) := by
  apply propext
  constructor
  · rintro ⟨d, e, h1, h2, s1, s2, p⟩
    cases h1; cases h2
    simp only [SeqAt.shaped, PyData.canLay0, PyData.depth, Bool.and_eq_true] at s1 s2
    exact ⟨⟨s1.1, s2.1⟩, p⟩
  · exact fun ⟨⟨h1, h2⟩, p⟩ => neS h1 h2 p
theorem fNotB_bb {x y : Bool} {F : T → Prop} : fNotB [.lf (.bl x), .lf (.bl y)] F = F (.lf (.bl (!decide (x = y)))) := rfl
end
local macro_rules | `(tactic| walk_at "ew1") => `(tactic| simp (maxSteps := 1000000) only [↓kEnx_w, ↓kEt_w, ↓lz_spec, ↓lz_skip, ↓lz_seq, ↓kAsg_w, ↓lz_asg, ↓lz_ret, ↓lz_retN, ↓kExpr_w, ↓lz_expr, ↓kIf_w, ↓lz_if, ↓lz_for, ↓lz_brk, ↓lz_cnt, ↓kRaise_w, ↓lz_raise, ↓lz_try, ↓lz_hds0, ↓lz_hds1, ↓lz_endS_nx, ↓lz_endS_bk, ↓lz_endS_ct, ↓lz_endS_rt, ↓kPut3_w, ↓kPut2_w, ↓kPut1_w, ↓kPut_w, ↓lz_put, ↓kDel2_w, ↓kDel1_w, ↓lz_del, ↓lz_c, ↓kVar_w, ↓lz_var, ↓kMv_w, ↓lz_mv, ↓lz_gl, ↓kFz_w, ↓lz_fz, ↓kLRg2_w, ↓kLRg_w, ↓lz_lrg, ↓kNew_w, ↓lz_new, ↓lz_new0, ↓kOp3_w, ↓kOp2_w, ↓kOp_w, ↓lz_op, ↓kLsc_w, ↓kLsv_w, ↓lz_ls0, ↓lz_lsv, ↓lz_lsp, ↓kNotV2_w, ↓kNotV_w, ↓lz_notV, ↓kDE_w, ↓kBo_w, ↓kAndV2_w, ↓kAndV_w, ↓lz_andV, ↓kOrV2_w, ↓kOrV_w, ↓lz_orV, ↓kIfE_w, ↓lz_ifE, ↓kCall_w, ↓lz_call, ↓kComp_w, ↓lz_comp, ↓kDComp_w, ↓lz_dcomp, ↓kMut3_w, ↓kMut2_w, ↓kMut_w, ↓lz_mut, ↓kMx3_w, ↓kMx2_w, atM_n, chL_i, ↓kMx1_w, ↓kMx0_w, ↓lz_mutIx, atP_n, chD_i, chD_s, ↓kPx3_w, ↓kPx2_w, ↓kPx1_w, ↓kPx0_w, ↓kPx_w, ↓lz_putIx, ↓kCl_w, ↓lz_cloE, ↓lz_clo_nx, ↓lz_clo_bk, ↓lz_clo_ct, ↓lz_clo_rt, ↓lz_clo_ex, ↓kOpn1_w, ↓kOpn_w, ↓lz_open, ↓kCh6_w, ↓kCh5_w, ↓kCh4_w, ↓kCh3_w, ↓kCh2_w, ↓kCh1_w, ↓lz_chain, ↓kSl4_w, ↓kSlv3_w, ↓kSlv2_w, ↓kSlv1_w, ↓kSlv0_w, ↓kSlv_w, ↓lz_sl11v, ↓kSlp3_w, ↓kSlp2_w, ↓kSlp1_w, ↓kSlp0_w, ↓lz_sl11p, ↓kXfH2_w, asX_x, ↓kXfH_w, ↓lz_xfH, ↓kT2_w, ↓kT_w, ↓lz_T, ↓kTr_w, ↓lz_Tr, ↓kNot_w, ↓lz_not, ↓kDB_w, ↓kBb_w, ↓kAnd_w, ↓lz_and, ↓kOr_w, ↓lz_or, ↓lz_yes, ↓lz_nil, ↓kCons2_w, ↓kCons_w, ↓lz_cons, ↓kConsL2_w, ↓kConsL_w, ↓lz_consL, ↓kSnoc2_w, ↓kSnoc_w, ↓lz_snoc, ↓kFld_w, ↓lz_fld, ↓kFldS2_w, ↓kFldS_w, ↓lz_fldS, ↓kOA3_w, ↓kOA2_w, ↓kOA1_w, ↓kOAx_w, ↓kOA0_w, ↓kOA_w, ↓lz_opA, ↓kOB2_w, ↓kOB3_w, ↓kOB1_w, ↓kOB0_w, ↓kOB_w, ↓lz_opB, ↓kChk_w, ↓lz_chk, ↓kCm1_w, ↓lz_consM, kIsS_n, ↓lz_isS, fDIn_s, fDGet_s, fRevS_s, fSIndex_s, ↓kMk_w, ↓lz_make, kMkR_n, kMkX_n, insAt_1, insC_n, chF_n, fPutF_n, dpK_0, kPF_w, ↓lz_gset, ↓lz_gsetF, ↓lz_gsnil, ↓kGs_w, ↓lz_gscons, ↓kQ_w, ↓kItems_w, ↓lz_items, ↓kItemsT_w, ↓lz_itemsT, ↓kRng1b_w, ↓kRng1_w, ↓lz_rng1, ↓kRng2b_w, ↓kRng2_w, ↓lz_rng2, ↓kRng3b_w, as3_i, ↓kRng3_w, ↓lz_rng3, ↓kRngO_w, ↓lz_rngO, ↓kZip3_w, ↓kZip2_w, ↓kZip1_w, ↓kZip_w, ↓lz_zip, ↓kEn2_w, ↓kEn1_w, ↓kEn_w, ↓lz_enum, ↓kKeys2_w, ↓kKeys_w, ↓lz_keys, fInR_i, fRev_l, ↓lz_forApp, kFa_w, fVia_n, ↓lz_via, ↓kVia_w, ↓kVia0_w, ↓kVia1_w, kVia2_w, fKIn_s, fKGet_s, fLenS_t, fLenS_l, ↓lz_parF, kParF_w, tupL_t, tupL_k, ↓kZipT3_w, ↓kZipT2_w, ↓kZipT1_w, ↓kZipT_w, ↓lz_zipT, ↓kCha2_w, ↓kCha_w, ↓lz_chars, w_rdE, w_rdA, w_asB, w_asO, w_asI, w_asS, w_asD, w_ifET, w_ifEF, w_isE, w_isM, is_non_bool, is_non_int, is_non_str, is_non_list, is_non_tuple, is_non_dict, isLT_non, is_bl_bool, is_bl_int, is_bl_str, is_bl_list, is_bl_tuple, is_bl_dict, isLT_bl, is_int_bool, is_int_int, is_int_str, is_int_list, is_int_tuple, is_int_dict, isLT_int, is_str_bool, is_str_int, is_str_str, is_str_list, is_str_tuple, is_str_dict, isLT_str, is_lst_bool, is_lst_int, is_lst_str, is_lst_list, is_lst_tuple, is_lst_dict, isLT_lst, is_tup_bool, is_tup_int, is_tup_str, is_tup_list, is_tup_tuple, is_tup_dict, isLT_tup, is_tpk_bool, is_tpk_int, is_tpk_str, is_tpk_list, is_tpk_tuple, is_tpk_dict, isLT_tpk, is_dk_bool, is_dk_int, is_dk_str, is_dk_list, is_dk_tuple, is_dk_dict, isLT_dk, fEq_ii, fNe_ii, fEqT_ii_true, fEqT_ii_false, fEq_in, fNe_in, fEqT_in_true, fEqT_in_false, fEq_bb, fNe_bb, fEqT_bb_true, fEqT_bb_false, fEq_bn, fNe_bn, fEqT_bn_true, fEqT_bn_false, fEq_ni, fNe_ni, fEqT_ni_true, fEqT_ni_false, fEq_nb, fNe_nb, fEqT_nb_true, fEqT_nb_false, fEq_nn, fNe_nn, fEqT_nn_true, fEqT_nn_false, fEq_ss, fNe_ss, fNotB_bb, env0, outsOf_n, outsOf_c, gTupl_t, gTupl_k, rdAll, rdT, wb, asM_n, fRng1_i, asR_r, asL_l, asT_t, asT_k, as1_i, as2_i, lsL_l, lsL_m, lsL_r, as2T_l, as1T_l, dDic, dRdM, wipeE, namE, clrE, dXfK, dXf, unt_nil, unt_cons, unt1_none, unt1_ref, unt1_int, unt1_bl, unt1_str, unt1_non, unt1_nd, Option.bind_eq_bind, and_self, exists_eq, T.lf.injEq, V.bl.injEq, T.fz_fz, map_fz_lf, rowT_fz, matT_fz, map_rowT_fz, rowT_fzd, List.length_map, fAdd_ii, fAdd_ss, fAdd_ll, fAdd_tt, fMul_ii, fMul_li, fII_ii, fIC_ii, fCmp_ii, fCmp_ss, isN_non, isN_int, isN_bl, isN_str, isN_nd, fIsN_n, fNotN_n, fNeg_i, fInt1_i, fInt1_b, fTuple_l, fTuple_t, fList_l, fList_t, fList_k, fMax_ii, fMin_ii, fDivmod_ii, fLen_l, fLen_q, fLen_t, fLen_k, fLen_s, fSl_l, fSl_t, fSl_s, fSl00_e, fSl10_e, fSl01_e, fIsB_bb, fIx_l, fIx_q, fIx_t, fIx_k, fIx_s, fAppend_l, fSetL_l, fExtend_l, fPop_l, fPopAt_l, fInsert_l, fReverse_l, fClear_l, fDPut_i, fDPut_s, fDGet2_i, fDGet2_s, fDGet_i, isDic_k, Tr.one_inj, key_i, key_s, fDIn_i, kindOf_l, kindOf_k, at_0, at_1, at_2, at_3, List.map_cons, List.map_nil, List.length_cons, List.length_nil, List.replicate, List.cons_append, List.nil_append, List.append_nil, List.getElem?_cons_zero, List.getElem?_cons_succ, List.set_cons_zero, List.set_cons_succ, Option.join, Option.bind_some, id_eq, Option.some.injEq, Option.map_some, exists_eq_left', exists_eq_left, exists_eq', T.fz_lf, T.fz_nd, T.fzd_lf, T.fzd_nd, Kd.unl, Nat.sub_self, Nat.sub_zero, Nat.reduceSub, Nat.reduceAdd, Nat.zero_add, true_and, and_true, List.reverse_cons, List.reverse_nil, if_true, if_false, Bool.false_eq_true, Bool.not_false, Bool.not_true, Bool.false_xor, Bool.true_xor, tru_non, tru_bl, tru_int, tru_lst, tru_tup, ite_true, ite_false, reduceIte, exists_const, exists_and_left, List.isEmpty_cons, List.isEmpty_nil, Option.map_some, beq_self_eq_true, Int.toNat_natCast, Option.toList_none, Option.toList_some, Nat.zero_le, List.length_set, Option.isNone_none, Option.isNone_some, Option.isSome_none, Option.isSome_some, PyData.eqv, PyData.eqvAll, Bool.and_true, Bool.true_and, Bool.and_false, Bool.false_and, Bool.and_self, Bool.not_not, Bool.xor_false, Bool.xor_true, Bool.or_true, Bool.true_or, Bool.or_false, Bool.false_or])
local macro_rules | `(tactic| walk_at "ew") => `(tactic| try walk_at "ew1")
theorem ifET {c : Bool} {e : Env} {A B : Env → Prop} (h : c = true) (p : A e) : lzIfE c e A B := by subst h; exact p
theorem ifEF {c : Bool} {e : Env} {A B : Env → Prop} (h : c = false) (p : B e) : lzIfE c e A B := by subst h; exact p

local macro_rules | `(tactic| walk_at "go") => `(tactic| (walk_at "ew"; repeat ((first | ((with_reducible refine And.intro ?_ ?_); (first | (focus decide; done) | (focus decide +kernel; done) | (focus exact fun _ => rfl; done)) ) | (with_reducible refine ifEF (by decide +kernel) ?_) | (with_reducible refine ifET (by decide +kernel) ?_)); walk_at "ew")))
end Tr

set_option Elab.async false
set_option linter.all false
set_option maxRecDepth 100000
set_option maxHeartbeats 4000000
namespace Hx
open PySem PySem.Spec PyProof.Rows L2 Cm
def top (i : Nat) : Stmt := PySem.Challenge.pw_sherdhall_k65_scores_of_houses.main.body.getD i (.Pass ⟨0, 0, 0, 0⟩)
abbrev s__wall : Stmt := top 0
abbrev s_is_name : Stmt := top 10
abbrev s_check_name : Stmt := top 11
abbrev s_number_of : Stmt := top 15
abbrev s_score : Stmt := top 16
abbrev s_is_whole : Stmt := top 18
abbrev s_is_between : Stmt := top 19
abbrev s_check_weight : Stmt := top 22
abbrev s__law_cell_at : Stmt := top 25
abbrev s__law_pot : Stmt := top 26
abbrev s__law_pick : Stmt := top 27
abbrev s__law_name : Stmt := top 28
abbrev s__law_names : Stmt := top 29
abbrev s__law_houses : Stmt := top 30
abbrev s__law_is_name : Stmt := top 31
abbrev s__law_number : Stmt := top 32
abbrev s__law_points : Stmt := top 33
abbrev s__law_whole : Stmt := top 34
abbrev s__law_asked : Stmt := top 35
abbrev s__law_number_asked : Stmt := top 36
abbrev s__law_right : Stmt := top 37
abbrev s_law : Stmt := top 38
abbrev s_Town___init__ : Stmt := inCls (top 23) 0
abbrev s_Town_weight_of : Stmt := inCls (top 23) 5
abbrev s_Town__check_house : Stmt := inCls (top 23) 12
abbrev s_NoName : Stmt := top 3
abbrev si_NoName : Stmt := inCls s_NoName 0
abbrev s_NoHouse : Stmt := top 5
abbrev si_NoHouse : Stmt := inCls s_NoHouse 0
abbrev s_Taken : Stmt := top 4
abbrev si_Taken : Stmt := inCls s_Taken 0
abbrev s_NoWeight : Stmt := top 6
abbrev si_NoWeight : Stmt := inCls s_NoWeight 0
structure Txt (K : PySem.W.Frag) (mg : Str → Option Value) where
  n_len : mg "len" = none
  n_max : mg "max" = none
  n_min : mg "min" = none
  n_range : mg "range" = none
  n_isinstance : mg "isinstance" = none
  n_int : mg "int" = none
  n_bool : mg "bool" = none
  n_str : mg "str" = none
  n_tuple : mg "tuple" = none
  n_list : mg "list" = none
  n_dict : mg "dict" = none
  n_all : mg "all" = none
  n_ValueError : mg "ValueError" = none
  u_STEP : Value
  g_STEP : mg "STEP" = some u_STEP
  v_STEP : RelV (.int 27) u_STEP
  u_ROUND : Value
  g_ROUND : mg "ROUND" = some u_ROUND
  v_ROUND : RelV (.int 1000003) u_ROUND
  u_HEAVIEST : Value
  g_HEAVIEST : mg "HEAVIEST" = some u_HEAVIEST
  v_HEAVIEST : RelV (.int 1000) u_HEAVIEST
  u_LONGEST : Value
  g_LONGEST : mg "LONGEST" = some u_LONGEST
  v_LONGEST : RelV (.int 8) u_LONGEST
  u_LETTERS : Value
  g_LETTERS : mg "LETTERS" = some u_LETTERS
  v_LETTERS : RelV (.str "abcdefghijklmnopqrstuvwxyz") u_LETTERS
  g_SherdError : mg "SherdError" = some (.ref (He.ga K "SherdError"))
  g_NoName : mg "NoName" = some (.ref (He.ga K "NoName"))
  g_Taken : mg "Taken" = some (.ref (He.ga K "Taken"))
  g_NoHouse : mg "NoHouse" = some (.ref (He.ga K "NoHouse"))
  g_NoWeight : mg "NoWeight" = some (.ref (He.ga K "NoWeight"))
  g_Town : mg "Town" = some (.ref (He.ga K "Town"))
  c_Town : Cls K (He.ga K "Town")
  mk_Town : Mk K (He.ga K "Town") (He.ma K (He.ga K "Town") "__init__")
  na_Town__houses : NoAttr K (He.ga K "Town") "_houses"
  me_Town__check_house : Meth K (He.ga K "Town") "_check_house" (He.ma K (He.ga K "Town") "_check_house")
  me_Town_weight_of : Meth K (He.ga K "Town") "weight_of" (He.ma K (He.ga K "Town") "weight_of")
  k_NoName : isAll K "NoName" [("NoName", true), ("Taken", false), ("NoHouse", false), ("NoWeight", false), ("SherdError", true)] = true
  m_NoName_NoName : exmB K "NoName" "NoName" = true
  m_NoHouse_NoHouse : exmB K "NoHouse" "NoHouse" = true
  z_hn : exmN K "NoHouse" "NoName" = true
section
variable {P : Program} {w : World} {K : PySem.W.Frag} {mg : Str → Option Value} {base : Heap}
theorem sc__wall : FnScope ["k"] ["k"] (defScope s__wall) := ⟨rfl, rfl, rfl, by decide +kernel, rfl, by decide +kernel, by decide +kernel⟩
theorem sc_is_name : FnScope ["thing", "sign"] ["thing"] (defScope s_is_name) := ⟨rfl, rfl, rfl, by decide +kernel, rfl, by decide +kernel, by decide +kernel⟩
theorem sc_check_name : FnScope ["name"] ["name"] (defScope s_check_name) := ⟨rfl, rfl, rfl, by decide +kernel, rfl, by decide +kernel, by decide +kernel⟩
theorem sc_number_of : FnScope ["name", "number", "sign"] ["name"] (defScope s_number_of) := ⟨rfl, rfl, rfl, by decide +kernel, rfl, by decide +kernel, by decide +kernel⟩
theorem sc_score : FnScope ["town", "name", "house", "first", "second", "weight", "one", "two"] ["town", "name", "house"] (defScope s_score) := ⟨rfl, rfl, rfl, by decide +kernel, rfl, by decide +kernel, by decide +kernel⟩
theorem sc_is_whole : FnScope ["thing"] ["thing"] (defScope s_is_whole) := ⟨rfl, rfl, rfl, by decide +kernel, rfl, by decide +kernel, by decide +kernel⟩
theorem sc_is_between : FnScope ["thing", "least", "most"] ["thing", "least", "most"] (defScope s_is_between) := ⟨rfl, rfl, rfl, by decide +kernel, rfl, by decide +kernel, by decide +kernel⟩
theorem sc_check_weight : FnScope ["weight"] ["weight"] (defScope s_check_weight) := ⟨rfl, rfl, rfl, by decide +kernel, rfl, by decide +kernel, by decide +kernel⟩
theorem sc__law_cell_at : FnScope ["script", "k"] ["script", "k"] (defScope s__law_cell_at) := ⟨rfl, rfl, rfl, by decide +kernel, rfl, by decide +kernel, by decide +kernel⟩
theorem sc__law_pot : FnScope ["cell"] ["cell"] (defScope s__law_pot) := ⟨rfl, rfl, rfl, by decide +kernel, rfl, by decide +kernel, by decide +kernel⟩
theorem sc__law_pick : FnScope ["pot", "many", "found", "mixed"] ["pot", "many"] (defScope s__law_pick) := ⟨rfl, rfl, rfl, by decide +kernel, rfl, by decide +kernel, by decide +kernel⟩
theorem sc__law_name : FnScope ["pot", "letters", "size", "k"] ["pot"] (defScope s__law_name) := ⟨rfl, rfl, rfl, by decide +kernel, rfl, by decide +kernel, by decide +kernel⟩
theorem sc__law_names : FnScope ["pot", "many", "letters", "way", "found", "k", "one", "old", "spot"] ["pot", "many"] (defScope s__law_names) := ⟨rfl, rfl, rfl, by decide +kernel, rfl, by decide +kernel, by decide +kernel⟩
theorem sc__law_houses : FnScope ["pot", "most", "areas", "way", "found", "name", "heavy"] ["pot", "most"] (defScope s__law_houses) := ⟨rfl, rfl, rfl, by decide +kernel, rfl, by decide +kernel, by decide +kernel⟩
theorem sc__law_is_name : FnScope ["thing", "sign"] ["thing"] (defScope s__law_is_name) := ⟨rfl, rfl, rfl, by decide +kernel, rfl, by decide +kernel, by decide +kernel⟩
theorem sc__law_number : FnScope ["name", "letters", "found", "counts", "letter"] ["name"] (defScope s__law_number) := ⟨rfl, rfl, rfl, by decide +kernel, rfl, by decide +kernel, by decide +kernel⟩
theorem sc__law_points : FnScope ["name", "house", "heavy", "one", "two"] ["name", "house", "heavy"] (defScope s__law_points) := ⟨rfl, rfl, rfl, by decide +kernel, rfl, by decide +kernel, by decide +kernel⟩
theorem sc__law_whole : FnScope ["found", "due"] ["found", "due"] (defScope s__law_whole) := ⟨rfl, rfl, rfl, by decide +kernel, rfl, by decide +kernel, by decide +kernel⟩
theorem sc__law_asked : FnScope ["town", "name", "house", "found", "kind", "e"] ["town", "name", "house"] (defScope s__law_asked) := ⟨rfl, rfl, rfl, by decide +kernel, rfl, by decide +kernel, by decide +kernel⟩
theorem sc__law_number_asked : FnScope ["name", "found", "e"] ["name"] (defScope s__law_number_asked) := ⟨rfl, rfl, rfl, by decide +kernel, rfl, by decide +kernel, by decide +kernel⟩
theorem sc__law_right : FnScope ["pot", "odd", "rows", "town", "row", "names", "name", "house", "one", "due", "area", "heavy"] ["pot"] (defScope s__law_right) := ⟨rfl, rfl, rfl, by decide +kernel, rfl, by decide +kernel, by decide +kernel⟩
theorem sc_law : FnScope ["script", "k"] ["script"] (defScope s_law) := ⟨rfl, rfl, rfl, by decide +kernel, rfl, by decide +kernel, by decide +kernel⟩
theorem sc_Town___init__ : FnScope ["self", "rows", "name", "zone", "weight"] ["self", "rows"] (defScope s_Town___init__) := ⟨rfl, rfl, rfl, by decide +kernel, rfl, by decide +kernel, by decide +kernel⟩
theorem sc_Town_weight_of : FnScope ["self", "name"] ["self", "name"] (defScope s_Town_weight_of) := ⟨rfl, rfl, rfl, by decide +kernel, rfl, by decide +kernel, by decide +kernel⟩
theorem sc_Town__check_house : FnScope ["self", "name"] ["self", "name"] (defScope s_Town__check_house) := ⟨rfl, rfl, rfl, by decide +kernel, rfl, by decide +kernel, by decide +kernel⟩
theorem sci_NoName : FnScope ["self", "name"] ["self", "name"] (defScope si_NoName) := ⟨rfl, rfl, rfl, by decide +kernel, rfl, by decide +kernel, by decide +kernel⟩
theorem sci_NoHouse : FnScope ["self", "name"] ["self", "name"] (defScope si_NoHouse) := ⟨rfl, rfl, rfl, by decide +kernel, rfl, by decide +kernel, by decide +kernel⟩
theorem sci_Taken : FnScope ["self", "name"] ["self", "name"] (defScope si_Taken) := ⟨rfl, rfl, rfl, by decide +kernel, rfl, by decide +kernel, by decide +kernel⟩
theorem sci_NoWeight : FnScope ["self", "weight"] ["self", "weight"] (defScope si_NoWeight) := ⟨rfl, rfl, rfl, by decide +kernel, rfl, by decide +kernel, by decide +kernel⟩
end
end Hx
set_option Elab.async false
set_option linter.all false
set_option maxRecDepth 100000
set_option maxHeartbeats 1000000
namespace Hx
open PySem PySem.Spec PyProof.Rows L2 Cm Tr
local macro_rules | `(tactic| walk_at "vis") => `(tactic| (first | exact Or.inl rfl | exact Or.inr (Or.inl rfl) | exact Or.inr (Or.inr rfl)))
local macro_rules | `(tactic| walk_at "loc") => `(tactic| (first | exact Or.inl rfl | exact Or.inr rfl))
local macro_rules | `(tactic| walk_at "ev1") => `(tactic| simp (maxSteps := 1000000) only [Tr.specOf, endsOf, env0, outsOf_n, outsOf_c, dSkip, dSeq, dRet, dRetN, dExpr, dIf, dAsg, gSet, gSetF, gTupl_t, gTupl_k, gsNil, gsCons_c, dC, dVar, dMv, dGl, dCons, dNil, dSnoc, dT, dTr, dNot, dAnd, dOr, dAndV, dOrV, dNotV, dIfE, dOp, dLs, rdAll, rdT, dNew, dNew0, dCall, dFz, wb, dMutA_e, dPutA_e, asM_n, dFor, dItems_e, dItemsT_e, dRng1_e, dRng2_e, fRng1_i, dRngO_pk, asR_r, asL_l, asT_t, asT_k, as1_i, as2_i, dEnum_e, dZip_e, lsL_l, lsL_m, lsL_r, as2T_l, as1T_l, dKeys, dComp, dDComp, dRaise, dTry, dHds, dDic, dRdM, dYes, wipeE, namE, clrE, endS, dXfK, dXf, unt_nil, unt_cons, unt1_none, unt1_ref, unt1_int, unt1_bl, unt1_str, unt1_non, unt1_nd, dBrk, dCnt, dChain_eq, dSl11_v, dSl11_pk, Option.bind_eq_bind, and_self, exists_eq, T.lf.injEq, V.bl.injEq, T.fz_fz, map_fz_lf, rowT_fz, matT_fz, map_rowT_fz, rowT_fzd, List.length_map, fAdd_ii, fAdd_ss, fAdd_ll, fAdd_tt, fMul_ii, fMul_li, fII_ii, fIC_ii, fCmp_ii, fCmp_ss, isN_non, isN_int, isN_bl, isN_str, isN_nd, fIsN_n, fNotN_n, fNeg_i, fInt1_i, fInt1_b, fTuple_l, fTuple_t, fList_l, fList_t, fList_k, fMax_ii, fMin_ii, fDivmod_ii, fLen_l, fLen_q, fLen_t, fLen_k, fLen_s, fSl_l, fSl_t, fSl_s, fSl00_e, fSl10_e, fSl01_e, fIsB_bb, fIx_l, fIx_q, fIx_t, fIx_k, fIx_s, fAppend_l, fSetL_l, fExtend_l, fPop_l, fPopAt_l, fInsert_l, fReverse_l, fClear_l, fDPut_i, fDPut_s, fDGet2_i, fDGet2_s, fDGet_i, isDic_k, Tr.one_inj, key_i, key_s, fDIn_i, kindOf_l, kindOf_k, at_0, at_1, at_2, at_3, List.map_cons, List.map_nil, List.length_cons, List.length_nil, List.replicate, List.cons_append, List.nil_append, List.append_nil, List.getElem?_cons_zero, List.getElem?_cons_succ, List.set_cons_zero, List.set_cons_succ, Option.join, Option.bind_some, id_eq, Option.some.injEq, Option.map_some, exists_eq_left', exists_eq_left, exists_eq', T.fz_lf, T.fz_nd, T.fzd_lf, T.fzd_nd, Kd.unl, Nat.sub_self, Nat.sub_zero, Nat.reduceSub, Nat.reduceAdd, Nat.zero_add, true_and, and_true, List.reverse_cons, List.reverse_nil, if_true, if_false, Bool.false_eq_true, Bool.not_false, Bool.not_true, Bool.false_xor, Bool.true_xor, tru_non, tru_bl, tru_int, tru_lst, tru_tup, ite_true, ite_false, reduceIte, exists_const, exists_and_left, List.isEmpty_cons, List.isEmpty_nil])
local macro_rules | `(tactic| walk_at "ev") => `(tactic| try walk_at "ev1")
local macro_rules | `(tactic| walk_at "sz") => `(tactic| repeat (first | refine ⟨by decide, ?_⟩ | refine ⟨fun _ => rfl, ?_⟩))
local macro_rules | `(tactic| walk_at "dat") => `(tactic| repeat (first | exact Dats.nil | exact Dat.int _ | exact Dat.bl _ | exact Dat.non | exact Dat.str (by decide +kernel) | exact Dats.ints _ | apply Dats.cons | apply Dat.lst | apply Dat.tup | apply Dat.tpk))
local macro_rules | `(tactic| walk_at "ew1") => `(tactic| simp (maxSteps := 1000000) only [↓kEnx_w, ↓kEt_w, ↓lz_spec, ↓lz_skip, ↓lz_seq, ↓kAsg_w, ↓lz_asg, ↓lz_ret, ↓lz_retN, ↓kExpr_w, ↓lz_expr, ↓kIf_w, ↓lz_if, ↓lz_for, ↓lz_brk, ↓lz_cnt, ↓kRaise_w, ↓lz_raise, ↓lz_try, ↓lz_hds0, ↓lz_hds1, ↓lz_endS_nx, ↓lz_endS_bk, ↓lz_endS_ct, ↓lz_endS_rt, ↓kPut3_w, ↓kPut2_w, ↓kPut1_w, ↓kPut_w, ↓lz_put, ↓kDel2_w, ↓kDel1_w, ↓lz_del, ↓lz_c, ↓kVar_w, ↓lz_var, ↓kMv_w, ↓lz_mv, ↓lz_gl, ↓kFz_w, ↓lz_fz, ↓kLRg2_w, ↓kLRg_w, ↓lz_lrg, ↓kNew_w, ↓lz_new, ↓lz_new0, ↓kOp3_w, ↓kOp2_w, ↓kOp_w, ↓lz_op, ↓kLsc_w, ↓kLsv_w, ↓lz_ls0, ↓lz_lsv, ↓lz_lsp, ↓kNotV2_w, ↓kNotV_w, ↓lz_notV, ↓kDE_w, ↓kBo_w, ↓kAndV2_w, ↓kAndV_w, ↓lz_andV, ↓kOrV2_w, ↓kOrV_w, ↓lz_orV, ↓kIfE_w, ↓lz_ifE, ↓kCall_w, ↓lz_call, ↓kComp_w, ↓lz_comp, ↓kDComp_w, ↓lz_dcomp, ↓kMut3_w, ↓kMut2_w, ↓kMut_w, ↓lz_mut, ↓kMx3_w, ↓kMx2_w, atM_n, chL_i, ↓kMx1_w, ↓kMx0_w, ↓lz_mutIx, atP_n, chD_i, chD_s, ↓kPx3_w, ↓kPx2_w, ↓kPx1_w, ↓kPx0_w, ↓kPx_w, ↓lz_putIx, ↓kCl_w, ↓lz_cloE, ↓lz_clo_nx, ↓lz_clo_bk, ↓lz_clo_ct, ↓lz_clo_rt, ↓lz_clo_ex, ↓kOpn1_w, ↓kOpn_w, ↓lz_open, ↓kCh6_w, ↓kCh5_w, ↓kCh4_w, ↓kCh3_w, ↓kCh2_w, ↓kCh1_w, ↓lz_chain, ↓kSl4_w, ↓kSlv3_w, ↓kSlv2_w, ↓kSlv1_w, ↓kSlv0_w, ↓kSlv_w, ↓lz_sl11v, ↓kSlp3_w, ↓kSlp2_w, ↓kSlp1_w, ↓kSlp0_w, ↓lz_sl11p, ↓kXfH2_w, asX_x, ↓kXfH_w, ↓lz_xfH, ↓kT2_w, ↓kT_w, ↓lz_T, ↓kTr_w, ↓lz_Tr, ↓kNot_w, ↓lz_not, ↓kDB_w, ↓kBb_w, ↓kAnd_w, ↓lz_and, ↓kOr_w, ↓lz_or, ↓lz_yes, ↓lz_nil, ↓kCons2_w, ↓kCons_w, ↓lz_cons, ↓kConsL2_w, ↓kConsL_w, ↓lz_consL, ↓kSnoc2_w, ↓kSnoc_w, ↓lz_snoc, ↓kFld_w, ↓lz_fld, ↓kFldS2_w, ↓kFldS_w, ↓lz_fldS, ↓kOA3_w, ↓kOA2_w, ↓kOA1_w, ↓kOAx_w, ↓kOA0_w, ↓kOA_w, ↓lz_opA, ↓kOB2_w, ↓kOB3_w, ↓kOB1_w, ↓kOB0_w, ↓kOB_w, ↓lz_opB, ↓kChk_w, ↓lz_chk, ↓kCm1_w, ↓lz_consM, kIsS_n, ↓lz_isS, fDIn_s, fDGet_s, fRevS_s, fSIndex_s, ↓kMk_w, ↓lz_make, kMkR_n, kMkX_n, insAt_1, insC_n, chF_n, fPutF_n, dpK_0, kPF_w, ↓lz_gset, ↓lz_gsetF, ↓lz_gsnil, ↓kGs_w, ↓lz_gscons, ↓kQ_w, ↓kItems_w, ↓lz_items, ↓kItemsT_w, ↓lz_itemsT, ↓kRng1b_w, ↓kRng1_w, ↓lz_rng1, ↓kRng2b_w, ↓kRng2_w, ↓lz_rng2, ↓kRng3b_w, as3_i, ↓kRng3_w, ↓lz_rng3, ↓kRngO_w, ↓lz_rngO, ↓kZip3_w, ↓kZip2_w, ↓kZip1_w, ↓kZip_w, ↓lz_zip, ↓kEn2_w, ↓kEn1_w, ↓kEn_w, ↓lz_enum, ↓kKeys2_w, ↓kKeys_w, ↓lz_keys, fInR_i, fRev_l, ↓lz_forApp, kFa_w, fVia_n, ↓lz_via, ↓kVia_w, ↓kVia0_w, ↓kVia1_w, kVia2_w, fKIn_s, fKGet_s, fLenS_t, fLenS_l, ↓lz_parF, kParF_w, tupL_t, tupL_k, ↓kZipT3_w, ↓kZipT2_w, ↓kZipT1_w, ↓kZipT_w, ↓lz_zipT, ↓kCha2_w, ↓kCha_w, ↓lz_chars, w_rdE, w_rdA, w_asB, w_asO, w_asI, w_asS, w_asD, w_ifET, w_ifEF, w_isE, w_isM, is_non_bool, is_non_int, is_non_str, is_non_list, is_non_tuple, is_non_dict, isLT_non, is_bl_bool, is_bl_int, is_bl_str, is_bl_list, is_bl_tuple, is_bl_dict, isLT_bl, is_int_bool, is_int_int, is_int_str, is_int_list, is_int_tuple, is_int_dict, isLT_int, is_str_bool, is_str_int, is_str_str, is_str_list, is_str_tuple, is_str_dict, isLT_str, is_lst_bool, is_lst_int, is_lst_str, is_lst_list, is_lst_tuple, is_lst_dict, isLT_lst, is_tup_bool, is_tup_int, is_tup_str, is_tup_list, is_tup_tuple, is_tup_dict, isLT_tup, is_tpk_bool, is_tpk_int, is_tpk_str, is_tpk_list, is_tpk_tuple, is_tpk_dict, isLT_tpk, is_dk_bool, is_dk_int, is_dk_str, is_dk_list, is_dk_tuple, is_dk_dict, isLT_dk, fEq_ii, fNe_ii, fEqT_ii_true, fEqT_ii_false, fEq_in, fNe_in, fEqT_in_true, fEqT_in_false, fEq_bb, fNe_bb, fEqT_bb_true, fEqT_bb_false, fEq_bn, fNe_bn, fEqT_bn_true, fEqT_bn_false, fEq_ni, fNe_ni, fEqT_ni_true, fEqT_ni_false, fEq_nb, fNe_nb, fEqT_nb_true, fEqT_nb_false, fEq_nn, fNe_nn, fEqT_nn_true, fEqT_nn_false, fEq_ss, fNe_ss, fNotB_bb, env0, outsOf_n, outsOf_c, gTupl_t, gTupl_k, rdAll, rdT, wb, asM_n, fRng1_i, asR_r, asL_l, asT_t, asT_k, as1_i, as2_i, lsL_l, lsL_m, lsL_r, as2T_l, as1T_l, dDic, dRdM, wipeE, namE, clrE, dXfK, dXf, unt_nil, unt_cons, unt1_none, unt1_ref, unt1_int, unt1_bl, unt1_str, unt1_non, unt1_nd, Option.bind_eq_bind, and_self, exists_eq, T.lf.injEq, V.bl.injEq, T.fz_fz, map_fz_lf, rowT_fz, matT_fz, map_rowT_fz, rowT_fzd, List.length_map, fAdd_ii, fAdd_ss, fAdd_ll, fAdd_tt, fMul_ii, fMul_li, fII_ii, fIC_ii, fCmp_ii, fCmp_ss, isN_non, isN_int, isN_bl, isN_str, isN_nd, fIsN_n, fNotN_n, fNeg_i, fInt1_i, fInt1_b, fTuple_l, fTuple_t, fList_l, fList_t, fList_k, fMax_ii, fMin_ii, fDivmod_ii, fLen_l, fLen_q, fLen_t, fLen_k, fLen_s, fSl_l, fSl_t, fSl_s, fSl00_e, fSl10_e, fSl01_e, fIsB_bb, fIx_l, fIx_q, fIx_t, fIx_k, fIx_s, fAppend_l, fSetL_l, fExtend_l, fPop_l, fPopAt_l, fInsert_l, fReverse_l, fClear_l, fDPut_i, fDPut_s, fDGet2_i, fDGet2_s, fDGet_i, isDic_k, Tr.one_inj, key_i, key_s, fDIn_i, kindOf_l, kindOf_k, at_0, at_1, at_2, at_3, List.map_cons, List.map_nil, List.length_cons, List.length_nil, List.replicate, List.cons_append, List.nil_append, List.append_nil, List.getElem?_cons_zero, List.getElem?_cons_succ, List.set_cons_zero, List.set_cons_succ, Option.join, Option.bind_some, id_eq, Option.some.injEq, Option.map_some, exists_eq_left', exists_eq_left, exists_eq', T.fz_lf, T.fz_nd, T.fzd_lf, T.fzd_nd, Kd.unl, Nat.sub_self, Nat.sub_zero, Nat.reduceSub, Nat.reduceAdd, Nat.zero_add, true_and, and_true, List.reverse_cons, List.reverse_nil, if_true, if_false, Bool.false_eq_true, Bool.not_false, Bool.not_true, Bool.false_xor, Bool.true_xor, tru_non, tru_bl, tru_int, tru_lst, tru_tup, ite_true, ite_false, reduceIte, exists_const, exists_and_left, List.isEmpty_cons, List.isEmpty_nil, Option.map_some, beq_self_eq_true, Int.toNat_natCast, Option.toList_none, Option.toList_some, Nat.zero_le, List.length_set, Option.isNone_none, Option.isNone_some, Option.isSome_none, Option.isSome_some, PyData.eqv, PyData.eqvAll, Bool.and_true, Bool.true_and, Bool.and_false, Bool.false_and, Bool.and_self, Bool.not_not, Bool.xor_false, Bool.xor_true, Bool.or_true, Bool.true_or, Bool.or_false, Bool.false_or])
local macro_rules | `(tactic| walk_at "ew") => `(tactic| try walk_at "ew1")
local macro_rules | `(tactic| walk_at "go") => `(tactic| (walk_at "ew"; repeat ((first | ((with_reducible refine And.intro ?_ ?_); (first | (focus decide; done) | (focus decide +kernel; done) | (focus exact fun _ => rfl; done)) ) | (with_reducible refine ifEF (by decide +kernel) ?_) | (with_reducible refine ifET (by decide +kernel) ?_)); walk_at "ew")))
section
variable {P : Program} {w : World} {K : PySem.W.Frag} {mg : Str → Option Value} {base : Heap}
def ds__wall (K : PySem.W.Frag) : DS :=
  (dWhile (dTr (dC (.bl true))) dSkip)
def sp__wall (K : PySem.W.Frag) : Tr.Spec := specOf 1 [] (ds__wall K)
theorem T__wall (T : Txt K mg)  (A : At K mg "_wall" s__wall ["k"]) : Dt P w K mg base 2 "_wall" ["k"] [] (sp__wall K) :=
  A.tok sc__wall (by decide) (by decide) fun f cdv A outer s H E hr tk hp => (p_one (s_while hp (b_tr t_bl)
  (p_one s_pass)))
def ds_is_name (K : PySem.W.Frag) : DS :=
  (dRet (dAndV (dOp (fIs1 K) [.pk 0, .v (dC (.ty "str"))]) (dAndV (dChain fLe fLe (dC (.int 1)) (dOp fLen [.pk 0]) (dC (.int 8))) (dOp fAll [.v (dComp [1] (dChars (dVar 0)) (gSetF 1) dYes (dOp (fIn false) [.pk 1, .v (dC (.str "abcdefghijklmnopqrstuvwxyz"))]))]))))
def sp_is_name (K : PySem.W.Frag) : Tr.Spec := specOf 2 [] (ds_is_name K)
theorem T_is_name (T : Txt K mg)  (A : At K mg "is_name" s_is_name ["thing"]) : Dt P w K mg base 2 "is_name" ["thing"] [] (sp_is_name K) :=
  A.tok sc_is_name (by decide) (by decide) fun f cdv A outer s H E hr tk hp => (p_one (s_ret (t_and (t_B call_isA os_is1 (by rfl) T.n_isinstance (by decide +kernel) (l_cons (o_pk (i := 0) (by rfl) (by walk_at "vis")) (l_cons (o_v (t_bltn (v := .ty "str") (u := .type "str") (by rfl) T.n_str (by decide +kernel) (by exact rfl))) l_nil))) (t_and (t_chain (op_leA) os_cmp (op_leA) os_cmp t_int (t_B call_len os_len (by rfl) T.n_len (by decide +kernel) (l_cons (o_pk (i := 0) (by rfl) (by walk_at "vis")) l_nil)) (t_glob (by rfl) T.g_LONGEST (by exact T.v_LONGEST))) (t_one (t_B (cr_all rfl) os_all (by rfl) T.n_all (by decide +kernel) (l_cons (o_v (t_lc (own := [("sign", 1)]) (by rfl) sc_is_name.nd (i_str (t_var (i := 0) (by rfl) (by walk_at "vis"))) (blkOk_by (own := [("sign", 1)]) (N := ["thing", "sign"]) (sc := defScope s_is_name) (by decide +kernel)) (fun z => (g_setF (i := 1) sc_is_name.nd (by rfl) (by walk_at "loc") (by walk_at "loc"))) (fun z => c_yes) (fun z => (t_cmp (op_inA (hu65 hr)) os_in (o_pk (i := 1) (by rfl) (by walk_at "vis")) (o_v (t_glob (by rfl) T.g_LETTERS (by exact T.v_LETTERS))) rfl)) (by decide))) l_nil)))))))
def ds_check_name (K : PySem.W.Frag) : DS :=
  (dIf (dNot (dTr (dCall [] (sp_is_name K) (dCons (dVar 0) dNil)))) (dRaise (He.ga K "NoName") ["name"] (dCons (dVar 0) dNil)) dSkip)
def sp_check_name (K : PySem.W.Frag) : Tr.Spec := specOf 1 [] (ds_check_name K)
theorem T_check_name (T : Txt K mg) (R_NoName : Cm.Rd P w K mg base "NoName" ["name"]) (D_is_name : Dt P w K mg base 2 "is_name" ["thing"] [] (sp_is_name K)) (A : At K mg "check_name" s_check_name ["name"]) : Dt P w K mg base 3 "check_name" ["name"] [] (sp_check_name K) :=
  A.tok sc_check_name (by decide) (by decide) fun f cdv A outer s H E hr tk hp => (p_one (s_if (b_not (b_tr (t_call (io := []) D_is_name (by first | exact hr | exact hr.mono (by decide)) tk (a_cons (t_var (i := 0) (by rfl) (by walk_at "vis")) a_nil) (by rfl) [] (hb_of (by decide)) rfl))) (p_one (s_raise rfl tk R_NoName (by first | exact hr | exact hr.mono (by decide)) (a_cons (t_var (i := 0) (by rfl) (by walk_at "vis")) a_nil) (by decide))) p_nil))
def ds_number_of (K : PySem.W.Frag) : DS :=
  (dSeq (dExpr (dCall [] (sp_check_name K) (dCons (dVar 0) dNil)))
  (dSeq (dAsg (dC (.int 0)) (gSetF 1))
  (dSeq (dFor (dChars (dVar 0)) (gSetF 2) (dAsg (dOp fAdd [.v (dOp fAdd [.v (dOp fMul [.pk 1, .v (dC (.int 27))]), .v (dRdM "str" fSIndex (.v (dC (.str "abcdefghijklmnopqrstuvwxyz"))) [.pk 2])]), .v (dC (.int 1))]) (gSetF 1)))
  (dRet (dVar 1)))))
def sp_number_of (K : PySem.W.Frag) : Tr.Spec := specOf 3 [] (ds_number_of K)
theorem T_number_of (T : Txt K mg) (D_check_name : Dt P w K mg base 3 "check_name" ["name"] [] (sp_check_name K)) (A : At K mg "number_of" s_number_of ["name"]) : Dt P w K mg base 4 "number_of" ["name"] [] (sp_number_of K) :=
  A.tok sc_number_of (by decide) (by decide) fun f cdv A outer s H E hr tk hp => (p_cons (s_expr (t_call (io := []) D_check_name (by first | exact hr | exact hr.mono (by decide)) tk (a_cons (t_var (i := 0) (by rfl) (by walk_at "vis")) a_nil) (by rfl) [] (hb_of (by decide)) rfl))
  (p_cons (s_setF (i := 1) t_int sc_number_of.nd (by rfl) (by walk_at "loc") (by decide))
  (p_cons (s_for hp (by rfl) (i_str (t_var (i := 0) (by rfl) (by walk_at "vis"))) (g_setF (i := 2) sc_number_of.nd (by rfl) (by walk_at "loc"))
  (p_one (s_setF (i := 1) (t_op op_addA os_add (o_v (t_op op_addA os_add (o_v (t_op op_mulA os_mul (o_pk (i := 1) (by rfl) (by walk_at "vis")) (o_v (t_glob (by rfl) T.g_STEP (by exact T.v_STEP))))) (o_v (t_rdm (by decide) os_sindex (o_v (t_glob (by rfl) T.g_LETTERS (by exact T.v_LETTERS))) (l_cons (o_pk (i := 2) (by rfl) (by walk_at "vis")) l_nil) (fun h h2 => pe_bmK K PySem.F.plainAttrs_str PySem.F.slot_str_index PySem.F.type_str_index mt_sindex h h2))))) (o_v t_int)) sc_number_of.nd (by rfl) (by walk_at "loc") (by decide))) (by decide))
  (p_one (s_ret (t_var (i := 1) (by rfl) (by walk_at "vis")))))))
def ds_Town__check_house (K : PySem.W.Frag) : DS :=
  (dSeq (dExpr (dCall [] (sp_check_name K) (dCons (dVar 1) dNil)))
  (dIf (dT (dOp (fDIn true) [.pk 1, .v (dFld (He.ga K "Town") "_houses" (dVar 0))])) (dRaise (He.ga K "NoHouse") ["name"] (dCons (dVar 1) dNil)) dSkip))
def sp_Town__check_house (K : PySem.W.Frag) : Tr.Spec := specOf 2 [] (ds_Town__check_house K)
theorem T_Town__check_house (T : Txt K mg) (R_NoHouse : Cm.Rd P w K mg base "NoHouse" ["name"]) (D_check_name : Dt P w K mg base 3 "check_name" ["name"] [] (sp_check_name K)) (A : AtM K "Town" "_check_house" "Town._check_house" s_Town__check_house ["self", "name"]) : DtM P w K mg base 4 "Town" "_check_house" ["self", "name"] [] (sp_Town__check_house K) :=
  A.tok sc_Town__check_house (by decide) (by decide) fun f cdv A outer s H E hr tk hp => (p_cons (s_expr (t_call (io := []) D_check_name (by first | exact hr | exact hr.mono (by decide)) tk (a_cons (t_var (i := 1) (by rfl) (by walk_at "vis")) a_nil) (by rfl) [] (hb_of (by decide)) rfl))
  (p_one (s_if (b_dnotin (hu1 hr.units) (o_pk (i := 1) (by rfl) (by walk_at "vis")) (o_v (t_fld T.c_Town T.na_Town__houses (t_var (i := 0) (by rfl) (by walk_at "vis"))))) (p_one (s_raise rfl tk R_NoHouse (by first | exact hr | exact hr.mono (by decide)) (a_cons (t_var (i := 1) (by rfl) (by walk_at "vis")) a_nil) (by decide))) p_nil)))
def ds_Town_weight_of (K : PySem.W.Frag) : DS :=
  (dSeq (dExpr (dCall [] (sp_Town__check_house K) (dCons (dChk (He.ga K "Town") "_check_house" (dVar 0)) (dCons (dVar 1) dNil))))
  (dRet (dOp fIx [.v (dOp fDGet [.v (dFld (He.ga K "Town") "_houses" (dVar 0)), .pk 1]), .v (dC (.int 1))])))
def sp_Town_weight_of (K : PySem.W.Frag) : Tr.Spec := specOf 2 [] (ds_Town_weight_of K)
theorem T_Town_weight_of (T : Txt K mg) (D_Town__check_house : DtM P w K mg base 4 "Town" "_check_house" ["self", "name"] [] (sp_Town__check_house K)) (A : AtM K "Town" "weight_of" "Town.weight_of" s_Town_weight_of ["self", "name"]) : DtM P w K mg base 5 "Town" "weight_of" ["self", "name"] [] (sp_Town_weight_of K) :=
  A.tok sc_Town_weight_of (by decide) (by decide) fun f cdv A outer s H E hr tk hp => (p_cons (s_expr (t_meth (io := []) D_Town__check_house T.c_Town T.me_Town__check_house (by first | exact hr | exact hr.mono (by decide)) tk (t_var (i := 0) (by rfl) (by walk_at "vis")) (a_cons (t_var (i := 1) (by rfl) (by walk_at "vis")) a_nil) (by rfl) [] (hb_of (by decide)) rfl))
  (p_one (s_ret (t_ix ix_seq os_ix (o_v (t_dget (hu1 hr.units) (o_v (t_fld T.c_Town T.na_Town__houses (t_var (i := 0) (by rfl) (by walk_at "vis")))) (o_pk (i := 1) (by rfl) (by walk_at "vis")))) (o_v t_int)))))
def ds_score (K : PySem.W.Frag) : DS :=
  (dSeq (dAsg (dCall [] (sp_number_of K) (dCons (dVar 1) dNil)) (gSetF 3))
  (dSeq (dAsg (dCall [] (sp_number_of K) (dCons (dVar 2) dNil)) (gSetF 4))
  (dSeq (dAsg (dCall [] (sp_Town_weight_of K) (dCons (dChk (He.ga K "Town") "weight_of" (dVar 0)) (dCons (dVar 2) dNil))) (gSetF 5))
  (dSeq (dAsg (dOp (fIC (fun _ j => 0 < j) fun i j => .int (i % j)) [.v (dOp fAdd [.v (dOp fMul [.v (dC (.int 101)), .pk 3]), .pk 4]), .v (dC (.int 1000003))]) (gSetF 6))
  (dSeq (dAsg (dOp (fIC (fun _ j => 0 < j) fun i j => .int (i % j)) [.v (dOp fAdd [.v (dOp fMul [.pk 6, .pk 6]), .pk 4]), .v (dC (.int 1000003))]) (gSetF 7))
  (dRet (dOp fMul [.pk 5, .v (dOp fAdd [.v (dC (.int 1)), .v (dOp (fIC (fun _ j => 0 < j) fun i j => .int (i % j)) [.v (dOp fAdd [.v (dOp fMul [.pk 7, .pk 7]), .pk 3]), .v (dC (.int 1000003))])])])))))))
def sp_score (K : PySem.W.Frag) : Tr.Spec := specOf 8 [] (ds_score K)
theorem T_score (T : Txt K mg) (D_Town_weight_of : DtM P w K mg base 5 "Town" "weight_of" ["self", "name"] [] (sp_Town_weight_of K)) (D_number_of : Dt P w K mg base 4 "number_of" ["name"] [] (sp_number_of K)) (A : At K mg "score" s_score ["town", "name", "house"]) : Dt P w K mg base 6 "score" ["town", "name", "house"] [] (sp_score K) :=
  A.tok sc_score (by decide) (by decide) fun f cdv A outer s H E hr tk hp => (p_cons (s_setF (i := 3) (t_call (io := []) D_number_of (by first | exact hr | exact hr.mono (by decide)) tk (a_cons (t_var (i := 1) (by rfl) (by walk_at "vis")) a_nil) (by rfl) [] (hb_of (by decide)) rfl) sc_score.nd (by rfl) (by walk_at "loc") (by decide))
  (p_cons (s_setF (i := 4) (t_call (io := []) D_number_of (by first | exact hr | exact hr.mono (by decide)) tk (a_cons (t_var (i := 2) (by rfl) (by walk_at "vis")) a_nil) (by rfl) [] (hb_of (by decide)) rfl) sc_score.nd (by rfl) (by walk_at "loc") (by decide))
  (p_cons (s_setF (i := 5) (t_meth (io := []) D_Town_weight_of T.c_Town T.me_Town_weight_of (by first | exact hr | exact hr.mono (by decide)) tk (t_var (i := 0) (by rfl) (by walk_at "vis")) (a_cons (t_var (i := 2) (by rfl) (by walk_at "vis")) a_nil) (by rfl) [] (hb_of (by decide)) rfl) sc_score.nd (by rfl) (by walk_at "loc") (by decide))
  (p_cons (s_setF (i := 6) (t_op op_mod os_IC (o_v (t_op op_addA os_add (o_v (t_op op_mulA os_mul (o_v t_int) (o_pk (i := 3) (by rfl) (by walk_at "vis")))) (o_pk (i := 4) (by rfl) (by walk_at "vis")))) (o_v (t_glob (by rfl) T.g_ROUND (by exact T.v_ROUND)))) sc_score.nd (by rfl) (by walk_at "loc") (by decide))
  (p_cons (s_setF (i := 7) (t_op op_mod os_IC (o_v (t_op op_addA os_add (o_v (t_op op_mulA os_mul (o_pk (i := 6) (by rfl) (by walk_at "vis")) (o_pk (i := 6) (by rfl) (by walk_at "vis")))) (o_pk (i := 4) (by rfl) (by walk_at "vis")))) (o_v (t_glob (by rfl) T.g_ROUND (by exact T.v_ROUND)))) sc_score.nd (by rfl) (by walk_at "loc") (by decide))
  (p_one (s_ret (t_op op_mulA os_mul (o_pk (i := 5) (by rfl) (by walk_at "vis")) (o_v (t_op op_addA os_add (o_v t_int) (o_v (t_op op_mod os_IC (o_v (t_op op_addA os_add (o_v (t_op op_mulA os_mul (o_pk (i := 7) (by rfl) (by walk_at "vis")) (o_pk (i := 7) (by rfl) (by walk_at "vis")))) (o_pk (i := 3) (by rfl) (by walk_at "vis")))) (o_v (t_glob (by rfl) T.g_ROUND (by exact T.v_ROUND)))))))))))))))
def ds_is_whole (K : PySem.W.Frag) : DS :=
  (dRet (dAndV (dOp (fIs1 K) [.pk 0, .v (dC (.ty "int"))]) (dNotV (dOp (fIs1 K) [.pk 0, .v (dC (.ty "bool"))]))))
def sp_is_whole (K : PySem.W.Frag) : Tr.Spec := specOf 1 [] (ds_is_whole K)
theorem T_is_whole (T : Txt K mg)  (A : At K mg "is_whole" s_is_whole ["thing"]) : Dt P w K mg base 2 "is_whole" ["thing"] [] (sp_is_whole K) :=
  A.tok sc_is_whole (by decide) (by decide) fun f cdv A outer s H E hr tk hp => (p_one (s_ret (t_and (t_B call_isA os_is1 (by rfl) T.n_isinstance (by decide +kernel) (l_cons (o_pk (i := 0) (by rfl) (by walk_at "vis")) (l_cons (o_v (t_bltn (v := .ty "int") (u := .type "int") (by rfl) T.n_int (by decide +kernel) (by exact rfl))) l_nil))) (t_one (t_not (t_B call_isA os_is1 (by rfl) T.n_isinstance (by decide +kernel) (l_cons (o_pk (i := 0) (by rfl) (by walk_at "vis")) (l_cons (o_v (t_bltn (v := .ty "bool") (u := .type "bool") (by rfl) T.n_bool (by decide +kernel) (by exact rfl))) l_nil))))))))
def ds_is_between (K : PySem.W.Frag) : DS :=
  (dRet (dAndV (dCall [] (sp_is_whole K) (dCons (dVar 0) dNil)) (dChain fLe fLe (dVar 1) (dVar 0) (dVar 2))))
def sp_is_between (K : PySem.W.Frag) : Tr.Spec := specOf 3 [] (ds_is_between K)
theorem T_is_between (T : Txt K mg) (D_is_whole : Dt P w K mg base 2 "is_whole" ["thing"] [] (sp_is_whole K)) (A : At K mg "is_between" s_is_between ["thing", "least", "most"]) : Dt P w K mg base 3 "is_between" ["thing", "least", "most"] [] (sp_is_between K) :=
  A.tok sc_is_between (by decide) (by decide) fun f cdv A outer s H E hr tk hp => (p_one (s_ret (t_and (t_call (io := []) D_is_whole (by first | exact hr | exact hr.mono (by decide)) tk (a_cons (t_var (i := 0) (by rfl) (by walk_at "vis")) a_nil) (by rfl) [] (hb_of (by decide)) rfl) (t_one (t_chain (op_leA) os_cmp (op_leA) os_cmp (t_var (i := 1) (by rfl) (by walk_at "vis")) (t_var (i := 0) (by rfl) (by walk_at "vis")) (t_var (i := 2) (by rfl) (by walk_at "vis")))))))
def ds_check_weight (K : PySem.W.Frag) : DS :=
  (dIf (dNot (dTr (dCall [] (sp_is_between K) (dCons (dVar 0) (dCons (dC (.int 0)) (dCons (dC (.int 1000)) dNil)))))) (dRaise (He.ga K "NoWeight") ["weight"] (dCons (dVar 0) dNil)) dSkip)
def sp_check_weight (K : PySem.W.Frag) : Tr.Spec := specOf 1 [] (ds_check_weight K)
theorem T_check_weight (T : Txt K mg) (R_NoWeight : Cm.Rd P w K mg base "NoWeight" ["weight"]) (D_is_between : Dt P w K mg base 3 "is_between" ["thing", "least", "most"] [] (sp_is_between K)) (A : At K mg "check_weight" s_check_weight ["weight"]) : Dt P w K mg base 4 "check_weight" ["weight"] [] (sp_check_weight K) :=
  A.tok sc_check_weight (by decide) (by decide) fun f cdv A outer s H E hr tk hp => (p_one (s_if (b_not (b_tr (t_call (io := []) D_is_between (by first | exact hr | exact hr.mono (by decide)) tk (a_cons (t_var (i := 0) (by rfl) (by walk_at "vis")) (a_cons t_int (a_cons (t_glob (by rfl) T.g_HEAVIEST (by exact T.v_HEAVIEST)) a_nil))) (by rfl) [] (hb_of (by decide)) rfl))) (p_one (s_raise rfl tk R_NoWeight (by first | exact hr | exact hr.mono (by decide)) (a_cons (t_var (i := 0) (by rfl) (by walk_at "vis")) a_nil) (by decide))) p_nil))
def ds__law_cell_at (K : PySem.W.Frag) : DS :=
  (dSeq (dIf (dT (dOp fLt [.pk 1, .v (dOp fLen [.pk 0])])) (dRet (dOp fIx [.pk 0, .pk 1])) dSkip)
  (dRet (dC (.int 0))))
def sp__law_cell_at (K : PySem.W.Frag) : Tr.Spec := specOf 2 [] (ds__law_cell_at K)
theorem T__law_cell_at (T : Txt K mg)  (A : At K mg "_law_cell_at" s__law_cell_at ["script", "k"]) : Dt P w K mg base 2 "_law_cell_at" ["script", "k"] [] (sp__law_cell_at K) :=
  A.tok sc__law_cell_at (by decide) (by decide) fun f cdv A outer s H E hr tk hp => (p_cons (s_if (b_cmp (op_ltA) os_cmp (o_pk (i := 1) (by rfl) (by walk_at "vis")) (o_v (t_B call_len os_len (by rfl) T.n_len (by decide +kernel) (l_cons (o_pk (i := 0) (by rfl) (by walk_at "vis")) l_nil))) (nomark _)) (p_one (s_ret (t_ix ix_seq os_ix (o_pk (i := 0) (by rfl) (by walk_at "vis")) (o_pk (i := 1) (by rfl) (by walk_at "vis"))))) p_nil)
  (p_one (s_ret t_int)))
def ds__law_pot (K : PySem.W.Frag) : DS :=
  (dRet (dNew .lst (dCons (dOp fMax [.v (dC (.int 0)), .v (dOp (fII fun i j => .int (i - j)) [.pk 0, .v (dOp (fIC CPowW fun i j => .int (i ^ j.toNat)) [.v (dC (.int 10)), .v (dC (.int 18))])])]) (dCons (dOp (fIC (fun _ j => 0 < j) fun i j => .int (i % j)) [.pk 0, .v (dC (.int 170141183460469231731687303715884105727))]) (dCons (dC (.int 0)) dNil)))))
def sp__law_pot (K : PySem.W.Frag) : Tr.Spec := specOf 1 [] (ds__law_pot K)
theorem T__law_pot (T : Txt K mg)  (A : At K mg "_law_pot" s__law_pot ["cell"]) : Dt P w K mg base 2 "_law_pot" ["cell"] [] (sp__law_pot K) :=
  A.tok sc__law_pot (by decide) (by decide) fun f cdv A outer s H E hr tk hp => (p_one (s_ret (t_lst (a_cons (t_B (cr_maxA rfl) os_max (by rfl) T.n_max (by decide +kernel) (l_cons (o_v t_int) (l_cons (o_v (t_op op_sub os_II (o_pk (i := 0) (by rfl) (by walk_at "vis")) (o_v (t_op op_powW os_IC (o_v t_int) (o_v t_int))))) l_nil))) (a_cons (t_op op_mod os_IC (o_pk (i := 0) (by rfl) (by walk_at "vis")) (o_v t_int)) (a_cons t_int a_nil))))))
def ds__law_pick (K : PySem.W.Frag) : DS :=
  (dSeq (dIf (dT (dOp fGt [.v (dOp fIx [.pk 0, .v (dC (.int 0))]), .v (dC (.int 1))])) (dSeq (dAsg (dOp (fIC (fun _ j => 0 < j) fun i j => .int (i % j)) [.v (dOp fIx [.pk 0, .v (dC (.int 0))]), .pk 1]) (gSetF 2))
  (dSeq (dPutA 0 fSetL (dFz (dOp (fIC CDivW fun i j => .int (i / j)) [.v (dOp fIx [.pk 0, .v (dC (.int 0))]), .pk 1])) (dC (.int 0)))
  (dRet (dVar 2)))) dSkip)
  (dSeq (dPutA 0 fSetL (dFz (dOp fAdd [.v (dOp fIx [.pk 0, .v (dC (.int 2))]), .v (dC (.int 1))])) (dC (.int 2)))
  (dSeq (dAsg (dOp (fIC (fun _ j => 0 < j) fun i j => .int (i % j)) [.v (dOp (fIC CPowW fun i j => .int (i ^ j.toNat)) [.v (dOp fAdd [.v (dOp fAdd [.v (dOp fIx [.pk 0, .v (dC (.int 1))]), .v (dOp fMul [.v (dC (.int 9176263)), .v (dOp fIx [.pk 0, .v (dC (.int 2))])])]), .v (dC (.int 57))]), .v (dC (.int 3))]), .v (dC (.int 162259276829213363391578010288127))]) (gSetF 3))
  (dSeq (dAsg (dOp (fIC (fun _ j => 0 < j) fun i j => .int (i % j)) [.v (dOp (fIC CPowW fun i j => .int (i ^ j.toNat)) [.v (dOp fAdd [.pk 3, .v (dOp fMul [.v (dC (.int 15487469)), .v (dOp fIx [.pk 0, .v (dC (.int 2))])])]), .v (dC (.int 5))]), .v (dC (.int 618970019642690137449562111))]) (gSetF 3))
  (dRet (dOp (fIC (fun _ j => 0 < j) fun i j => .int (i % j)) [.v (dOp (fIC CDivW fun i j => .int (i / j)) [.pk 3, .v (dC (.int 65536))]), .pk 1]))))))
def sp__law_pick (K : PySem.W.Frag) : Tr.Spec := specOf 4 [0] (ds__law_pick K)
theorem T__law_pick (T : Txt K mg)  (A : At K mg "_law_pick" s__law_pick ["pot", "many"]) : Dt P w K mg base 2 "_law_pick" ["pot", "many"] [0] (sp__law_pick K) :=
  A.tok sc__law_pick (by decide) (by decide) fun f cdv A outer s H E hr tk hp => (p_cons (s_if (b_cmp (op_gtA) os_cmp (o_v (t_ix ix_seq os_ix (o_pk (i := 0) (by rfl) (by walk_at "vis")) (o_v t_int))) (o_v t_int) (nomark _)) (p_cons (s_setF (i := 2) (t_op op_mod os_IC (o_v (t_ix ix_seq os_ix (o_pk (i := 0) (by rfl) (by walk_at "vis")) (o_v t_int))) (o_pk (i := 1) (by rfl) (by walk_at "vis"))) sc__law_pick.nd (by rfl) (by walk_at "loc") (by decide))
  (p_cons (s_putL (i := 0) (by rfl) (by walk_at "vis") (t_fz (t_op op_fdivW os_IC (o_v (t_ix ix_seq os_ix (o_pk (i := 0) (by rfl) (by walk_at "vis")) (o_v t_int))) (o_pk (i := 1) (by rfl) (by walk_at "vis")))) t_int (hg := fun h => pg_sub (pe_var (i := 0) (by rfl) (by walk_at "vis")) h set_list))
  (p_one (s_ret (t_var (i := 2) (by rfl) (by walk_at "vis")))))) p_nil)
  (p_cons (s_putL (i := 0) (by rfl) (by walk_at "vis") (t_fz (t_op op_addA os_add (o_v (t_ix ix_seq os_ix (o_pk (i := 0) (by rfl) (by walk_at "vis")) (o_v t_int))) (o_v t_int))) t_int (hg := fun h => pg_sub (pe_var (i := 0) (by rfl) (by walk_at "vis")) h set_list))
  (p_cons (s_setF (i := 3) (t_op op_mod os_IC (o_v (t_op op_powW os_IC (o_v (t_op op_addA os_add (o_v (t_op op_addA os_add (o_v (t_ix ix_seq os_ix (o_pk (i := 0) (by rfl) (by walk_at "vis")) (o_v t_int))) (o_v (t_op op_mulA os_mul (o_v t_int) (o_v (t_ix ix_seq os_ix (o_pk (i := 0) (by rfl) (by walk_at "vis")) (o_v t_int))))))) (o_v t_int))) (o_v t_int))) (o_v t_int)) sc__law_pick.nd (by rfl) (by walk_at "loc") (by decide))
  (p_cons (s_setF (i := 3) (t_op op_mod os_IC (o_v (t_op op_powW os_IC (o_v (t_op op_addA os_add (o_pk (i := 3) (by rfl) (by walk_at "vis")) (o_v (t_op op_mulA os_mul (o_v t_int) (o_v (t_ix ix_seq os_ix (o_pk (i := 0) (by rfl) (by walk_at "vis")) (o_v t_int))))))) (o_v t_int))) (o_v t_int)) sc__law_pick.nd (by rfl) (by walk_at "loc") (by decide))
  (p_one (s_ret (t_op op_mod os_IC (o_v (t_op op_fdivW os_IC (o_pk (i := 3) (by rfl) (by walk_at "vis")) (o_v t_int))) (o_pk (i := 1) (by rfl) (by walk_at "vis")))))))))
def ds__law_name (K : PySem.W.Frag) : DS :=
  (dSeq (dAsg (dC (.str "abcdefghijklmnopqrstuvwxyz")) (gSetF 1))
  (dSeq (dAsg (dOp fIx [.v (dNew .lst (dCons (dC (.int 1)) (dCons (dC (.int 2)) (dCons (dC (.int 8)) (dCons (dOp fAdd [.v (dC (.int 1)), .v (dCall [0] (sp__law_pick K) (dCons (dMv 0) (dCons (dC (.int 8)) dNil)))]) dNil))))), .v (dCall [0] (sp__law_pick K) (dCons (dMv 0) (dCons (dC (.int 4)) dNil)))]) (gSetF 2))
  (dRet (dRdM "str" fJoin (.v (dC (.str ""))) [.v (dComp [3] (dRng1 (dCons (dVar 2) dNil)) (gSetF 3) dYes (dOp fIx [.pk 1, .v (dCall [0] (sp__law_pick K) (dCons (dMv 0) (dCons (dC (.int 26)) dNil)))]))]))))
def sp__law_name (K : PySem.W.Frag) : Tr.Spec := specOf 4 [0] (ds__law_name K)
theorem T__law_name (T : Txt K mg) (D__law_pick : Dt P w K mg base 2 "_law_pick" ["pot", "many"] [0] (sp__law_pick K)) (A : At K mg "_law_name" s__law_name ["pot"]) : Dt P w K mg base 3 "_law_name" ["pot"] [0] (sp__law_name K) :=
  A.tok sc__law_name (by decide) (by decide) fun f cdv A outer s H E hr tk hp => (p_cons (s_setF (i := 1) t_str sc__law_name.nd (by rfl) (by walk_at "loc") (by decide))
  (p_cons (s_setF (i := 2) (t_ix ix_seq os_ix (o_v (t_lst (a_cons t_int (a_cons t_int (a_cons t_int (a_cons (t_op op_addA os_add (o_v t_int) (o_v (t_call (io := [0]) D__law_pick (by first | exact hr | exact hr.mono (by decide)) tk (a_mv (i := 0) (a_cons t_int a_nil) (by rfl) (by walk_at "vis")) (by rfl) [0] (hb_of (by decide)) rfl))) a_nil)))))) (o_v (t_call (io := [0]) D__law_pick (by first | exact hr | exact hr.mono (by decide)) tk (a_mv (i := 0) (a_cons t_int a_nil) (by rfl) (by walk_at "vis")) (by rfl) [0] (hb_of (by decide)) rfl))) sc__law_name.nd (by rfl) (by walk_at "loc") (by decide))
  (p_one (s_ret (t_rdm (by decide) os_join (o_v t_str) (l_cons (o_v (t_lc (own := [("k", 3)]) (by rfl) sc__law_name.nd (i_rng1 (by rfl) T.n_range (a_cons (t_var (i := 2) (by rfl) (by walk_at "vis")) a_nil)) (blkOk_by (own := [("k", 3)]) (N := ["pot", "letters", "size", "k"]) (sc := defScope s__law_name) (by decide +kernel)) (fun z => (g_setF (i := 3) sc__law_name.nd (by rfl) (by walk_at "loc") (by walk_at "loc"))) (fun z => c_yes) (fun z => (t_ix ix_seq os_ix (o_pk (i := 1) (by rfl) (by walk_at "vis")) (o_v (t_call (io := [0]) D__law_pick (by first | exact hr | exact hr.mono (by decide)) takes_none5 (a_mv (i := 0) (a_cons t_int a_nil) (by rfl) (by walk_at "vis")) (by rfl) [0] (hb_of (by decide)) rfl)))) (by decide))) l_nil) (fun h h2 => pe_bmK K PySem.F.plainAttrs_str PySem.F.slot_str_join PySem.F.type_str_join mt_join h h2))))))
def ds__law_names (K : PySem.W.Frag) : DS :=
  (dSeq (dAsg (dC (.str "abcdefghijklmnopqrstuvwxyz")) (gSetF 2))
  (dSeq (dAsg (dCall [0] (sp__law_pick K) (dCons (dMv 0) (dCons (dC (.int 3)) dNil))) (gSetF 3))
  (dSeq (dAsg (dNew .lst dNil) (gSet 4))
  (dSeq (dFor (dRng1 (dCons (dVar 1) dNil)) (gSetF 5) (dSeq (dAsg (dCall [0] (sp__law_name K) (dCons (dMv 0) dNil)) (gSetF 6))
  (dSeq (dIf (dAnd (dT (dOp fGt [.pk 3, .v (dC (.int 0))])) (dT (dOp fNe [.pk 4, .v (dNew .lst dNil)]))) (dSeq (dAsg (dOp fIx [.pk 4, .v (dCall [0] (sp__law_pick K) (dCons (dMv 0) (dCons (dFz (dOp fLen [.pk 4])) dNil)))]) (gSetF 7))
  (dSeq (dAsg (dCall [0] (sp__law_pick K) (dCons (dMv 0) (dCons (dFz (dOp fLen [.pk 7])) dNil))) (gSetF 8))
  (dAsg (dOp fSl01 [.v (dOp fAdd [.v (dOp fAdd [.v (dOp fSl01 [.pk 7, .pk 8]), .v (dOp fIx [.pk 2, .v (dCall [0] (sp__law_pick K) (dCons (dMv 0) (dCons (dC (.int 26)) dNil)))])]), .v (dOp fSl10 [.pk 7, .v (dOp (fII fun i j => .int (i - j)) [.v (dOp fAdd [.pk 8, .v (dC (.int 2))]), .pk 3])])]), .v (dC (.int 8))]) (gSetF 6)))) dSkip)
  (dIf (dT (dOp (fIn true) [.pk 6, .pk 4])) (dExpr (dMutA 4 "list" fAppend (dCons (dVar 6) dNil))) dSkip))))
  (dRet (dMv 4))))))
def sp__law_names (K : PySem.W.Frag) : Tr.Spec := specOf 9 [0] (ds__law_names K)
theorem T__law_names (T : Txt K mg) (D__law_pick : Dt P w K mg base 2 "_law_pick" ["pot", "many"] [0] (sp__law_pick K)) (D__law_name : Dt P w K mg base 3 "_law_name" ["pot"] [0] (sp__law_name K)) (A : At K mg "_law_names" s__law_names ["pot", "many"]) : Dt P w K mg base 4 "_law_names" ["pot", "many"] [0] (sp__law_names K) :=
  A.tok sc__law_names (by decide) (by decide) fun f cdv A outer s H E hr tk hp => (p_cons (s_setF (i := 2) t_str sc__law_names.nd (by rfl) (by walk_at "loc") (by decide))
  (p_cons (s_setF (i := 3) (t_call (io := [0]) D__law_pick (by first | exact hr | exact hr.mono (by decide)) tk (a_mv (i := 0) (a_cons t_int a_nil) (by rfl) (by walk_at "vis")) (by rfl) [0] (hb_of (by decide)) rfl) sc__law_names.nd (by rfl) (by walk_at "loc") (by decide))
  (p_cons (s_set (i := 4) (t_lst a_nil) sc__law_names.nd (by rfl) (by walk_at "loc") (by decide))
  (p_cons (s_for hp (by rfl) (i_rng1 (by rfl) T.n_range (a_cons (t_var (i := 1) (by rfl) (by walk_at "vis")) a_nil)) (g_setF (i := 5) sc__law_names.nd (by rfl) (by walk_at "loc"))
  (p_cons (s_setF (i := 6) (t_call (io := [0]) D__law_name (by first | exact hr | exact hr.mono (by decide)) tk (a_mv (i := 0) a_nil (by rfl) (by walk_at "vis")) (by rfl) [0] (hb_of (by decide)) rfl) sc__law_names.nd (by rfl) (by walk_at "loc") (by decide))
  (p_cons (s_if (b_w (w_and (b_cmp (op_gtA) os_cmp (o_pk (i := 3) (by rfl) (by walk_at "vis")) (o_v t_int) (nomark _)) (w_and1 (b_cmp (op_neD hr.units) os_ne (o_pk (i := 4) (by rfl) (by walk_at "vis")) (o_v (t_lst a_nil)) (nomark _))))) (p_cons (s_setF (i := 7) (t_ix ix_seq os_ix (o_pk (i := 4) (by rfl) (by walk_at "vis")) (o_v (t_call (io := [0]) D__law_pick (by first | exact hr | exact hr.mono (by decide)) tk (a_mv (i := 0) (a_cons (t_fz (t_B call_len os_len (by rfl) T.n_len (by decide +kernel) (l_cons (o_pk (i := 4) (by rfl) (by walk_at "vis")) l_nil))) a_nil) (by rfl) (by walk_at "vis")) (by rfl) [0] (hb_of (by decide)) rfl))) sc__law_names.nd (by rfl) (by walk_at "loc") (by decide))
  (p_cons (s_setF (i := 8) (t_call (io := [0]) D__law_pick (by first | exact hr | exact hr.mono (by decide)) tk (a_mv (i := 0) (a_cons (t_fz (t_B call_len os_len (by rfl) T.n_len (by decide +kernel) (l_cons (o_pk (i := 7) (by rfl) (by walk_at "vis")) l_nil))) a_nil) (by rfl) (by walk_at "vis")) (by rfl) [0] (hb_of (by decide)) rfl) sc__law_names.nd (by rfl) (by walk_at "loc") (by decide))
  (p_one (s_setF (i := 6) (t_sl01 (o_v (t_op op_addA os_add (o_v (t_op op_addA os_add (o_v (t_sl01 (o_pk (i := 7) (by rfl) (by walk_at "vis")) (o_pk (i := 8) (by rfl) (by walk_at "vis")))) (o_v (t_ix ix_seq os_ix (o_pk (i := 2) (by rfl) (by walk_at "vis")) (o_v (t_call (io := [0]) D__law_pick (by first | exact hr | exact hr.mono (by decide)) tk (a_mv (i := 0) (a_cons t_int a_nil) (by rfl) (by walk_at "vis")) (by rfl) [0] (hb_of (by decide)) rfl)))))) (o_v (t_sl10 (o_pk (i := 7) (by rfl) (by walk_at "vis")) (o_v (t_op op_sub os_II (o_v (t_op op_addA os_add (o_pk (i := 8) (by rfl) (by walk_at "vis")) (o_v t_int))) (o_pk (i := 3) (by rfl) (by walk_at "vis")))))))) (o_v t_int)) sc__law_names.nd (by rfl) (by walk_at "loc") (by decide))))) p_nil)
  (p_one (s_if (b_cmp (op_notInA (hu65 hr)) os_in (o_pk (i := 6) (by rfl) (by walk_at "vis")) (o_pk (i := 4) (by rfl) (by walk_at "vis")) rfl) (p_one (s_expr (t_mut (i := 4) (by decide) ms_append (a_cons (t_var (i := 6) (by rfl) (by walk_at "vis")) a_nil) (fun h => pe_bmK K PySem.F.plainAttrs_list PySem.F.slot_list_append PySem.F.type_list_append mt_append (pe_var (i := 4) (by rfl) (by walk_at "vis")) h)))) p_nil)))) (by decide))
  (p_one (s_ret (t_mv (i := 4) (by rfl) (by walk_at "vis"))))))))
def ds__law_houses (K : PySem.W.Frag) : DS :=
  (dSeq (dAsg (dCall [0] (sp__law_names K) (dConsL 0 (dCons (dFz (dOp fIx [.v (dNew .lst (dCons (dC (.int 1)) (dCons (dOp fAdd [.v (dC (.int 1)), .v (dCall [0] (sp__law_pick K) (dCons (dMv 0) (dCons (dC (.int 3)) dNil)))]) (dCons (dOp fAdd [.v (dC (.int 1)), .v (dCall [0] (sp__law_pick K) (dCons (dMv 0) (dCons (dC (.int 8)) dNil)))]) dNil)))), .v (dCall [0] (sp__law_pick K) (dCons (dMv 0) (dCons (dC (.int 3)) dNil)))])) dNil))) (gSetF 2))
  (dSeq (dAsg (dCall [0] (sp__law_pick K) (dCons (dMv 0) (dCons (dC (.int 4)) dNil))) (gSetF 3))
  (dSeq (dAsg (dNew .lst dNil) (gSet 4))
  (dSeq (dFor (dItems (dCall [0] (sp__law_names K) (dConsL 0 (dCons (dFz (dCall [0] (sp__law_pick K) (dCons (dMv 0) (dCons (dFz (dOp fAdd [.pk 1, .v (dC (.int 1))])) dNil)))) dNil)))) (gSetF 5) (dSeq (dAsg (dOp fIx [.v (dNew .lst (dCons (dOp fAdd [.v (dC (.int 1)), .v (dCall [0] (sp__law_pick K) (dCons (dMv 0) (dCons (dC (.int 3)) dNil)))]) (dCons (dC (.int 1)) (dCons (dCall [0] (sp__law_pick K) (dCons (dMv 0) (dCons (dC (.int 3)) dNil))) (dCons (dCall [0] (sp__law_pick K) (dCons (dMv 0) (dCons (dC (.int 1001)) dNil))) dNil))))), .pk 3]) (gSetF 6))
  (dExpr (dMutA 4 "list" fAppend (dCons (dNew .tup (dCons (dVar 5) (dCons (dOp fIx [.pk 2, .v (dCall [0] (sp__law_pick K) (dCons (dMv 0) (dCons (dFz (dOp fLen [.pk 2])) dNil)))]) (dCons (dVar 6) dNil)))) dNil)))))
  (dRet (dMv 4))))))
def sp__law_houses (K : PySem.W.Frag) : Tr.Spec := specOf 7 [0] (ds__law_houses K)
theorem T__law_houses (T : Txt K mg) (D__law_names : Dt P w K mg base 4 "_law_names" ["pot", "many"] [0] (sp__law_names K)) (D__law_pick : Dt P w K mg base 2 "_law_pick" ["pot", "many"] [0] (sp__law_pick K)) (A : At K mg "_law_houses" s__law_houses ["pot", "most"]) : Dt P w K mg base 5 "_law_houses" ["pot", "most"] [0] (sp__law_houses K) :=
  A.tok sc__law_houses (by decide) (by decide) fun f cdv A outer s H E hr tk hp => (p_cons (s_setF (i := 2) (t_call (io := [0]) D__law_names (by first | exact hr | exact hr.mono (by decide)) tk (a_mvL (i := 0) (a_cons (t_fz (t_ix ix_seq os_ix (o_v (t_lst (a_cons t_int (a_cons (t_op op_addA os_add (o_v t_int) (o_v (t_call (io := [0]) D__law_pick (by first | exact hr | exact hr.mono (by decide)) tk (a_mv (i := 0) (a_cons t_int a_nil) (by rfl) (by walk_at "vis")) (by rfl) [0] (hb_of (by decide)) rfl))) (a_cons (t_op op_addA os_add (o_v t_int) (o_v (t_call (io := [0]) D__law_pick (by first | exact hr | exact hr.mono (by decide)) tk (a_mv (i := 0) (a_cons t_int a_nil) (by rfl) (by walk_at "vis")) (by rfl) [0] (hb_of (by decide)) rfl))) a_nil))))) (o_v (t_call (io := [0]) D__law_pick (by first | exact hr | exact hr.mono (by decide)) tk (a_mv (i := 0) (a_cons t_int a_nil) (by rfl) (by walk_at "vis")) (by rfl) [0] (hb_of (by decide)) rfl)))) a_nil) (by rfl) (by walk_at "vis")) (by rfl) [0] (hb_of (by decide)) rfl) sc__law_houses.nd (by rfl) (by walk_at "loc") (by decide))
  (p_cons (s_setF (i := 3) (t_call (io := [0]) D__law_pick (by first | exact hr | exact hr.mono (by decide)) tk (a_mv (i := 0) (a_cons t_int a_nil) (by rfl) (by walk_at "vis")) (by rfl) [0] (hb_of (by decide)) rfl) sc__law_houses.nd (by rfl) (by walk_at "loc") (by decide))
  (p_cons (s_set (i := 4) (t_lst a_nil) sc__law_houses.nd (by rfl) (by walk_at "loc") (by decide))
  (p_cons (s_for hp (by rfl) (i_list (t_call (io := [0]) D__law_names (by first | exact hr | exact hr.mono (by decide)) tk (a_mvL (i := 0) (a_cons (t_fz (t_call (io := [0]) D__law_pick (by first | exact hr | exact hr.mono (by decide)) tk (a_mv (i := 0) (a_cons (t_fz (t_op op_addA os_add (o_pk (i := 1) (by rfl) (by walk_at "vis")) (o_v t_int))) a_nil) (by rfl) (by walk_at "vis")) (by rfl) [0] (hb_of (by decide)) rfl)) a_nil) (by rfl) (by walk_at "vis")) (by rfl) [0] (hb_of (by decide)) rfl)) (g_setF (i := 5) sc__law_houses.nd (by rfl) (by walk_at "loc"))
  (p_cons (s_setF (i := 6) (t_ix ix_seq os_ix (o_v (t_lst (a_cons (t_op op_addA os_add (o_v t_int) (o_v (t_call (io := [0]) D__law_pick (by first | exact hr | exact hr.mono (by decide)) tk (a_mv (i := 0) (a_cons t_int a_nil) (by rfl) (by walk_at "vis")) (by rfl) [0] (hb_of (by decide)) rfl))) (a_cons t_int (a_cons (t_call (io := [0]) D__law_pick (by first | exact hr | exact hr.mono (by decide)) tk (a_mv (i := 0) (a_cons t_int a_nil) (by rfl) (by walk_at "vis")) (by rfl) [0] (hb_of (by decide)) rfl) (a_cons (t_call (io := [0]) D__law_pick (by first | exact hr | exact hr.mono (by decide)) tk (a_mv (i := 0) (a_cons t_int a_nil) (by rfl) (by walk_at "vis")) (by rfl) [0] (hb_of (by decide)) rfl) a_nil)))))) (o_pk (i := 3) (by rfl) (by walk_at "vis"))) sc__law_houses.nd (by rfl) (by walk_at "loc") (by decide))
  (p_one (s_expr (t_mut (i := 4) (by decide) ms_append (a_cons (t_tup (a_cons (t_var (i := 5) (by rfl) (by walk_at "vis")) (a_cons (t_ix ix_seq os_ix (o_pk (i := 2) (by rfl) (by walk_at "vis")) (o_v (t_call (io := [0]) D__law_pick (by first | exact hr | exact hr.mono (by decide)) tk (a_mv (i := 0) (a_cons (t_fz (t_B call_len os_len (by rfl) T.n_len (by decide +kernel) (l_cons (o_pk (i := 2) (by rfl) (by walk_at "vis")) l_nil))) a_nil) (by rfl) (by walk_at "vis")) (by rfl) [0] (hb_of (by decide)) rfl))) (a_cons (t_var (i := 6) (by rfl) (by walk_at "vis")) a_nil)))) a_nil) (fun h => pe_bmK K PySem.F.plainAttrs_list PySem.F.slot_list_append PySem.F.type_list_append mt_append (pe_var (i := 4) (by rfl) (by walk_at "vis")) h))))) (by decide))
  (p_one (s_ret (t_mv (i := 4) (by rfl) (by walk_at "vis"))))))))
def ds__law_is_name (K : PySem.W.Frag) : DS :=
  (dRet (dAndV (dOp fLt [.v (dC (.int 0)), .v (dOp fLen [.pk 0])]) (dAndV (dOp fLt [.v (dOp fLen [.pk 0]), .v (dC (.int 9))]) (dOp fEq [.v (dComp [1] (dChars (dVar 0)) (gSetF 1) (dOr (dT (dOp fLt [.pk 1, .v (dC (.str "a"))])) (dT (dOp fGt [.pk 1, .v (dC (.str "z"))]))) (dVar 1)), .v (dNew .lst dNil)]))))
def sp__law_is_name (K : PySem.W.Frag) : Tr.Spec := specOf 2 [] (ds__law_is_name K)
theorem T__law_is_name (T : Txt K mg)  (A : At K mg "_law_is_name" s__law_is_name ["thing"]) : Dt P w K mg base 2 "_law_is_name" ["thing"] [] (sp__law_is_name K) :=
  A.tok sc__law_is_name (by decide) (by decide) fun f cdv A outer s H E hr tk hp => (p_one (s_ret (t_and (t_cmp (op_ltA) os_cmp (o_v t_int) (o_v (t_B call_len os_len (by rfl) T.n_len (by decide +kernel) (l_cons (o_pk (i := 0) (by rfl) (by walk_at "vis")) l_nil))) (nomark _)) (t_and (t_cmp (op_ltA) os_cmp (o_v (t_B call_len os_len (by rfl) T.n_len (by decide +kernel) (l_cons (o_pk (i := 0) (by rfl) (by walk_at "vis")) l_nil))) (o_v t_int) (nomark _)) (t_one (t_cmp (op_eqD hr.units) os_eq (o_v (t_lc (own := [("sign", 1)]) (by rfl) sc__law_is_name.nd (i_str (t_var (i := 0) (by rfl) (by walk_at "vis"))) (blkOk_by (own := [("sign", 1)]) (N := ["thing", "sign"]) (sc := defScope s__law_is_name) (by decide +kernel)) (fun z => (g_setF (i := 1) sc__law_is_name.nd (by rfl) (by walk_at "loc") (by walk_at "loc"))) (fun z => (c_one (b_w (w_or (b_cmp (op_ltA) os_cmp (o_pk (i := 1) (by rfl) (by walk_at "vis")) (o_v t_str) (nomark _)) (w_or1 (b_cmp (op_gtA) os_cmp (o_pk (i := 1) (by rfl) (by walk_at "vis")) (o_v t_str) (nomark _))))))) (fun z => (t_var (i := 1) (by rfl) (by walk_at "vis"))) (by decide))) (o_v (t_lst a_nil)) (nomark _)))))))
def ds__law_number (K : PySem.W.Frag) : DS :=
  (dSeq (dAsg (dC (.str "abcdefghijklmnopqrstuvwxyz")) (gSetF 1))
  (dSeq (dAsg (dC (.int 0)) (gSetF 2))
  (dSeq (dAsg (dC (.int 1)) (gSetF 3))
  (dSeq (dFor (dChars (dOp fRevS [.pk 0])) (gSetF 4) (dSeq (dAsg (dOp fAdd [.pk 2, .v (dOp fMul [.pk 3, .v (dOp fAdd [.v (dC (.int 1)), .v (dRdM "str" fSIndex (.pk 1) [.pk 4])])])]) (gSetF 2))
  (dAsg (dOp fMul [.pk 3, .v (dC (.int 27))]) (gSetF 3))))
  (dRet (dVar 2))))))
def sp__law_number (K : PySem.W.Frag) : Tr.Spec := specOf 5 [] (ds__law_number K)
theorem T__law_number (T : Txt K mg)  (A : At K mg "_law_number" s__law_number ["name"]) : Dt P w K mg base 2 "_law_number" ["name"] [] (sp__law_number K) :=
  A.tok sc__law_number (by decide) (by decide) fun f cdv A outer s H E hr tk hp => (p_cons (s_setF (i := 1) t_str sc__law_number.nd (by rfl) (by walk_at "loc") (by decide))
  (p_cons (s_setF (i := 2) t_int sc__law_number.nd (by rfl) (by walk_at "loc") (by decide))
  (p_cons (s_setF (i := 3) t_int sc__law_number.nd (by rfl) (by walk_at "loc") (by decide))
  (p_cons (s_for hp (by rfl) (i_str (t_revS (o_pk (i := 0) (by rfl) (by walk_at "vis")))) (g_setF (i := 4) sc__law_number.nd (by rfl) (by walk_at "loc"))
  (p_cons (s_setF (i := 2) (t_op op_addA os_add (o_pk (i := 2) (by rfl) (by walk_at "vis")) (o_v (t_op op_mulA os_mul (o_pk (i := 3) (by rfl) (by walk_at "vis")) (o_v (t_op op_addA os_add (o_v t_int) (o_v (t_rdm (by decide) os_sindex (o_pk (i := 1) (by rfl) (by walk_at "vis")) (l_cons (o_pk (i := 4) (by rfl) (by walk_at "vis")) l_nil) (fun h h2 => pe_bmK K PySem.F.plainAttrs_str PySem.F.slot_str_index PySem.F.type_str_index mt_sindex h h2)))))))) sc__law_number.nd (by rfl) (by walk_at "loc") (by decide))
  (p_one (s_setF (i := 3) (t_op op_mulA os_mul (o_pk (i := 3) (by rfl) (by walk_at "vis")) (o_v t_int)) sc__law_number.nd (by rfl) (by walk_at "loc") (by decide)))) (by decide))
  (p_one (s_ret (t_var (i := 2) (by rfl) (by walk_at "vis"))))))))
def ds__law_points (K : PySem.W.Frag) : DS :=
  (dSeq (dAsg (dOp (fIC (fun _ j => 0 < j) fun i j => .int (i % j)) [.v (dOp fAdd [.v (dOp fMul [.v (dC (.int 101)), .v (dCall [] (sp__law_number K) (dCons (dVar 0) dNil))]), .v (dCall [] (sp__law_number K) (dCons (dVar 1) dNil))]), .v (dC (.int 1000003))]) (gSetF 3))
  (dSeq (dAsg (dOp (fIC (fun _ j => 0 < j) fun i j => .int (i % j)) [.v (dOp fAdd [.v (dOp fMul [.pk 3, .pk 3]), .v (dCall [] (sp__law_number K) (dCons (dVar 1) dNil))]), .v (dC (.int 1000003))]) (gSetF 4))
  (dRet (dOp fMul [.pk 2, .v (dOp fAdd [.v (dC (.int 1)), .v (dOp (fIC (fun _ j => 0 < j) fun i j => .int (i % j)) [.v (dOp fAdd [.v (dOp fMul [.pk 4, .pk 4]), .v (dCall [] (sp__law_number K) (dCons (dVar 0) dNil))]), .v (dC (.int 1000003))])])]))))
def sp__law_points (K : PySem.W.Frag) : Tr.Spec := specOf 5 [] (ds__law_points K)
theorem T__law_points (T : Txt K mg) (D__law_number : Dt P w K mg base 2 "_law_number" ["name"] [] (sp__law_number K)) (A : At K mg "_law_points" s__law_points ["name", "house", "heavy"]) : Dt P w K mg base 3 "_law_points" ["name", "house", "heavy"] [] (sp__law_points K) :=
  A.tok sc__law_points (by decide) (by decide) fun f cdv A outer s H E hr tk hp => (p_cons (s_setF (i := 3) (t_op op_mod os_IC (o_v (t_op op_addA os_add (o_v (t_op op_mulA os_mul (o_v t_int) (o_v (t_call (io := []) D__law_number (by first | exact hr | exact hr.mono (by decide)) tk (a_cons (t_var (i := 0) (by rfl) (by walk_at "vis")) a_nil) (by rfl) [] (hb_of (by decide)) rfl)))) (o_v (t_call (io := []) D__law_number (by first | exact hr | exact hr.mono (by decide)) tk (a_cons (t_var (i := 1) (by rfl) (by walk_at "vis")) a_nil) (by rfl) [] (hb_of (by decide)) rfl)))) (o_v t_int)) sc__law_points.nd (by rfl) (by walk_at "loc") (by decide))
  (p_cons (s_setF (i := 4) (t_op op_mod os_IC (o_v (t_op op_addA os_add (o_v (t_op op_mulA os_mul (o_pk (i := 3) (by rfl) (by walk_at "vis")) (o_pk (i := 3) (by rfl) (by walk_at "vis")))) (o_v (t_call (io := []) D__law_number (by first | exact hr | exact hr.mono (by decide)) tk (a_cons (t_var (i := 1) (by rfl) (by walk_at "vis")) a_nil) (by rfl) [] (hb_of (by decide)) rfl)))) (o_v t_int)) sc__law_points.nd (by rfl) (by walk_at "loc") (by decide))
  (p_one (s_ret (t_op op_mulA os_mul (o_pk (i := 2) (by rfl) (by walk_at "vis")) (o_v (t_op op_addA os_add (o_v t_int) (o_v (t_op op_mod os_IC (o_v (t_op op_addA os_add (o_v (t_op op_mulA os_mul (o_pk (i := 4) (by rfl) (by walk_at "vis")) (o_pk (i := 4) (by rfl) (by walk_at "vis")))) (o_v (t_call (io := []) D__law_number (by first | exact hr | exact hr.mono (by decide)) tk (a_cons (t_var (i := 0) (by rfl) (by walk_at "vis")) a_nil) (by rfl) [] (hb_of (by decide)) rfl)))) (o_v t_int))))))))))
def ds__law_whole (K : PySem.W.Frag) : DS :=
  (dRet (dAndV (dOp (fIs1 K) [.pk 0, .v (dC (.ty "int"))]) (dAndV (dNotV (dOp (fIs1 K) [.pk 0, .v (dC (.ty "bool"))])) (dOp fEq [.pk 0, .pk 1]))))
def sp__law_whole (K : PySem.W.Frag) : Tr.Spec := specOf 2 [] (ds__law_whole K)
theorem T__law_whole (T : Txt K mg)  (A : At K mg "_law_whole" s__law_whole ["found", "due"]) : Dt P w K mg base 2 "_law_whole" ["found", "due"] [] (sp__law_whole K) :=
  A.tok sc__law_whole (by decide) (by decide) fun f cdv A outer s H E hr tk hp => (p_one (s_ret (t_and (t_B call_isA os_is1 (by rfl) T.n_isinstance (by decide +kernel) (l_cons (o_pk (i := 0) (by rfl) (by walk_at "vis")) (l_cons (o_v (t_bltn (v := .ty "int") (u := .type "int") (by rfl) T.n_int (by decide +kernel) (by exact rfl))) l_nil))) (t_and (t_not (t_B call_isA os_is1 (by rfl) T.n_isinstance (by decide +kernel) (l_cons (o_pk (i := 0) (by rfl) (by walk_at "vis")) (l_cons (o_v (t_bltn (v := .ty "bool") (u := .type "bool") (by rfl) T.n_bool (by decide +kernel) (by exact rfl))) l_nil)))) (t_one (t_cmp (op_eqD hr.units) os_eq (o_pk (i := 0) (by rfl) (by walk_at "vis")) (o_pk (i := 1) (by rfl) (by walk_at "vis")) (nomark _)))))))
def ds__law_asked (K : PySem.W.Frag) : DS :=
  (dSeq (dAsg (dC .non) (gSetF 3))
  (dSeq (dAsg (dC (.str "")) (gSetF 4))
  (dSeq (dTry K (dAsg (dCall [] (sp_score K) (dCons (dVar 0) (dCons (dVar 1) (dCons (dVar 2) dNil)))) (gSetF 3)) [(.ref (He.ga K "NoName"), some 5, fun a ex => (dSeq (dAsg (dC (.str "name")) (gSetF 4))
  (dAsg (dXfK K a ex "name" (dVar 5)) (gSetF 3)))), (.ref (He.ga K "NoHouse"), some 5, fun a ex => (dSeq (dAsg (dC (.str "house")) (gSetF 4))
  (dAsg (dXfK K a ex "name" (dVar 5)) (gSetF 3))))])
  (dRet (dNew .tup (dCons (dVar 4) (dCons (dVar 3) dNil)))))))
def sp__law_asked (K : PySem.W.Frag) : Tr.Spec := specOf 6 [] (ds__law_asked K)
theorem T__law_asked (T : Txt K mg) (D_score : Dt P w K mg base 6 "score" ["town", "name", "house"] [] (sp_score K)) (A : At K mg "_law_asked" s__law_asked ["town", "name", "house"]) : Dt P w K mg base 7 "_law_asked" ["town", "name", "house"] [] (sp__law_asked K) :=
  A.tok sc__law_asked (by decide) (by decide) fun f cdv A outer s H E hr tk hp => (p_cons (s_setF (i := 3) t_non sc__law_asked.nd (by rfl) (by walk_at "loc") (by decide))
  (p_cons (s_setF (i := 4) t_str sc__law_asked.nd (by rfl) (by walk_at "loc") (by decide))
  (p_cons (t_try rfl rfl rfl sc__law_asked.nd tk (fun W' pn xe tk hp => (p_one (s_setF (i := 3) (t_call (io := []) D_score (by first | exact hr | exact hr.mono (by decide)) tk (a_cons (t_var (i := 0) (by rfl) (by walk_at "vis")) (a_cons (t_var (i := 1) (by rfl) (by walk_at "vis")) (a_cons (t_var (i := 2) (by rfl) (by walk_at "vis")) a_nil))) (by rfl) [] (hb_of (by decide)) rfl) sc__law_asked.nd (by rfl) (by walk_at "loc") (by decide)))) (.as (i := 5) (by exact ⟨rfl, by decide, Or.inl T.g_NoName⟩) rfl rfl (by decide) (fun a C dd fs ts oe pn hz hf => (p_cons (s_setF (i := 4) t_str sc__law_asked.nd (by rfl) (by walk_at "loc") (by decide))
  (p_one (s_setF (i := 3) (t_xfK hz hf (t_var (i := 5) (by rfl) (by walk_at "vis"))) sc__law_asked.nd (by rfl) (by walk_at "loc") (by decide))))) (.as (i := 5) (by exact ⟨rfl, by decide, Or.inl T.g_NoHouse⟩) rfl rfl (by decide) (fun a C dd fs ts oe pn hz hf => (p_cons (s_setF (i := 4) t_str sc__law_asked.nd (by rfl) (by walk_at "loc") (by decide))
  (p_one (s_setF (i := 3) (t_xfK hz hf (t_var (i := 5) (by rfl) (by walk_at "vis"))) sc__law_asked.nd (by rfl) (by walk_at "loc") (by decide))))) .nil)))
  (p_one (s_ret (t_tup (a_cons (t_var (i := 4) (by rfl) (by walk_at "vis")) (a_cons (t_var (i := 3) (by rfl) (by walk_at "vis")) a_nil))))))))
def ds__law_number_asked (K : PySem.W.Frag) : DS :=
  (dSeq (dAsg (dC .non) (gSetF 1))
  (dSeq (dTry K (dAsg (dCall [] (sp_number_of K) (dCons (dVar 0) dNil)) (gSetF 1)) [(.ref (He.ga K "NoName"), some 2, fun a ex => (dAsg (dNew .tup (dCons (dXfK K a ex "name" (dVar 2)) (dCons (dIsS K a ex (.ty "ValueError") (dVar 2)) (dCons (dIsS K a ex (.ref (He.ga K "NoHouse")) (dVar 2)) dNil)))) (gSetF 1)))])
  (dRet (dVar 1))))
def sp__law_number_asked (K : PySem.W.Frag) : Tr.Spec := specOf 3 [] (ds__law_number_asked K)
theorem T__law_number_asked (T : Txt K mg) (D_number_of : Dt P w K mg base 4 "number_of" ["name"] [] (sp_number_of K)) (A : At K mg "_law_number_asked" s__law_number_asked ["name"]) : Dt P w K mg base 5 "_law_number_asked" ["name"] [] (sp__law_number_asked K) :=
  A.tok sc__law_number_asked (by decide) (by decide) fun f cdv A outer s H E hr tk hp => (p_cons (s_setF (i := 1) t_non sc__law_number_asked.nd (by rfl) (by walk_at "loc") (by decide))
  (p_cons (t_try rfl rfl rfl sc__law_number_asked.nd tk (fun W' pn xe tk hp => (p_one (s_setF (i := 1) (t_call (io := []) D_number_of (by first | exact hr | exact hr.mono (by decide)) tk (a_cons (t_var (i := 0) (by rfl) (by walk_at "vis")) a_nil) (by rfl) [] (hb_of (by decide)) rfl) sc__law_number_asked.nd (by rfl) (by walk_at "loc") (by decide)))) (.as (i := 2) (by exact ⟨rfl, by decide, Or.inl T.g_NoName⟩) rfl rfl (by decide) (fun a C dd fs ts oe pn hz hf => (p_one (s_setF (i := 1) (t_tup (a_cons (t_xfK hz hf (t_var (i := 2) (by rfl) (by walk_at "vis"))) (a_cons (t_isS hz hf (by rfl) T.n_isinstance (t_var (i := 2) (by rfl) (by walk_at "vis")) (pe_bltn (v := .ty "ValueError") (u := .type "ValueError") (by rfl) T.n_ValueError (by decide +kernel) (by exact rfl))) (a_cons (t_isS hz hf (by rfl) T.n_isinstance (t_var (i := 2) (by rfl) (by walk_at "vis")) (pe_glob (v := .ref (He.ga K "NoHouse")) rfl T.g_NoHouse (by exact rfl))) a_nil)))) sc__law_number_asked.nd (by rfl) (by walk_at "loc") (by decide)))) .nil))
  (p_one (s_ret (t_var (i := 1) (by rfl) (by walk_at "vis"))))))
def ds_Town___init__ (K : PySem.W.Frag) : DS :=
  (dSeq (dPutA 0 (fPutF (He.ga K "Town") "_houses") (dNew0 (.dk [])) (dC .non))
  (dFor (dItems (dVar 1)) (gTupl 3 (gsCons (gSetF 2) (gsCons (gSetF 3) (gsCons (gSetF 4) gsNil)))) (dSeq (dExpr (dCall [] (sp_check_name K) (dCons (dVar 2) dNil)))
  (dSeq (dExpr (dCall [] (sp_check_name K) (dCons (dVar 3) dNil)))
  (dSeq (dExpr (dCall [] (sp_check_weight K) (dCons (dVar 4) dNil)))
  (dSeq (dIf (dT (dOpB (fDIn false) (.pk 2) 0 (He.ga K "Town") "_houses")) (dRaise (He.ga K "Taken") ["name"] (dCons (dVar 2) dNil)) dSkip)
  (dPutIx 0 (chF (He.ga K "Town") "_houses") fDPut (dFz (dNew .tup (dCons (dVar 3) (dCons (dVar 4) dNil)))) (dC .non) (dVar 2))))))))
def sp_Town___init__ (K : PySem.W.Frag) : Tr.Spec := specOf 5 [0] (ds_Town___init__ K)
theorem T_Town___init__ (T : Txt K mg) (R_Taken : Cm.Rd P w K mg base "Taken" ["name"]) (D_check_weight : Dt P w K mg base 4 "check_weight" ["weight"] [] (sp_check_weight K)) (D_check_name : Dt P w K mg base 3 "check_name" ["name"] [] (sp_check_name K)) (A : AtM K "Town" "__init__" "Town.__init__" s_Town___init__ ["self", "rows"]) : DtM P w K mg base 5 "Town" "__init__" ["self", "rows"] [0] (sp_Town___init__ K) :=
  A.tok sc_Town___init__ (by decide) (by decide) fun f cdv A outer s H E hr tk hp => (p_cons (s_putF (i := 0) T.c_Town T.na_Town__houses (by rfl) (by walk_at "vis") t_dnew)
  (p_one (s_for hp (by rfl) (i_list (t_var (i := 1) (by rfl) (by walk_at "vis"))) (g_tup 3 (by rfl) (gs_cons (g_setF (i := 2) sc_Town___init__.nd (by rfl) (by walk_at "loc")) (gs_cons (g_setF (i := 3) sc_Town___init__.nd (by rfl) (by walk_at "loc")) (gs_cons (g_setF (i := 4) sc_Town___init__.nd (by rfl) (by walk_at "loc")) gs_nil))))
  (p_cons (s_expr (t_call (io := []) D_check_name (by first | exact hr | exact hr.mono (by decide)) tk (a_cons (t_var (i := 2) (by rfl) (by walk_at "vis")) a_nil) (by rfl) [] (hb_of (by decide)) rfl))
  (p_cons (s_expr (t_call (io := []) D_check_name (by first | exact hr | exact hr.mono (by decide)) tk (a_cons (t_var (i := 3) (by rfl) (by walk_at "vis")) a_nil) (by rfl) [] (hb_of (by decide)) rfl))
  (p_cons (s_expr (t_call (io := []) D_check_weight (by first | exact hr | exact hr.mono (by decide)) tk (a_cons (t_var (i := 4) (by rfl) (by walk_at "vis")) a_nil) (by rfl) [] (hb_of (by decide)) rfl))
  (p_cons (s_if (b_dinB T.c_Town T.na_Town__houses (hu1 hr.units) (o_pk (i := 2) (by rfl) (by walk_at "vis")) (pe_ofld (i := 0) (by rfl) (by walk_at "vis"))) (p_one (s_raise rfl tk R_Taken (by first | exact hr | exact hr.mono (by decide)) (a_cons (t_var (i := 2) (by rfl) (by walk_at "vis")) a_nil) (by decide))) p_nil)
  (p_one (s_dputF (i := 0) T.c_Town T.na_Town__houses (hu1 hr.units) (pe_ofld (i := 0) (by rfl) (by walk_at "vis")) (t_fz (t_tup (a_cons (t_var (i := 3) (by rfl) (by walk_at "vis")) (a_cons (t_var (i := 4) (by rfl) (by walk_at "vis")) a_nil)))) (t_var (i := 2) (by rfl) (by walk_at "vis")))))))) (by decide))))
def ds__law_right (K : PySem.W.Frag) : DS :=
  (dSeq (dAsg (dNew .lst (dCons (dC (.str "")) (dCons (dC (.str "A")) (dCons (dC (.str "ab ")) (dCons (dC (.str "abcdefghi")) (dCons (dC (.str "a0")) (dCons (dC (.str "{")) dNil))))))) (gSetF 1))
  (dSeq (dAsg (dCall [0] (sp__law_houses K) (dCons (dMv 0) (dCons (dC (.int 9)) dNil))) (gSetF 2))
  (dSeq (dAsg (dMake (He.ga K "Town") (sp_Town___init__ K) (dCons (dVar 2) dNil)) (gSetF 3))
  (dSeq (dAsg (dOp fAdd [.v (dNew .lst (dCons (dCall [0] (sp__law_name K) (dCons (dMv 0) dNil)) (dCons (dOp fIx [.pk 1, .v (dCall [0] (sp__law_pick K) (dCons (dMv 0) (dCons (dC (.int 6)) dNil)))]) dNil))), .v (dComp [4] (dItems (dVar 2)) (gSetF 4) dYes (dOp fIx [.pk 4, .v (dC (.int 0))]))]) (gSetF 5))
  (dSeq (dAsg (dOp fIx [.pk 5, .v (dOp fIx [.v (dNew .lst (dCons (dC (.int 0)) (dCons (dC (.int 1)) (dCons (dCall [0] (sp__law_pick K) (dCons (dMv 0) (dCons (dFz (dOp fLen [.pk 5])) dNil))) (dCons (dC (.int 0)) (dCons (dC (.int 0)) dNil)))))), .v (dCall [0] (sp__law_pick K) (dCons (dMv 0) (dCons (dC (.int 5)) dNil)))])]) (gSetF 6))
  (dSeq (dAsg (dOp fIx [.pk 5, .v (dOp fIx [.v (dNew .lst (dCons (dC (.int 0)) (dCons (dC (.int 1)) (dCons (dOp (fII fun i j => .int (i - j)) [.v (dOp fLen [.pk 5]), .v (dC (.int 1))]) dNil)))), .v (dCall [0] (sp__law_pick K) (dCons (dMv 0) (dCons (dC (.int 3)) dNil)))])]) (gSetF 7))
  (dSeq (dFor (dItems (dVar 5)) (gSetF 8) (dSeq (dAsg (dNew .tup (dCons (dVar 8) (dCons (dC (.bl true)) (dCons (dC (.bl false)) dNil)))) (gSetF 9))
  (dSeq (dIf (dTr (dCall [] (sp__law_is_name K) (dCons (dVar 8) dNil))) (dAsg (dCall [] (sp__law_number K) (dCons (dVar 8) dNil)) (gSetF 9)) dSkip)
  (dIf (dOr (dT (dOp fNe [.v (dCall [] (sp__law_number_asked K) (dCons (dVar 8) dNil)), .pk 9])) (dT (dOp fNe [.v (dOp (fIs1 K) [.pk 9, .v (dC (.ty "int"))]), .v (dOp (fIs1 K) [.v (dCall [] (sp__law_number_asked K) (dCons (dVar 8) dNil)), .v (dC (.ty "int"))])]))) (dRet (dC (.bl false))) dSkip))))
  (dSeq (dIf (dNot (dTr (dCall [] (sp__law_is_name K) (dCons (dVar 6) dNil)))) (dRet (dOp fEq [.v (dCall [] (sp__law_asked K) (dCons (dVar 3) (dCons (dVar 6) (dCons (dVar 7) dNil)))), .v (dNew .tup (dCons (dC (.str "name")) (dCons (dVar 6) dNil)))])) dSkip)
  (dSeq (dIf (dNot (dTr (dCall [] (sp__law_is_name K) (dCons (dVar 7) dNil)))) (dRet (dOp fEq [.v (dCall [] (sp__law_asked K) (dCons (dVar 3) (dCons (dVar 6) (dCons (dVar 7) dNil)))), .v (dNew .tup (dCons (dC (.str "name")) (dCons (dVar 7) dNil)))])) dSkip)
  (dSeq (dIf (dT (dOp (fIn true) [.pk 7, .v (dComp [4] (dItems (dVar 2)) (gSetF 4) dYes (dOp fIx [.pk 4, .v (dC (.int 0))]))])) (dRet (dOp fEq [.v (dCall [] (sp__law_asked K) (dCons (dVar 3) (dCons (dVar 6) (dCons (dVar 7) dNil)))), .v (dNew .tup (dCons (dC (.str "house")) (dCons (dVar 7) dNil)))])) dSkip)
  (dSeq (dFor (dItems (dVar 2)) (gTupl 3 (gsCons (gSetF 8) (gsCons (gSetF 10) (gsCons (gSetF 11) gsNil)))) (dIf (dNot (dTr (dCall [] (sp__law_whole K) (dCons (dFz (dCall [] (sp_score K) (dCons (dVar 3) (dCons (dVar 6) (dCons (dVar 8) dNil))))) (dCons (dFz (dCall [] (sp__law_points K) (dCons (dVar 6) (dCons (dVar 8) (dCons (dVar 11) dNil))))) dNil))))) (dRet (dC (.bl false))) dSkip))
  (dRet (dC (.bl true))))))))))))))
def sp__law_right (K : PySem.W.Frag) : Tr.Spec := specOf 12 [] (ds__law_right K)
theorem T__law_right (T : Txt K mg) (D__law_whole : Dt P w K mg base 2 "_law_whole" ["found", "due"] [] (sp__law_whole K)) (D_score : Dt P w K mg base 6 "score" ["town", "name", "house"] [] (sp_score K)) (D__law_points : Dt P w K mg base 3 "_law_points" ["name", "house", "heavy"] [] (sp__law_points K)) (D__law_asked : Dt P w K mg base 7 "_law_asked" ["town", "name", "house"] [] (sp__law_asked K)) (D__law_is_name : Dt P w K mg base 2 "_law_is_name" ["thing"] [] (sp__law_is_name K)) (D__law_number_asked : Dt P w K mg base 5 "_law_number_asked" ["name"] [] (sp__law_number_asked K)) (D__law_number : Dt P w K mg base 2 "_law_number" ["name"] [] (sp__law_number K)) (D__law_pick : Dt P w K mg base 2 "_law_pick" ["pot", "many"] [0] (sp__law_pick K)) (D__law_name : Dt P w K mg base 3 "_law_name" ["pot"] [0] (sp__law_name K)) (D_Town___init__ : DtM P w K mg base 5 "Town" "__init__" ["self", "rows"] [0] (sp_Town___init__ K)) (D__law_houses : Dt P w K mg base 5 "_law_houses" ["pot", "most"] [0] (sp__law_houses K)) (A : At K mg "_law_right" s__law_right ["pot"]) : Dt P w K mg base 8 "_law_right" ["pot"] [] (sp__law_right K) :=
  A.tok sc__law_right (by decide) (by decide) fun f cdv A outer s H E hr tk hp => (p_cons (s_setF (i := 1) (t_lst (a_cons t_str (a_cons t_str (a_cons t_str (a_cons t_str (a_cons t_str (a_cons t_str a_nil))))))) sc__law_right.nd (by rfl) (by walk_at "loc") (by decide))
  (p_cons (s_setF (i := 2) (t_call (io := [0]) D__law_houses (by first | exact hr | exact hr.mono (by decide)) tk (a_mv (i := 0) (a_cons t_int a_nil) (by rfl) (by walk_at "vis")) (by rfl) [0] (hb_of (by decide)) rfl) sc__law_right.nd (by rfl) (by walk_at "loc") (by decide))
  (p_cons (s_setF (i := 3) (t_make D_Town___init__ T.mk_Town (by first | exact hr | exact hr.mono (by decide)) tk T.g_Town (a_cons (t_var (i := 2) (by rfl) (by walk_at "vis")) a_nil) (by rfl)) sc__law_right.nd (by rfl) (by walk_at "loc") (by decide))
  (p_cons (s_setF (i := 5) (t_op op_addA os_add (o_v (t_lst (a_cons (t_call (io := [0]) D__law_name (by first | exact hr | exact hr.mono (by decide)) tk (a_mv (i := 0) a_nil (by rfl) (by walk_at "vis")) (by rfl) [0] (hb_of (by decide)) rfl) (a_cons (t_ix ix_seq os_ix (o_pk (i := 1) (by rfl) (by walk_at "vis")) (o_v (t_call (io := [0]) D__law_pick (by first | exact hr | exact hr.mono (by decide)) tk (a_mv (i := 0) (a_cons t_int a_nil) (by rfl) (by walk_at "vis")) (by rfl) [0] (hb_of (by decide)) rfl))) a_nil)))) (o_v (t_lc (own := [("row", 4)]) (by rfl) sc__law_right.nd (i_list (t_var (i := 2) (by rfl) (by walk_at "vis"))) (blkOk_by (own := [("row", 4)]) (N := ["pot", "odd", "rows", "town", "row", "names", "name", "house", "one", "due", "area", "heavy"]) (sc := defScope s__law_right) (by decide +kernel)) (fun z => (g_setF (i := 4) sc__law_right.nd (by rfl) (by walk_at "loc") (by walk_at "loc"))) (fun z => c_yes) (fun z => (t_ix ix_seq os_ix (o_pk (i := 4) (by rfl) (by walk_at "vis")) (o_v t_int))) (by decide)))) sc__law_right.nd (by rfl) (by walk_at "loc") (by decide))
  (p_cons (s_setF (i := 6) (t_ix ix_seq os_ix (o_pk (i := 5) (by rfl) (by walk_at "vis")) (o_v (t_ix ix_seq os_ix (o_v (t_lst (a_cons t_int (a_cons t_int (a_cons (t_call (io := [0]) D__law_pick (by first | exact hr | exact hr.mono (by decide)) tk (a_mv (i := 0) (a_cons (t_fz (t_B call_len os_len (by rfl) T.n_len (by decide +kernel) (l_cons (o_pk (i := 5) (by rfl) (by walk_at "vis")) l_nil))) a_nil) (by rfl) (by walk_at "vis")) (by rfl) [0] (hb_of (by decide)) rfl) (a_cons t_int (a_cons t_int a_nil))))))) (o_v (t_call (io := [0]) D__law_pick (by first | exact hr | exact hr.mono (by decide)) tk (a_mv (i := 0) (a_cons t_int a_nil) (by rfl) (by walk_at "vis")) (by rfl) [0] (hb_of (by decide)) rfl))))) sc__law_right.nd (by rfl) (by walk_at "loc") (by decide))
  (p_cons (s_setF (i := 7) (t_ix ix_seq os_ix (o_pk (i := 5) (by rfl) (by walk_at "vis")) (o_v (t_ix ix_seq os_ix (o_v (t_lst (a_cons t_int (a_cons t_int (a_cons (t_op op_sub os_II (o_v (t_B call_len os_len (by rfl) T.n_len (by decide +kernel) (l_cons (o_pk (i := 5) (by rfl) (by walk_at "vis")) l_nil))) (o_v t_int)) a_nil))))) (o_v (t_call (io := [0]) D__law_pick (by first | exact hr | exact hr.mono (by decide)) tk (a_mv (i := 0) (a_cons t_int a_nil) (by rfl) (by walk_at "vis")) (by rfl) [0] (hb_of (by decide)) rfl))))) sc__law_right.nd (by rfl) (by walk_at "loc") (by decide))
  (p_cons (s_for hp (by rfl) (i_list (t_var (i := 5) (by rfl) (by walk_at "vis"))) (g_setF (i := 8) sc__law_right.nd (by rfl) (by walk_at "loc"))
  (p_cons (s_setF (i := 9) (t_tup (a_cons (t_var (i := 8) (by rfl) (by walk_at "vis")) (a_cons t_bl (a_cons t_bl a_nil)))) sc__law_right.nd (by rfl) (by walk_at "loc") (by decide))
  (p_cons (s_if (b_tr (t_call (io := []) D__law_is_name (by first | exact hr | exact hr.mono (by decide)) tk (a_cons (t_var (i := 8) (by rfl) (by walk_at "vis")) a_nil) (by rfl) [] (hb_of (by decide)) rfl)) (p_one (s_setF (i := 9) (t_call (io := []) D__law_number (by first | exact hr | exact hr.mono (by decide)) tk (a_cons (t_var (i := 8) (by rfl) (by walk_at "vis")) a_nil) (by rfl) [] (hb_of (by decide)) rfl) sc__law_right.nd (by rfl) (by walk_at "loc") (by decide))) p_nil)
  (p_one (s_if (b_w (w_or (b_cmp (op_neD hr.units) os_ne (o_v (t_call (io := []) D__law_number_asked (by first | exact hr | exact hr.mono (by decide)) tk (a_cons (t_var (i := 8) (by rfl) (by walk_at "vis")) a_nil) (by rfl) [] (hb_of (by decide)) rfl)) (o_pk (i := 9) (by rfl) (by walk_at "vis")) (nomark _)) (w_or1 (b_cmp (op_neD hr.units) os_ne (o_v (t_B call_isA os_is1 (by rfl) T.n_isinstance (by decide +kernel) (l_cons (o_pk (i := 9) (by rfl) (by walk_at "vis")) (l_cons (o_v (t_bltn (v := .ty "int") (u := .type "int") (by rfl) T.n_int (by decide +kernel) (by exact rfl))) l_nil)))) (o_v (t_B call_isA os_is1 (by rfl) T.n_isinstance (by decide +kernel) (l_cons (o_v (t_call (io := []) D__law_number_asked (by first | exact hr | exact hr.mono (by decide)) tk (a_cons (t_var (i := 8) (by rfl) (by walk_at "vis")) a_nil) (by rfl) [] (hb_of (by decide)) rfl)) (l_cons (o_v (t_bltn (v := .ty "int") (u := .type "int") (by rfl) T.n_int (by decide +kernel) (by exact rfl))) l_nil)))) (nomark _))))) (p_one (s_ret t_bl)) p_nil)))) (by decide))
  (p_cons (s_if (b_not (b_tr (t_call (io := []) D__law_is_name (by first | exact hr | exact hr.mono (by decide)) tk (a_cons (t_var (i := 6) (by rfl) (by walk_at "vis")) a_nil) (by rfl) [] (hb_of (by decide)) rfl))) (p_one (s_ret (t_cmp (op_eqD hr.units) os_eq (o_v (t_call (io := []) D__law_asked (by first | exact hr | exact hr.mono (by decide)) tk (a_cons (t_var (i := 3) (by rfl) (by walk_at "vis")) (a_cons (t_var (i := 6) (by rfl) (by walk_at "vis")) (a_cons (t_var (i := 7) (by rfl) (by walk_at "vis")) a_nil))) (by rfl) [] (hb_of (by decide)) rfl)) (o_v (t_tup (a_cons t_str (a_cons (t_var (i := 6) (by rfl) (by walk_at "vis")) a_nil)))) (nomark _)))) p_nil)
  (p_cons (s_if (b_not (b_tr (t_call (io := []) D__law_is_name (by first | exact hr | exact hr.mono (by decide)) tk (a_cons (t_var (i := 7) (by rfl) (by walk_at "vis")) a_nil) (by rfl) [] (hb_of (by decide)) rfl))) (p_one (s_ret (t_cmp (op_eqD hr.units) os_eq (o_v (t_call (io := []) D__law_asked (by first | exact hr | exact hr.mono (by decide)) tk (a_cons (t_var (i := 3) (by rfl) (by walk_at "vis")) (a_cons (t_var (i := 6) (by rfl) (by walk_at "vis")) (a_cons (t_var (i := 7) (by rfl) (by walk_at "vis")) a_nil))) (by rfl) [] (hb_of (by decide)) rfl)) (o_v (t_tup (a_cons t_str (a_cons (t_var (i := 7) (by rfl) (by walk_at "vis")) a_nil)))) (nomark _)))) p_nil)
  (p_cons (s_if (b_cmp (op_notInA (hu65 hr)) os_in (o_pk (i := 7) (by rfl) (by walk_at "vis")) (o_v (t_lc (own := [("row", 4)]) (by rfl) sc__law_right.nd (i_list (t_var (i := 2) (by rfl) (by walk_at "vis"))) (blkOk_by (own := [("row", 4)]) (N := ["pot", "odd", "rows", "town", "row", "names", "name", "house", "one", "due", "area", "heavy"]) (sc := defScope s__law_right) (by decide +kernel)) (fun z => (g_setF (i := 4) sc__law_right.nd (by rfl) (by walk_at "loc") (by walk_at "loc"))) (fun z => c_yes) (fun z => (t_ix ix_seq os_ix (o_pk (i := 4) (by rfl) (by walk_at "vis")) (o_v t_int))) (by decide))) rfl) (p_one (s_ret (t_cmp (op_eqD hr.units) os_eq (o_v (t_call (io := []) D__law_asked (by first | exact hr | exact hr.mono (by decide)) tk (a_cons (t_var (i := 3) (by rfl) (by walk_at "vis")) (a_cons (t_var (i := 6) (by rfl) (by walk_at "vis")) (a_cons (t_var (i := 7) (by rfl) (by walk_at "vis")) a_nil))) (by rfl) [] (hb_of (by decide)) rfl)) (o_v (t_tup (a_cons t_str (a_cons (t_var (i := 7) (by rfl) (by walk_at "vis")) a_nil)))) (nomark _)))) p_nil)
  (p_cons (s_for hp (by rfl) (i_list (t_var (i := 2) (by rfl) (by walk_at "vis"))) (g_tup 3 (by rfl) (gs_cons (g_setF (i := 8) sc__law_right.nd (by rfl) (by walk_at "loc")) (gs_cons (g_setF (i := 10) sc__law_right.nd (by rfl) (by walk_at "loc")) (gs_cons (g_setF (i := 11) sc__law_right.nd (by rfl) (by walk_at "loc")) gs_nil))))
  (p_one (s_if (b_not (b_tr (t_call (io := []) D__law_whole (by first | exact hr | exact hr.mono (by decide)) tk (a_cons (t_fz (t_call (io := []) D_score (by first | exact hr | exact hr.mono (by decide)) tk (a_cons (t_var (i := 3) (by rfl) (by walk_at "vis")) (a_cons (t_var (i := 6) (by rfl) (by walk_at "vis")) (a_cons (t_var (i := 8) (by rfl) (by walk_at "vis")) a_nil))) (by rfl) [] (hb_of (by decide)) rfl)) (a_cons (t_fz (t_call (io := []) D__law_points (by first | exact hr | exact hr.mono (by decide)) tk (a_cons (t_var (i := 6) (by rfl) (by walk_at "vis")) (a_cons (t_var (i := 8) (by rfl) (by walk_at "vis")) (a_cons (t_var (i := 11) (by rfl) (by walk_at "vis")) a_nil))) (by rfl) [] (hb_of (by decide)) rfl)) a_nil)) (by rfl) [] (hb_of (by decide)) rfl))) (p_one (s_ret t_bl)) p_nil)) (by decide))
  (p_one (s_ret t_bl)))))))))))))
def ds_law (K : PySem.W.Frag) : DS :=
  (dSeq (dFor (dRng1 (dCons (dOp fMax [.v (dC (.int 1)), .v (dOp fMin [.v (dC (.int 8)), .v (dOp fLen [.pk 0])])]) dNil)) (gSetF 1) (dIf (dNot (dTr (dCall [] (sp__law_right K) (dCons (dCall [] (sp__law_pot K) (dCons (dFz (dCall [] (sp__law_cell_at K) (dCons (dVar 0) (dCons (dVar 1) dNil)))) dNil)) dNil)))) (dRet (dC (.bl false))) dSkip))
  (dRet (dC (.bl true))))
theorem T_law (T : Txt K mg) (D__law_right : Dt P w K mg base 8 "_law_right" ["pot"] [] (sp__law_right K)) (D__law_pot : Dt P w K mg base 2 "_law_pot" ["cell"] [] (sp__law_pot K)) (D__law_cell_at : Dt P w K mg base 2 "_law_cell_at" ["script", "k"] [] (sp__law_cell_at K)) {f : Addr} {fd : FuncData} (F : FunD K "law" "law" (defArgs s_law) (defBody s_law) (defScope s_law) [] [] f fd) (h : ∀ ns : List Int, ns.length ≤ 63 → specOf 2 [] (ds_law K) [.nd false .seq (ns.map fun i => .lf (.int i))] (fun t _ => t = .lf (.bl true)) (fun _ _ => False)) : FnOk P w K mg base CX0 9 f fd ["script"] (spLaw K) :=
  tok_law (P := P) (w := w) (mg := mg) (base := base) F sc_law (fun cdv A outer s H E hr tk hp => (p_cons (s_for hp (by rfl) (i_rng1 (by rfl) T.n_range (a_cons (t_B (cr_maxA rfl) os_max (by rfl) T.n_max (by decide +kernel) (l_cons (o_v t_int) (l_cons (o_v (t_B (cr_minA rfl) os_min (by rfl) T.n_min (by decide +kernel) (l_cons (o_v t_int) (l_cons (o_v (t_B call_len os_len (by rfl) T.n_len (by decide +kernel) (l_cons (o_pk (i := 0) (by rfl) (by walk_at "vis")) l_nil))) l_nil)))) l_nil))) a_nil)) (g_setF (i := 1) sc_law.nd (by rfl) (by walk_at "loc"))
  (p_one (s_if (b_not (b_tr (t_call (io := []) D__law_right (by first | exact hr | exact hr.mono (by decide)) tk (a_cons (t_call (io := []) D__law_pot (by first | exact hr | exact hr.mono (by decide)) tk (a_cons (t_fz (t_call (io := []) D__law_cell_at (by first | exact hr | exact hr.mono (by decide)) tk (a_cons (t_var (i := 0) (by rfl) (by walk_at "vis")) (a_cons (t_var (i := 1) (by rfl) (by walk_at "vis")) a_nil)) (by rfl) [] (hb_of (by decide)) rfl)) a_nil) (by rfl) [] (hb_of (by decide)) rfl) a_nil) (by rfl) [] (hb_of (by decide)) rfl))) (p_one (s_ret t_bl)) p_nil)) (by decide))
  (p_one (s_ret t_bl)))) h
end
end Hx
set_option Elab.async false
set_option linter.all false
set_option maxRecDepth 100000
set_option maxHeartbeats 1000000
set_option autoImplicit false
namespace Hx
open PySem PySem.Spec PyProof.Rows L2 Cm Tr
local macro_rules | `(tactic| walk_at "vis") => `(tactic| (first | exact Or.inl rfl | exact Or.inr (Or.inl rfl) | exact Or.inr (Or.inr rfl)))
local macro_rules | `(tactic| walk_at "loc") => `(tactic| (first | exact Or.inl rfl | exact Or.inr rfl))
local macro_rules | `(tactic| walk_at "ev1") => `(tactic| simp (maxSteps := 1000000) only [Tr.specOf, endsOf, env0, outsOf_n, outsOf_c, dSkip, dSeq, dRet, dRetN, dExpr, dIf, dAsg, gSet, gSetF, gTupl_t, gTupl_k, gsNil, gsCons_c, dC, dVar, dMv, dGl, dCons, dNil, dSnoc, dT, dTr, dNot, dAnd, dOr, dAndV, dOrV, dNotV, dIfE, dOp, dLs, rdAll, rdT, dNew, dNew0, dCall, dFz, wb, dMutA_e, dPutA_e, asM_n, dFor, dItems_e, dItemsT_e, dRng1_e, dRng2_e, fRng1_i, dRngO_pk, asR_r, asL_l, asT_t, asT_k, as1_i, as2_i, dEnum_e, dZip_e, lsL_l, lsL_m, lsL_r, as2T_l, as1T_l, dKeys, dComp, dDComp, dRaise, dTry, dHds, dDic, dRdM, dYes, wipeE, namE, clrE, endS, dXfK, dXf, unt_nil, unt_cons, unt1_none, unt1_ref, unt1_int, unt1_bl, unt1_str, unt1_non, unt1_nd, dBrk, dCnt, dChain_eq, dSl11_v, dSl11_pk, Option.bind_eq_bind, and_self, exists_eq, T.lf.injEq, V.bl.injEq, T.fz_fz, map_fz_lf, rowT_fz, matT_fz, map_rowT_fz, rowT_fzd, List.length_map, fAdd_ii, fAdd_ss, fAdd_ll, fAdd_tt, fMul_ii, fMul_li, fII_ii, fIC_ii, fCmp_ii, fCmp_ss, isN_non, isN_int, isN_bl, isN_str, isN_nd, fIsN_n, fNotN_n, fNeg_i, fInt1_i, fInt1_b, fTuple_l, fTuple_t, fList_l, fList_t, fList_k, fMax_ii, fMin_ii, fDivmod_ii, fLen_l, fLen_q, fLen_t, fLen_k, fLen_s, fSl_l, fSl_t, fSl_s, fSl00_e, fSl10_e, fSl01_e, fIsB_bb, fIx_l, fIx_q, fIx_t, fIx_k, fIx_s, fAppend_l, fSetL_l, fExtend_l, fPop_l, fPopAt_l, fInsert_l, fReverse_l, fClear_l, fDPut_i, fDPut_s, fDGet2_i, fDGet2_s, fDGet_i, isDic_k, Tr.one_inj, key_i, key_s, fDIn_i, kindOf_l, kindOf_k, at_0, at_1, at_2, at_3, List.map_cons, List.map_nil, List.length_cons, List.length_nil, List.replicate, List.cons_append, List.nil_append, List.append_nil, List.getElem?_cons_zero, List.getElem?_cons_succ, List.set_cons_zero, List.set_cons_succ, Option.join, Option.bind_some, id_eq, Option.some.injEq, Option.map_some, exists_eq_left', exists_eq_left, exists_eq', T.fz_lf, T.fz_nd, T.fzd_lf, T.fzd_nd, Kd.unl, Nat.sub_self, Nat.sub_zero, Nat.reduceSub, Nat.reduceAdd, Nat.zero_add, true_and, and_true, List.reverse_cons, List.reverse_nil, if_true, if_false, Bool.false_eq_true, Bool.not_false, Bool.not_true, Bool.false_xor, Bool.true_xor, tru_non, tru_bl, tru_int, tru_lst, tru_tup, ite_true, ite_false, reduceIte, exists_const, exists_and_left, List.isEmpty_cons, List.isEmpty_nil])
local macro_rules | `(tactic| walk_at "ev") => `(tactic| try walk_at "ev1")
local macro_rules | `(tactic| walk_at "sz") => `(tactic| repeat (first | refine ⟨by decide, ?_⟩ | refine ⟨fun _ => rfl, ?_⟩))
local macro_rules | `(tactic| walk_at "dat") => `(tactic| repeat (first | exact Dats.nil | exact Dat.int _ | exact Dat.bl _ | exact Dat.non | exact Dat.str (by decide +kernel) | exact Dats.ints _ | apply Dats.cons | apply Dat.lst | apply Dat.tup | apply Dat.tpk))
local macro_rules | `(tactic| walk_at "ew1") => `(tactic| simp (maxSteps := 1000000) only [↓kEnx_w, ↓kEt_w, ↓lz_spec, ↓lz_skip, ↓lz_seq, ↓kAsg_w, ↓lz_asg, ↓lz_ret, ↓lz_retN, ↓kExpr_w, ↓lz_expr, ↓kIf_w, ↓lz_if, ↓lz_for, ↓lz_brk, ↓lz_cnt, ↓kRaise_w, ↓lz_raise, ↓lz_try, ↓lz_hds0, ↓lz_hds1, ↓lz_endS_nx, ↓lz_endS_bk, ↓lz_endS_ct, ↓lz_endS_rt, ↓kPut3_w, ↓kPut2_w, ↓kPut1_w, ↓kPut_w, ↓lz_put, ↓kDel2_w, ↓kDel1_w, ↓lz_del, ↓lz_c, ↓kVar_w, ↓lz_var, ↓kMv_w, ↓lz_mv, ↓lz_gl, ↓kFz_w, ↓lz_fz, ↓kLRg2_w, ↓kLRg_w, ↓lz_lrg, ↓kNew_w, ↓lz_new, ↓lz_new0, ↓kOp3_w, ↓kOp2_w, ↓kOp_w, ↓lz_op, ↓kLsc_w, ↓kLsv_w, ↓lz_ls0, ↓lz_lsv, ↓lz_lsp, ↓kNotV2_w, ↓kNotV_w, ↓lz_notV, ↓kDE_w, ↓kBo_w, ↓kAndV2_w, ↓kAndV_w, ↓lz_andV, ↓kOrV2_w, ↓kOrV_w, ↓lz_orV, ↓kIfE_w, ↓lz_ifE, ↓kCall_w, ↓lz_call, ↓kComp_w, ↓lz_comp, ↓kDComp_w, ↓lz_dcomp, ↓kMut3_w, ↓kMut2_w, ↓kMut_w, ↓lz_mut, ↓kMx3_w, ↓kMx2_w, atM_n, chL_i, ↓kMx1_w, ↓kMx0_w, ↓lz_mutIx, atP_n, chD_i, chD_s, ↓kPx3_w, ↓kPx2_w, ↓kPx1_w, ↓kPx0_w, ↓kPx_w, ↓lz_putIx, ↓kCl_w, ↓lz_cloE, ↓lz_clo_nx, ↓lz_clo_bk, ↓lz_clo_ct, ↓lz_clo_rt, ↓lz_clo_ex, ↓kOpn1_w, ↓kOpn_w, ↓lz_open, ↓kCh6_w, ↓kCh5_w, ↓kCh4_w, ↓kCh3_w, ↓kCh2_w, ↓kCh1_w, ↓lz_chain, ↓kSl4_w, ↓kSlv3_w, ↓kSlv2_w, ↓kSlv1_w, ↓kSlv0_w, ↓kSlv_w, ↓lz_sl11v, ↓kSlp3_w, ↓kSlp2_w, ↓kSlp1_w, ↓kSlp0_w, ↓lz_sl11p, ↓kXfH2_w, asX_x, ↓kXfH_w, ↓lz_xfH, ↓kT2_w, ↓kT_w, ↓lz_T, ↓kTr_w, ↓lz_Tr, ↓kNot_w, ↓lz_not, ↓kDB_w, ↓kBb_w, ↓kAnd_w, ↓lz_and, ↓kOr_w, ↓lz_or, ↓lz_yes, ↓lz_nil, ↓kCons2_w, ↓kCons_w, ↓lz_cons, ↓kConsL2_w, ↓kConsL_w, ↓lz_consL, ↓kSnoc2_w, ↓kSnoc_w, ↓lz_snoc, ↓kFld_w, ↓lz_fld, ↓kFldS2_w, ↓kFldS_w, ↓lz_fldS, ↓kOA3_w, ↓kOA2_w, ↓kOA1_w, ↓kOAx_w, ↓kOA0_w, ↓kOA_w, ↓lz_opA, ↓kOB2_w, ↓kOB3_w, ↓kOB1_w, ↓kOB0_w, ↓kOB_w, ↓lz_opB, ↓kChk_w, ↓lz_chk, ↓kCm1_w, ↓lz_consM, kIsS_n, ↓lz_isS, fDIn_s, fDGet_s, fRevS_s, fSIndex_s, ↓kMk_w, ↓lz_make, kMkR_n, kMkX_n, insAt_1, insC_n, chF_n, fPutF_n, dpK_0, kPF_w, ↓lz_gset, ↓lz_gsetF, ↓lz_gsnil, ↓kGs_w, ↓lz_gscons, ↓kQ_w, ↓kItems_w, ↓lz_items, ↓kItemsT_w, ↓lz_itemsT, ↓kRng1b_w, ↓kRng1_w, ↓lz_rng1, ↓kRng2b_w, ↓kRng2_w, ↓lz_rng2, ↓kRng3b_w, as3_i, ↓kRng3_w, ↓lz_rng3, ↓kRngO_w, ↓lz_rngO, ↓kZip3_w, ↓kZip2_w, ↓kZip1_w, ↓kZip_w, ↓lz_zip, ↓kEn2_w, ↓kEn1_w, ↓kEn_w, ↓lz_enum, ↓kKeys2_w, ↓kKeys_w, ↓lz_keys, fInR_i, fRev_l, ↓lz_forApp, kFa_w, fVia_n, ↓lz_via, ↓kVia_w, ↓kVia0_w, ↓kVia1_w, kVia2_w, fKIn_s, fKGet_s, fLenS_t, fLenS_l, ↓lz_parF, kParF_w, tupL_t, tupL_k, ↓kZipT3_w, ↓kZipT2_w, ↓kZipT1_w, ↓kZipT_w, ↓lz_zipT, ↓kCha2_w, ↓kCha_w, ↓lz_chars, w_rdE, w_rdA, w_asB, w_asO, w_asI, w_asS, w_asD, w_ifET, w_ifEF, w_isE, w_isM, is_non_bool, is_non_int, is_non_str, is_non_list, is_non_tuple, is_non_dict, isLT_non, is_bl_bool, is_bl_int, is_bl_str, is_bl_list, is_bl_tuple, is_bl_dict, isLT_bl, is_int_bool, is_int_int, is_int_str, is_int_list, is_int_tuple, is_int_dict, isLT_int, is_str_bool, is_str_int, is_str_str, is_str_list, is_str_tuple, is_str_dict, isLT_str, is_lst_bool, is_lst_int, is_lst_str, is_lst_list, is_lst_tuple, is_lst_dict, isLT_lst, is_tup_bool, is_tup_int, is_tup_str, is_tup_list, is_tup_tuple, is_tup_dict, isLT_tup, is_tpk_bool, is_tpk_int, is_tpk_str, is_tpk_list, is_tpk_tuple, is_tpk_dict, isLT_tpk, is_dk_bool, is_dk_int, is_dk_str, is_dk_list, is_dk_tuple, is_dk_dict, isLT_dk, fEq_ii, fNe_ii, fEqT_ii_true, fEqT_ii_false, fEq_in, fNe_in, fEqT_in_true, fEqT_in_false, fEq_bb, fNe_bb, fEqT_bb_true, fEqT_bb_false, fEq_bn, fNe_bn, fEqT_bn_true, fEqT_bn_false, fEq_ni, fNe_ni, fEqT_ni_true, fEqT_ni_false, fEq_nb, fNe_nb, fEqT_nb_true, fEqT_nb_false, fEq_nn, fNe_nn, fEqT_nn_true, fEqT_nn_false, fEq_ss, fNe_ss, fNotB_bb, env0, outsOf_n, outsOf_c, gTupl_t, gTupl_k, rdAll, rdT, wb, asM_n, fRng1_i, asR_r, asL_l, asT_t, asT_k, as1_i, as2_i, lsL_l, lsL_m, lsL_r, as2T_l, as1T_l, dDic, dRdM, wipeE, namE, clrE, dXfK, dXf, unt_nil, unt_cons, unt1_none, unt1_ref, unt1_int, unt1_bl, unt1_str, unt1_non, unt1_nd, Option.bind_eq_bind, and_self, exists_eq, T.lf.injEq, V.bl.injEq, T.fz_fz, map_fz_lf, rowT_fz, matT_fz, map_rowT_fz, rowT_fzd, List.length_map, fAdd_ii, fAdd_ss, fAdd_ll, fAdd_tt, fMul_ii, fMul_li, fII_ii, fIC_ii, fCmp_ii, fCmp_ss, isN_non, isN_int, isN_bl, isN_str, isN_nd, fIsN_n, fNotN_n, fNeg_i, fInt1_i, fInt1_b, fTuple_l, fTuple_t, fList_l, fList_t, fList_k, fMax_ii, fMin_ii, fDivmod_ii, fLen_l, fLen_q, fLen_t, fLen_k, fLen_s, fSl_l, fSl_t, fSl_s, fSl00_e, fSl10_e, fSl01_e, fIsB_bb, fIx_l, fIx_q, fIx_t, fIx_k, fIx_s, fAppend_l, fSetL_l, fExtend_l, fPop_l, fPopAt_l, fInsert_l, fReverse_l, fClear_l, fDPut_i, fDPut_s, fDGet2_i, fDGet2_s, fDGet_i, isDic_k, Tr.one_inj, key_i, key_s, fDIn_i, kindOf_l, kindOf_k, at_0, at_1, at_2, at_3, List.map_cons, List.map_nil, List.length_cons, List.length_nil, List.replicate, List.cons_append, List.nil_append, List.append_nil, List.getElem?_cons_zero, List.getElem?_cons_succ, List.set_cons_zero, List.set_cons_succ, Option.join, Option.bind_some, id_eq, Option.some.injEq, Option.map_some, exists_eq_left', exists_eq_left, exists_eq', T.fz_lf, T.fz_nd, T.fzd_lf, T.fzd_nd, Kd.unl, Nat.sub_self, Nat.sub_zero, Nat.reduceSub, Nat.reduceAdd, Nat.zero_add, true_and, and_true, List.reverse_cons, List.reverse_nil, if_true, if_false, Bool.false_eq_true, Bool.not_false, Bool.not_true, Bool.false_xor, Bool.true_xor, tru_non, tru_bl, tru_int, tru_lst, tru_tup, ite_true, ite_false, reduceIte, exists_const, exists_and_left, List.isEmpty_cons, List.isEmpty_nil, Option.map_some, beq_self_eq_true, Int.toNat_natCast, Option.toList_none, Option.toList_some, Nat.zero_le, List.length_set, Option.isNone_none, Option.isNone_some, Option.isSome_none, Option.isSome_some, PyData.eqv, PyData.eqvAll, Bool.and_true, Bool.true_and, Bool.and_false, Bool.false_and, Bool.and_self, Bool.not_not, Bool.xor_false, Bool.xor_true, Bool.or_true, Bool.true_or, Bool.or_false, Bool.false_or])
local macro_rules | `(tactic| walk_at "ew") => `(tactic| try walk_at "ew1")
local macro_rules | `(tactic| walk_at "go") => `(tactic| (walk_at "ew"; repeat ((first | ((with_reducible refine And.intro ?_ ?_); (first | (focus decide; done) | (focus decide +kernel; done) | (focus exact fun _ => rfl; done)) ) | (with_reducible refine ifEF (by decide +kernel) ?_) | (with_reducible refine ifET (by decide +kernel) ?_)); walk_at "ew")))
section
variable {K : PySem.W.Frag} {P Ex : T → List T → Prop} {t : T} {g s u : Nat}
theorem q_whole {t : T} {n : String} (h : t.tyn = some n) (p : P (bT t.isI) []) : sp_is_whole K [t] P Ex := by
  unfold sp_is_whole ds_is_whole
  walk_at "ev"
  refine is_ty h (by decide) ⟨_, rfl, ?_⟩
  rw [isI_of h] at p
  split
  · rename_i e
    rw [e, Bool.true_and] at p
    exact is_ty h (by decide) ⟨_, rfl, p⟩
  · rename_i e
    rw [Bool.not_eq_true] at e
    rw [e, Bool.false_and] at p
    exact p
theorem q_between {t : T} {n : String} {lo hi : Int} (h : t.tyn = some n) (p : P (bT (t.btw lo hi)) []) : sp_is_between K [t, iT lo, iT hi] P Ex := by
  unfold sp_is_between ds_is_between
  walk_at "ev"
  refine q_whole (tyn_fz h) ?_
  rw [T.isI_fz]
  refine ⟨_, rfl, ?_⟩
  split
  · rename_i e
    cases t with
    | nd o k xs => cases k <;> simp [T.isI] at e
    | lf v =>
      cases v <;> simp [T.isI] at e
      rename_i i
      walk_at "ev"
      simp only [T.btw] at p
      refine iB (fun e => ?_) fun e => ?_
      · rw [e, Bool.true_and] at p; exact p
      · rw [e, Bool.false_and] at p; exact p
  · rename_i e
    have : t.btw lo hi = false := by
      cases t with
      | nd o k xs => rfl
      | lf v => cases v <;> simp [T.isI] at e <;> rfl
    rw [this] at p
    exact p

/-! equality of data, a while, cuts -/
theorem while_ind {dc : DB} {db : DS} {DT : DEnds} {env : Tr.Env} (I : Nat → Tr.Env → Prop) (m0 : Nat) (h0 : I m0 env) (h : ∀ m env, I m env → dc env (fun b env1 => if b = true then db { DT with nx := fun env2 => ∃ m', m' < m ∧ I m' env2, ct := fun env2 => ∃ m', m' < m ∧ I m' env2, bk := DT.nx } env1 else DT.nx env1) DT.ex) : dWhile dc db DT env := ⟨I, ⟨m0, h0⟩, h⟩
theorem cut_to2 (xs : List T) : cutT xs none (some 2) = xs.take 2 := cutN_to xs 2
theorem cut_to1 (xs : List T) : cutT xs none (some 1) = xs.take 1 := cutN_to xs 1
theorem cut_from1 (xs : List T) : cutT xs (some 1) none = xs.drop 1 := cutN_from xs 1
theorem iS {c : Bool} {A B : Prop} (h1 : c = true → B → A) (h2 : B) : if c = true then A else B := by
  cases c with
  | true => exact h1 rfl h2
  | false => exact h2
theorem iS' {c : Bool} {A B : Prop} (h1 : c = false → A → B) (h2 : A) : if c = true then A else B := by
  cases c with
  | true => exact h2
  | false => exact h1 rfl h2
theorem loop_all {dg : DG} {db : DS} {DT : DEnds} (I : Tr.Env → Prop) (hn : ∀ env, I env → DT.nx env) : ∀ {xs : List T} {env : Tr.Env}, I env → (∀ x ∈ xs, ∀ env, I env → ∀ N : Tr.Env → Prop, (∀ env', I env' → N env') → dg x env fun env2 => db { DT with nx := N, ct := N, bk := DT.nx } env2) → dLoop dg db DT xs env
  | [], env, h0, _ => hn env h0
  | x :: xs, env, h0, hs => by
    unfold dLoop
    exact hs x List.mem_cons_self env h0 _ fun env' h' => loop_all I hn h' fun y hy => hs y (List.mem_cons_of_mem _ hy)
theorem ko_fz (o : Bool) (xs : List T) : ko o (xs.map T.fz) := fun _ => by
  rw [List.all_map, List.all_eq_true]
  intro x _
  simp
theorem loop_irc {dg : DG} {db : DS} {DT : DEnds} (I : Nat → Tr.Env → Prop) {lo st : Int} {n : Nat} {env : Tr.Env} (h0 : I 0 env) (hs : ∀ i env, i < n → I i env → ∀ N : Tr.Env → Prop, (∀ env', I (i + 1) env' → N env') → dg (.lf (.int (lo + (i : Nat) * st))) env fun env2 => db { DT with nx := N, ct := N, bk := DT.nx } env2) (hn : ∀ env, I n env → DT.nx env) : dLoop dg db DT (irc lo st n) env :=
  loop_at _ I h0 (fun i y env e h N hN => by
    obtain ⟨h1, h2⟩ := List.getElem?_eq_some_iff.mp e
    rw [List.getElem_range] at h2
    subst h2
    exact hs i env (by simpa using h1) h N hN) fun env h => hn env (by simpa using h)

section
open Tr.Lz
/-- a pot, of which at most c are mixed -/
def Pt (c : Nat) (t : T) : Prop := ∃ a b n : Int, t = .nd true .lst [iT a, iT b, iT n] ∧ 0 ≤ a ∧ (0 ≤ b ∧ b < 2 ^ 127) ∧ 0 ≤ n ∧ n ≤ c
theorem Pt.up {c d : Nat} {t : T} (h : Pt c t) (e : c ≤ d) : Pt d t := by
  obtain ⟨a, b, n, h1, h2, h3, h4, h5⟩ := h
  exact ⟨a, b, n, h1, h2, h3, h4, by omega⟩
theorem q_cell_at {ns : List Int} {k : Nat} (p : ∀ i : Int, P (iT i) []) : sp__law_cell_at K [.nd false .seq (ns.map fun i => T.lf (.int i)), iT (k : Nat)] P Ex := by
  unfold sp__law_cell_at ds__law_cell_at
  walk_at "ew"
  refine iB (fun e => ?_) fun e => ?_
  · rw [decide_eq_true_eq] at e
    have hk : k < ns.length := by omega
    walk_at "ew"
    refine ⟨_, at_n k rfl (by rw [List.getElem?_map, List.getElem?_eq_getElem hk]; rfl), rfl, ?_⟩
    walk_at "go"
    exact p _
  · walk_at "go"
    exact p _
theorem q_pot {cell : Int} (p : ∀ q, Pt 0 q → P q []) : sp__law_pot K [iT cell] P Ex := by
  unfold sp__law_pot ds__law_pot
  have c18 : CPowW 10 18 := CPowW.mk (i := 10) (a := 10) (n := 18) (by decide) (by decide) (by decide)
  walk_at "go"
  refine ⟨c18, ?_⟩
  walk_at "go"
  refine p _ ⟨_, _, _, rfl, ?_, ⟨?_, ?_⟩, by decide, by decide⟩
  · split <;> omega
  · exact Int.emod_nonneg _ (by decide)
  · exact Int.lt_of_lt_of_le (Int.emod_lt_of_pos _ (by decide)) (by decide)
/-- a pick: any number below many -/
theorem q_pick {c : Nat} {q : T} {many : Int} (h : Pt c q) (hc : c ≤ 1000000 := by omega) (m0 : 0 < many := by omega) (m1 : many < 2 ^ 200 := by omega) (p : ∀ (r : Int) q', 0 ≤ r → r < many → Pt (c + 1) q' → P (iT r) [q']) : sp__law_pick K [q, iT many] P Ex := by
  unfold sp__law_pick ds__law_pick
  obtain ⟨x, y, z, rfl, x0, ⟨y0, y1⟩, z0, zc⟩ := h
  walk_at "go"
  refine iB (fun e => ?_) fun e => ?_
  · walk_at "go"
    refine ⟨m0, ?_⟩
    walk_at "go"
    refine ⟨divS, ?_⟩
    walk_at "go"
    refine ⟨0, rfl, ?_⟩
    walk_at "go"
    exact p _ _ (Int.emod_nonneg _ (by omega)) (Int.emod_lt_of_pos _ m0) ⟨_, y, z, rfl, Int.ediv_nonneg x0 (by omega), ⟨y0, y1⟩, z0, by omega⟩
  · walk_at "go"
    refine ⟨2, rfl, ?_⟩
    walk_at "go"
    have t0 : 0 ≤ z + 1 := by omega
    have t1 : z + 1 ≤ 1000001 := by omega
    refine ⟨mulS, ?_⟩
    walk_at "go"
    refine ⟨CPowW.mk (a := 130) (n := 3) ?_ (by decide) (by decide), ?_⟩
    · omega
    walk_at "go"
    generalize hm : ((y + 9176263 * (z + 1) + 57) ^ (3 : Int).toNat % 162259276829213363391578010288127 : Int) = m
    have m2 : 0 ≤ m := by rw [← hm]; exact Int.emod_nonneg _ (by decide)
    have m3 : m < 162259276829213363391578010288127 := by rw [← hm]; exact Int.emod_lt_of_pos _ (by decide)
    refine ⟨mulS, ?_⟩
    walk_at "go"
    refine ⟨CPowW.mk (a := 130) (n := 5) ?_ (by decide) (by decide), ?_⟩
    · omega
    walk_at "go"
    refine ⟨divS, ?_⟩
    walk_at "go"
    refine ⟨m0, ?_⟩
    exact p _ _ (Int.emod_nonneg _ (by omega)) (Int.emod_lt_of_pos _ m0) ⟨x, y, z + 1, rfl, x0, ⟨y0, y1⟩, t0, by omega⟩
end

section
open Tr.Lz
/-! ### texts of small letters -/
def Lw (s : Str) : Prop := ∀ c ∈ s.cps.toList, 97 ≤ c ∧ c ≤ 122
def Nm (s : Str) : Prop := Lw s ∧ 1 ≤ s.length ∧ s.length ≤ 8
theorem Lw.ok {s : Str} (h : Lw s) : PyData.strOk s = true := by
  unfold PyData.strOk
  rw [← Array.all_toList, List.all_eq_true]
  intro c hc
  have := h c hc
  rw [decide_eq_true_eq]
  omega
theorem Nm.ok {s : Str} (h : Nm s) : PyData.strOk s = true := h.1.ok
theorem Str.app_l (a b : Str) : (a ++ b).cps.toList = a.cps.toList ++ b.cps.toList := by
  show (a.cps ++ b.cps).toList = _
  rw [Array.toList_append]
theorem Str.app_len (a b : Str) : (a ++ b).length = a.length + b.length := by
  show (a.cps ++ b.cps).size = _
  rw [Array.size_append]
  rfl
theorem Lw.app {a b : Str} (h : Lw a) (k : Lw b) : Lw (a ++ b) := fun c hc => by
  rw [Str.app_l] at hc
  exact (List.mem_append.mp hc).elim (h c) (k c)
theorem Lw.cut {a : Str} (h : Lw a) (lo hi : Option Int) : Lw (cutS a lo hi) := fun c hc => by
  unfold cutS at hc
  exact h c (List.mem_of_mem_drop (List.mem_of_mem_take (by simpa using hc)))
theorem Lw.one {c : Nat} (h : 97 ≤ c ∧ c ≤ 122) : Lw ⟨#[c]⟩ := fun d hd => by
  have : d = c := by simpa using hd
  subst this
  exact h
theorem cutS_to (a : Str) (k : Nat) : (cutS a none (some (k : Int))).length = min k a.length := by
  show (((a.cps.toList.drop (HT.sIx a.length 0 none)).take (HT.sIx a.length a.length (some (k : Int)) - HT.sIx a.length 0 none)).toArray).size = _
  have h1 : HT.sIx a.length 0 none = 0 := rfl
  have h2 : HT.sIx a.length a.length (some (k : Int)) = min k a.length := by
    unfold HT.sIx
    simp only
    rw [if_neg (by omega), Int.toNat_natCast]
  rw [h1, h2, List.size_toArray, List.length_take, List.length_drop, Array.length_toList]
  show min (min k a.length - 0) (a.length - 0) = _
  omega
/-- the letters -/
theorem abc_lw : Lw ("abcdefghijklmnopqrstuvwxyz" : Str) := by
  have : ∀ c ∈ ("abcdefghijklmnopqrstuvwxyz" : Str).cps.toList, 97 ≤ c ∧ c ≤ 122 := by decide +kernel
  exact this
theorem abc_len : ("abcdefghijklmnopqrstuvwxyz" : Str).cps.toList.length = 26 := by decide +kernel
theorem abc_len' : ("abcdefghijklmnopqrstuvwxyz" : Str).length = 26 := by decide +kernel
theorem abc_at {r : Int} (h0 : 0 ≤ r) (h1 : r < 26) : ∃ c, atI ("abcdefghijklmnopqrstuvwxyz" : Str).cps.toList r = some c ∧ 97 ≤ c ∧ c ≤ 122 := by
  obtain ⟨t, ht, e⟩ := at_mem (xs := ("abcdefghijklmnopqrstuvwxyz" : Str).cps.toList) h0 (by rw [abc_len]; exact h1)
  exact ⟨t, e, abc_lw t ht⟩
theorem join_e (ys : List Str) : (Txt.join (("" : Str)) ys).cps.toList = (ys.map fun y => y.cps.toList).flatten := by
  unfold Txt.join
  rw [StrLaws.glued_eq_join]
  induction ys with
  | nil => rfl
  | cons x r ih =>
    cases r with
    | nil => simp [Str.join]
    | cons y r =>
      show (x ++ ("" : Str) ++ Str.join "" (y :: r)).cps.toList = _
      rw [Str.app_l, Str.app_l, ih]
      rw [show (("" : Str)).cps.toList = [] from by decide +kernel]
      simp
theorem Lw.join {ys : List Str} (h : ∀ y ∈ ys, Lw y) : Lw (Txt.join (("" : Str)) ys) := fun c hc => by
  rw [join_e, List.mem_flatten] at hc
  obtain ⟨l, hl, hc⟩ := hc
  obtain ⟨y, hy, rfl⟩ := List.mem_map.mp hl
  exact h y hy c hc
theorem join_len (ys : List Str) : (Txt.join (("" : Str)) ys).length = (ys.map (·.length)).sum := by
  show (Txt.join (("" : Str)) ys).cps.size = _
  rw [← Array.length_toList, join_e, List.length_flatten, List.map_map]
  rfl
theorem sum_ones {ys : List Str} (h : ∀ y ∈ ys, y.length = 1) : (ys.map (·.length)).sum = ys.length := by
  induction ys with
  | nil => rfl
  | cons y ys ih =>
    rw [List.map_cons, List.sum_cons, ih fun z hz => h z (List.mem_cons_of_mem _ hz), h y List.mem_cons_self, List.length_cons]
    omega
end

section
open Tr.Lz
/-- a name -/
theorem q_name {c : Nat} {q : T} (h : Pt c q) (hc : c ≤ 900000 := by omega) (p : ∀ s q', Nm s → Pt (c + 10) q' → P (sT s) [q']) : sp__law_name K [q] P Ex := by
  unfold sp__law_name ds__law_name
  walk_at "go"
  refine q_pick h (p := fun a q1 a0 a1 h1 => ?_)
  walk_at "go"
  refine q_pick h1 (p := fun b q2 b0 b1 h2 => ?_)
  walk_at "go"
  have hs : ∃ m : Nat, atI [T.lf (V.int 1), T.lf (V.int 2), T.lf (V.int 8), T.lf (V.int (1 + a))] b = some (iT (m : Nat)) ∧ 1 ≤ m ∧ m ≤ 8 := by
    obtain ⟨t, ht, e⟩ := at_mem (xs := [T.lf (V.int 1), T.lf (V.int 2), T.lf (V.int 8), T.lf (V.int (1 + a))]) b0 b1
    simp only [List.mem_cons, List.not_mem_nil, or_false] at ht
    rcases ht with rfl | rfl | rfl | rfl
    · exact ⟨1, e, by decide, by decide⟩
    · exact ⟨2, e, by decide, by decide⟩
    · exact ⟨8, e, by decide, by decide⟩
    · exact ⟨(1 + a).toNat, by rw [e, Int.toNat_of_nonneg (by omega)], by omega, by omega⟩
  obtain ⟨m, em, m1, m8⟩ := hs
  refine ⟨_, em, rfl, ?_⟩
  walk_at "go"
  refine ⟨⟨by omega, by omega⟩, comp_irgS (fun i acc env => ∃ q', env = [some q', some (sT ("abcdefghijklmnopqrstuvwxyz" : Str)), some (iT (m : Nat)), none] ∧ Pt (c + 2 + i) q' ∧ ∃ ys : List Str, acc = ys.map sT ∧ ys.length = i ∧ ∀ y ∈ ys, Lw y ∧ y.length = 1) ⟨q2, rfl, h2, [], rfl, rfl, fun _ h => by cases h⟩ (Nat.le_trans m8 (by decide)) (fun i acc env hi hI C Z hC hZ => ?_) fun acc env hI => ?_⟩
  · obtain ⟨q', rfl, hq, ys, rfl, y1, y2⟩ := hI
    walk_at "go"
    refine q_pick hq (p := fun r q'' r0 r1 hq' => ?_)
    walk_at "go"
    obtain ⟨ch, e1, e2⟩ := abc_at r0 r1
    refine ⟨ch, e1, ?_⟩
    walk_at "go"
    refine hC _ _ ⟨q'', rfl, hq'.up (by omega), ys ++ [⟨#[ch]⟩], by simp [Tr.strAt], by simp [y1], fun y hy => ?_⟩
    rcases List.mem_append.mp hy with hy | hy
    · exact y2 y hy
    · rw [List.mem_singleton.mp hy]; exact ⟨.one e2, rfl⟩
  · obtain ⟨q', rfl, hq, ys, rfl, y1, y2⟩ := hI
    have hs : (ys.map (·.length)).sum = m := by rw [sum_ones fun y hy => (y2 y hy).2, y1]
    walk_at "go"
    refine ⟨ys, rfl, ?_, ?_⟩
    · rw [hs, show (("" : Str)).length = 0 from by decide +kernel]
      omega
    walk_at "go"
    refine p _ _ ⟨.join fun y hy => (y2 y hy).1, ?_, ?_⟩ (hq.up (by omega))
    · rw [join_len, hs]; exact m1
    · rw [join_len, hs]; exact m8
end

section
open Tr.Lz
theorem dats_strs {n : Nat} : ∀ {ns : List Str}, (∀ s ∈ ns, PyData.strOk s = true) → Dats n (ns.map sT) (ns.map .str)
  | [], _ => .nil
  | s :: ns, h => .cons (.str (h s List.mem_cons_self)) (dats_strs fun x hx => h x (List.mem_cons_of_mem _ hx))
theorem in_strs {n o : Bool} {x : Str} {ns : List Str} {P : T → Prop} (hx : PyData.strOk x = true) (hn : ∀ s ∈ ns, PyData.strOk s = true) (p : P (bT (n ^^ decide (x ∈ ns)))) : fIn n [.lf (.str x), .nd o .lst (ns.map sT)] P := by
  have hd : Dats 0 (ns.map sT) (ns.map .str) := dats_strs hn
  have h : Dat 1 (T.nd o .lst (ns.map sT)) (.list (ns.map .str)) := .lst hd
  refine ⟨.str x, ns.map .str, by simp [T.py], hd.ok.1, (Dat.str (n := 0) hx).sh (by decide), h.sh (by decide), ?_⟩
  have e : ((ns.map PyData.str).any fun z => PyData.eqv z (.str x)) = decide (x ∈ ns) := by
    rw [List.any_map, Bool.eq_iff_iff, List.any_eq_true, decide_eq_true_eq]
    constructor
    · rintro ⟨y, hy, e⟩
      have : y = x := by simpa [PyData.eqv] using e
      exact this ▸ hy
    · intro hx
      exact ⟨x, hx, by simp [PyData.eqv]⟩
  rw [e]
  exact p
theorem ne_nil {n : Nat} {o o' : Bool} {xs : List T} {ds : List PyData} {P : T → Prop} (h : Dats n xs ds) (hn : n ≤ 60) (p : P (bT (decide (xs ≠ [])))) : fNe [.nd o .lst xs, .nd o' .lst []] P := by
  refine neD (n := n + 1) (m := 1) (.lst h) (.lst .nil) ?_ (by omega)
  have := h.len
  cases ds with
  | nil =>
    cases xs with
    | nil => simpa [PyData.eqv, PyData.eqvAll] using p
    | cons x xs => simp at this
  | cons d ds =>
    cases xs with
    | nil => simp at this
    | cons x xs => simpa [PyData.eqv, PyData.eqvAll] using p
theorem map_sT_fz (ns : List Str) : (ns.map sT).map T.fz = ns.map sT := by
  rw [List.map_map]
  exact List.map_congr_left fun _ _ => T.fz_lf _
theorem ko_strs (o : Bool) (ns : List Str) : ko o (ns.map sT) := ko_ints o (fun s : Str => V.str s) ns
theorem leafs_strs : ∀ ns : List Str, Tr.leafs (ns.map sT) = some (ns.map V.str)
  | [] => by simp [Tr.leafs]
  | s :: ns => by simp [Tr.leafs, leafs_strs ns, flatV]
theorem in_tup_strs {n o : Bool} {x : Str} {ns : List Str} {P : T → Prop} (p : P (bT (n ^^ decide (x ∈ ns)))) : fIn n [.lf (.str x), .nd o .tup (ns.map sT)] P := by
  refine ⟨rfl, _, leafs_strs ns, ?_⟩
  have e : inV (.str x) (ns.map V.str) = decide (x ∈ ns) := by
    unfold inV
    rw [List.any_map, Bool.eq_iff_iff, List.any_eq_true, decide_eq_true_eq]
    constructor
    · rintro ⟨y, hy, e⟩
      have : y = x := by simpa [eqV] using e
      exact this ▸ hy
    · exact fun h => ⟨x, h, by simp [eqV]⟩
  rw [e]
  exact p
end

section
open Tr.Lz
/-- unlike names -/
def Nms (L : List Str) : Prop := (∀ s ∈ L, Nm s) ∧ L.Nodup
theorem Nms.ok {L : List Str} (h : Nms L) : ∀ s ∈ L, PyData.strOk s = true := fun s hs => (h.1 s hs).ok
theorem q_names {c : Nat} {q : T} {many : Nat} (h : Pt c q) (hm : many ≤ 100 := by omega) (hc : c ≤ 800000 := by omega) (p : ∀ L q', Nms L → L.length ≤ many → (0 < many → 0 < L.length) → Pt (c + 2000) q' → P (.nd true .lst (L.map sT)) [q']) : sp__law_names K [q, iT (many : Nat)] P Ex := by
  unfold sp__law_names ds__law_names
  walk_at "go"
  refine q_pick h (p := fun w q1 w0 w1 h1 => ?_)
  walk_at "go"
  refine ⟨⟨by omega, by omega⟩, loop_irg (fun i env => ∃ q' L, ∃ a5 a6 a7 a8 : Option T, env = [some q', some (iT (many : Nat)), some (sT ("abcdefghijklmnopqrstuvwxyz" : Str)), some (iT w), some (.nd true .lst (L.map sT)), a5, a6, a7, a8] ∧ Pt (c + 1 + 13 * i) q' ∧ Nms L ∧ L.length ≤ i ∧ (0 < i → 0 < L.length)) ⟨q1, [], _, _, _, _, rfl, h1, ⟨fun _ h => (by cases h), List.nodup_nil⟩, by decide, fun h => by omega⟩ (fun i env hi hI N hN => ?_) fun env hI => ?_⟩
  · obtain ⟨q', L, _, _, _, _, rfl, hq, hL, l1, l2⟩ := hI
    walk_at "go"
    refine q_name hq (p := fun s q2 hs hq2 => ?_)
    walk_at "go"
    refine iB (fun e => ?nA) fun e => ?nB
    case' nA =>
      rw [decide_eq_true_eq] at e
      walk_at "go"
      refine ne_nil (dats_strs (n := 0) hL.ok) (by decide) ?_
      walk_at "go"
      refine iB (fun e2 => ?nC) fun e2 => ?nD
    case' nC =>
      have hL0 : 0 < L.length := by
        cases L with
        | nil => simp at e2
        | cons => simp
      walk_at "go"
      refine q_pick hq2 (p := fun r q3 r0 r1 hq3 => ?_)
      walk_at "go"
      obtain ⟨t, ht, et⟩ := at_mem (xs := L.map sT) r0 (by simpa using r1)
      obtain ⟨old, ho, rfl⟩ := List.mem_map.mp ht
      have hold := hL.1 old ho
      refine ⟨_, et, rfl, ?_⟩
      walk_at "go"
      have z8 : 8 ≤ sizeLine := by decide
      refine ⟨Nat.le_trans hold.2.2 z8, ?_⟩
      walk_at "go"
      refine q_pick hq3 (m0 := by have := hold.2.1; omega) (m1 := by have := hold.2.2; omega) (p := fun sp q4 s0 s1 hq4 => ?_)
      walk_at "go"
      refine ⟨Nat.le_trans hold.2.2 z8, ?_⟩
      walk_at "go"
      refine q_pick hq4 (p := fun lt q5 l0 l1' hq5 => ?_)
      walk_at "go"
      obtain ⟨ch, e1, e2⟩ := abc_at l0 l1'
      refine ⟨ch, e1, ?_⟩
      unfold Tr.strAt
      have c1 := cutS_length old none (some sp)
      have c2 := cutS_length old (some (sp + 2 - w)) none
      have h8 := hold.2.2
      have z17 : 17 ≤ sizeLine := by decide
      walk_at "go"
      refine ⟨by show _ + 1 ≤ _; omega, ?_⟩
      walk_at "go"
      refine ⟨Nat.le_trans hold.2.2 z8, ?_⟩
      walk_at "go"
      have la : (cutS old none (some sp) ++ (⟨#[ch]⟩ : Str)).length = (cutS old none (some sp)).length + 1 := Str.app_len _ _
      refine ⟨by rw [la]; omega, ?_⟩
      have lb := Str.app_len (cutS old none (some sp) ++ (⟨#[ch]⟩ : Str)) (cutS old (some (sp + 2 - w)) none)
      walk_at "go"
      refine ⟨by rw [lb, la]; omega, ?_⟩
      walk_at "go"
      have lc := cutS_to (cutS old none (some sp) ++ (⟨#[ch]⟩ : Str) ++ cutS old (some (sp + 2 - w)) none) 8
      have hs' : Nm (cutS (cutS old none (some sp) ++ (⟨#[ch]⟩ : Str) ++ cutS old (some (sp + 2 - w)) none) none (some 8)) := by
        refine ⟨(((hold.1.cut _ _).app (.one e2)).app (hold.1.cut _ _)).cut _ _, ?_, ?_⟩
        · rw [show ((8 : Int)) = ((8 : Nat) : Int) from rfl, lc, lb, la]; omega
        · rw [show ((8 : Int)) = ((8 : Nat) : Int) from rfl, lc]; omega
      generalize cutS (cutS old none (some sp) ++ (⟨#[ch]⟩ : Str) ++ cutS old (some (sp + 2 - w)) none) none (some 8) = s' at hs' ⊢
      have hqq : Pt (c + 1 + 13 * (i + 1)) q5 := hq5.up (by omega)
    case' nD =>
      have hs' : Nm s := hs
      have hqq : Pt (c + 1 + 13 * (i + 1)) q2 := hq2.up (by omega)
      walk_at "go"
    case' nB =>
      have hs' : Nm s := hs
      have hqq : Pt (c + 1 + 13 * (i + 1)) q2 := hq2.up (by omega)
      walk_at "go"
    all_goals
      refine in_strs hs'.ok hL.ok ?_
      walk_at "go"
      refine iB (fun e => ?_) fun e => ?_
      · rw [Bool.not_eq_true', decide_eq_false_iff_not] at e
        walk_at "go"
        refine ⟨Nat.lt_of_le_of_lt l1 (Nat.lt_of_lt_of_le hi (Nat.le_trans hm (by decide))), hN _ ⟨_, L ++ [_], _, _, _, _, by rw [List.map_append]; rfl, hqq, ⟨fun x hx => ?_, ?_⟩, by simp; omega, fun _ => by simp⟩⟩
        · rcases List.mem_append.mp hx with hx | hx
          · exact hL.1 x hx
          · rw [List.mem_singleton.mp hx]; exact hs'
        · rw [List.nodup_append]
          exact ⟨hL.2, by simp, fun a ha b hb e' => e (by rw [← List.mem_singleton.mp hb, ← e']; exact ha)⟩
      · rw [Bool.not_eq_false', decide_eq_true_eq] at e
        walk_at "go"
        exact hN _ ⟨_, L, _, _, _, _, rfl, hqq, hL, by omega, fun _ => List.length_pos_of_mem e⟩
  · obtain ⟨q', L, _, _, _, _, rfl, hq, hL, l1, l2⟩ := hI
    walk_at "go"
    exact p L q' hL l1 l2 (hq.up (by omega))
/-- rows of a town -/
def hT (o : Bool) (r : Str × Str × Int) : T := .nd o .tup [sT r.1, sT r.2.1, iT r.2.2]
def Tw (R : List (Str × Str × Int)) : Prop := Nms (R.map (·.1)) ∧ ∀ r ∈ R, Nm r.2.1 ∧ 0 ≤ r.2.2 ∧ r.2.2 ≤ 1000
theorem hT_fz (o : Bool) (R : List (Str × Str × Int)) : (R.map (hT o)).map T.fz = R.map (hT false) := by
  rw [List.map_map]
  exact List.map_congr_left fun r _ => by simp [hT]
end

section
open Tr.Lz
theorem q_houses {c most : Nat} {q : T} (h : Pt c q) (hm : most ≤ 90 := by omega) (hc : c ≤ 700000 := by omega) (p : ∀ R q', Tw R → R.length ≤ most → Pt (c + 5000) q' → P (.nd true .lst (R.map (hT true))) [q']) : sp__law_houses K [q, iT (most : Nat)] P Ex := by
  unfold sp__law_houses ds__law_houses
  walk_at "go"
  refine q_pick h (p := fun a q1 a0 a1 h1 => ?_)
  walk_at "go"
  refine q_pick h1 (p := fun a' q1' a0' a1' h1' => ?_)
  walk_at "go"
  refine q_pick h1' (p := fun x q1'' x0 x1 h1'' => ?_)
  walk_at "go"
  have hz : ∃ m : Nat, atI [T.lf (V.int 1), T.lf (V.int (1 + a)), T.lf (V.int (1 + a'))] x = some (iT (m : Nat)) ∧ 1 ≤ m ∧ m ≤ 8 := by
    obtain ⟨t, ht, et⟩ := at_mem (xs := [T.lf (V.int 1), T.lf (V.int (1 + a)), T.lf (V.int (1 + a'))]) x0 x1
    simp only [List.mem_cons, List.not_mem_nil, or_false] at ht
    rcases ht with rfl | rfl | rfl
    · exact ⟨1, et, by decide, by decide⟩
    · exact ⟨(1 + a).toNat, by rw [et, Int.toNat_of_nonneg (by omega)], by omega, by omega⟩
    · exact ⟨(1 + a').toNat, by rw [et, Int.toNat_of_nonneg (by omega)], by omega, by omega⟩
  obtain ⟨za, eza, za1, za2⟩ := hz
  refine ⟨_, eza, rfl, ?_⟩
  walk_at "go"
  refine q_names h1'' (p := fun A q2 hA aA1 aA2 h2 => ?_)
  walk_at "go"
  refine q_pick h2 (p := fun w q3 w0 w1 h3 => ?_)
  walk_at "go"
  rw [show ((most : Int) + 1) = ((most + 1 : Nat) : Int) from by omega]
  refine q_pick h3 (p := fun m q4 m0 m1 h4 => ?_)
  walk_at "go"
  obtain ⟨m, rfl⟩ := Int.eq_ofNat_of_zero_le m0
  refine q_names h4 (p := fun L q5 hL l1 l2 h5 => ?_)
  walk_at "go"
  try rw [map_sT_fz]
  have hA0 := aA2 (by omega)
  refine loop_at sT (fun i env => ∃ q' R, ∃ a5 a6 : Option T, env = [some q', some (iT (most : Nat)), some (.nd false .lst (A.map sT)), some (iT w), some (.nd true .lst (R.map (hT true))), a5, a6] ∧ Pt (c + 4005 + 4 * i) q' ∧ R.map (·.1) = L.take i ∧ ∀ r ∈ R, Nm r.2.1 ∧ 0 ≤ r.2.2 ∧ r.2.2 ≤ 1000) ⟨q5, [], _, _, rfl, h5.up (by omega), rfl, fun _ h => by cases h⟩ (fun i s env es hI N hN => ?_) fun env hI => ?_
  · obtain ⟨q', R, _, _, rfl, hq, r1, r2⟩ := hI
    have hi := (List.getElem?_eq_some_iff.mp es).1
    have hR : R.length = i := by
      have := congrArg List.length r1
      rw [List.length_map, List.length_take] at this
      omega
    walk_at "go"
    refine q_pick hq (p := fun b q6 b0 b1 hq6 => ?_)
    walk_at "go"
    refine q_pick hq6 (p := fun d q7 d0 d1 hq7 => ?_)
    walk_at "go"
    refine q_pick hq7 (p := fun e q8 e0 e1 hq8 => ?_)
    walk_at "go"
    have hh : ∃ v : Int, atI [T.lf (V.int (1 + b)), T.lf (V.int 1), T.lf (V.int d), T.lf (V.int e)] w = some (iT v) ∧ 0 ≤ v ∧ v ≤ 1000 := by
      obtain ⟨t, ht, et⟩ := at_mem (xs := [T.lf (V.int (1 + b)), T.lf (V.int 1), T.lf (V.int d), T.lf (V.int e)]) w0 w1
      simp only [List.mem_cons, List.not_mem_nil, or_false] at ht
      rcases ht with rfl | rfl | rfl | rfl
      · exact ⟨_, et, by omega, by omega⟩
      · exact ⟨_, et, by omega, by omega⟩
      · exact ⟨_, et, by omega, by omega⟩
      · exact ⟨_, et, by omega, by omega⟩
    obtain ⟨v, ev, v0, v1⟩ := hh
    refine ⟨_, ev, rfl, ?_⟩
    walk_at "go"
    refine q_pick hq8 (m0 := by omega) (m1 := by omega) (p := fun k q9 k0 k1 hq9 => ?_)
    walk_at "go"
    obtain ⟨t, ht, et⟩ := at_mem (xs := A.map sT) k0 (by simpa using k1)
    obtain ⟨ar, har, rfl⟩ := List.mem_map.mp ht
    refine ⟨_, et, rfl, ?_⟩
    walk_at "go"
    refine ⟨by rw [hR]; exact Nat.lt_of_lt_of_le hi (Nat.le_trans l1 (Nat.le_trans (by omega : _ ≤ 100) (by decide))), hN _ ⟨q9, R ++ [(s, ar, v)], _, _, by rw [List.map_append]; rfl, hq9.up (by omega), ?_, fun r hr => ?_⟩⟩
    · rw [List.map_append, r1, List.take_succ, es]
      rfl
    · rcases List.mem_append.mp hr with hr | hr
      · exact r2 r hr
      · rw [List.mem_singleton.mp hr]; exact ⟨hA.1 _ har, v0, v1⟩
  · obtain ⟨q', R, _, _, rfl, hq, r1, r2⟩ := hI
    rw [List.take_length] at r1
    have hR : R.length = L.length := by
      have := congrArg List.length r1
      rwa [List.length_map] at this
    walk_at "go"
    exact p R q' ⟨by rw [r1]; exact hL, r2⟩ (by omega) (hq.up (by omega))
end

section
open Tr.Lz
/-- whether a text is a name -/
def nameOk (x : Str) : Bool := decide (1 ≤ x.length) && (decide (x.length ≤ 8) && x.cps.toList.all fun c => decide (c ∈ ("abcdefghijklmnopqrstuvwxyz" : Str).cps.toList))
theorem abc_mem {c : Nat} : c ∈ ("abcdefghijklmnopqrstuvwxyz" : Str).cps.toList ↔ 97 ≤ c ∧ c ≤ 122 := by
  have e : ("abcdefghijklmnopqrstuvwxyz" : Str).cps.toList = [97, 98, 99, 100, 101, 102, 103, 104, 105, 106, 107, 108, 109, 110, 111, 112, 113, 114, 115, 116, 117, 118, 119, 120, 121, 122] := by decide +kernel
  rw [e]
  simp only [List.mem_cons, List.not_mem_nil, or_false]
  omega
theorem nameOk_nm {x : Str} : nameOk x = true ↔ Nm x := by
  unfold nameOk Nm Lw
  simp only [Bool.and_eq_true, decide_eq_true_eq, List.all_eq_true, abc_mem]
  constructor
  · exact fun ⟨a, b, c⟩ => ⟨c, a, b⟩
  · exact fun ⟨c, a, b⟩ => ⟨a, b, c⟩
theorem fAll_b {o : Bool} {bs : List Bool} {P : T → Prop} (p : P (bT (bs.all id))) : fAll [.nd o .lst (bs.map bT)] P := ⟨bs, rfl, p⟩
/-- the members of a row -/
inductive Mb where
  | i (z : Int) | b (v : Bool) | n | s (x : Str) | l | t
def Mb.e : Mb → Tr.T
  | .i z => iT z
  | .b v => bT v
  | .n => .lf .non
  | .s x => sT x
  | .l => .nd false .lst []
  | .t => .nd false .tup [iT 1]
def Mb.ok : Mb → Prop
  | .s x => PyData.strOk x = true ∧ x.length ≤ 20
  | _ => True
def Mb.name : Mb → Bool
  | .s x => nameOk x
  | _ => false
def Mb.ge (k : Int) : Mb → Bool
  | .i z => decide (k ≤ z)
  | _ => false
def Mb.btw (lo hi : Int) : Mb → Bool
  | .i z => decide (lo ≤ z) && decide (z ≤ hi)
  | _ => false
def Mb.ty : Mb → String
  | .i _ => "int"
  | .b _ => "bool"
  | .n => "NoneType"
  | .s _ => "str"
  | .l => "list"
  | .t => "tuple"
theorem Mb.tyn (m : Mb) : m.e.tyn = some m.ty := by cases m <;> rfl
theorem Mb.fz (m : Mb) : m.e.fz = m.e := by cases m <;> simp [Mb.e]
theorem Mb.fzd (m : Mb) : m.e.fzd = true := by cases m <;> rfl
theorem Mb.e_btw (m : Mb) (lo hi : Int) : m.e.btw lo hi = m.btw lo hi := by cases m <;> rfl
theorem map_e_fz (ms : List Mb) : (ms.map Mb.e).map T.fz = ms.map Mb.e := by
  rw [List.map_map]
  exact List.map_congr_left fun m _ => m.fz
theorem Mb.dat {m : Mb} (h : m.ok) : ∃ d, Dat 1 m.e d := by
  cases m with
  | i z => exact ⟨_, .int z⟩
  | b v => exact ⟨_, .bl v⟩
  | n => exact ⟨_, .non⟩
  | s x => exact ⟨_, .str h.1⟩
  | l => exact ⟨_, .lst .nil⟩
  | t => exact ⟨_, .tup (.cons (.int 1) .nil)⟩
theorem ko_e (o : Bool) (ms : List Mb) : ko o (ms.map Mb.e) := fun _ => by
  rw [List.all_map, List.all_eq_true]
  exact fun m _ => m.fzd
theorem q_is_name {m : Mb} (h : m.ok) (p : P (bT m.name) []) : sp_is_name K [m.e] P Ex := by
  unfold sp_is_name ds_is_name
  have z : 20 ≤ sizeLine := by decide
  cases m with
  | s x =>
    unfold Mb.e
    walk_at "go"
    refine ⟨Nat.le_trans h.2 z, ?_⟩
    walk_at "go"
    have p : P (bT (nameOk x)) [] := p
    unfold nameOk at p
    by_cases c1 : 1 ≤ x.length
    · rw [decide_eq_true c1, Bool.true_and] at p
      refine ifET (by simp; omega) ?_
      walk_at "go"
      by_cases c2 : x.length ≤ 8
      · rw [decide_eq_true c2, Bool.true_and] at p
        refine ifET (by simp; omega) ?_
        walk_at "go"
        refine comp_gen1 Tr.strAt (fun c => bT (decide (c ∈ ("abcdefghijklmnopqrstuvwxyz" : Str).cps.toList))) (fun c hc C Z hC => ?_) (by rw [Array.length_toList]; exact Nat.le_trans h.2 z) ?_
        · unfold Tr.strAt
          walk_at "go"
          refine ⟨c, rfl, ?_⟩
          walk_at "go"
          exact hC _ rfl
        · walk_at "go"
          refine ⟨x.cps.toList.map fun c => decide (c ∈ ("abcdefghijklmnopqrstuvwxyz" : Str).cps.toList), by rw [List.map_map]; rfl, ?_⟩
          rw [List.all_map]
          walk_at "go"
          exact p
      · rw [decide_eq_false c2, Bool.false_and] at p
        refine ifEF (by simp; omega) ?_
        walk_at "go"
        exact p
    · rw [decide_eq_false c1, Bool.false_and] at p
      refine ifEF (by simp; omega) ?_
      walk_at "go"
      exact p
  | _ => unfold Mb.e; walk_at "go"; exact p
end

section
open Tr.Lz
/-! ### the number of a name -/
abbrev ABC : Str := "abcdefghijklmnopqrstuvwxyz"
def num (l : List Nat) : Int := l.foldl (fun (n : Int) (c : Nat) => n * 27 + ((c : Int) - 96)) 0
def nr : List Nat → Int
  | [] => 0
  | c :: r => ((c : Int) - 96) + 27 * nr r
theorem nr_cons (c : Nat) (r : List Nat) : nr (c :: r) = ((c : Int) - 96) + 27 * nr r := rfl
theorem num_snoc (l : List Nat) (c : Nat) : num (l ++ [c]) = num l * 27 + ((c : Int) - 96) := by
  unfold num
  rw [List.foldl_append]
  rfl
theorem nr_rev : ∀ n (l : List Nat), l.length = n → nr l.reverse = num l
  | 0, l, h => by
    have : l = [] := List.length_eq_zero_iff.mp h
    subst this
    rfl
  | n + 1, l, h => by
    have hne : l ≠ [] := fun e => by subst e; simp at h
    obtain ⟨l', c, rfl⟩ : ∃ l' c, l = l' ++ [c] := ⟨_, _, (List.dropLast_concat_getLast hne).symm⟩
    rw [num_snoc, List.reverse_append, List.reverse_singleton, List.singleton_append]
    unfold nr
    rw [nr_rev n l' (by simpa using h)]
    omega
theorem num_lt : ∀ (n : Nat) (l : List Nat), l.length ≤ n → (∀ c ∈ l, 97 ≤ c ∧ c ≤ 122) → 0 ≤ num l ∧ num l < 27 ^ n := by
  intro n
  induction n with
  | zero =>
    intro l h _
    have : l = [] := List.length_eq_zero_iff.mp (by omega)
    subst this
    exact ⟨by decide, by decide⟩
  | succ n ih =>
    intro l h hl
    by_cases e : l = []
    · subst e
      refine ⟨by decide, ?_⟩
      show (0 : Int) < 27 ^ (n + 1)
      exact Int.pow_pos (by decide)
    · obtain ⟨l', c, rfl⟩ : ∃ l' c, l = l' ++ [c] := ⟨_, _, (List.dropLast_concat_getLast e).symm⟩
      obtain ⟨a, b⟩ := ih l' (by simpa using h) fun d hd => hl d (by simp [hd])
      obtain ⟨c1, c2⟩ := hl c (by simp)
      rw [num_snoc, Int.pow_succ]
      generalize (27 : Int) ^ n = z at b ⊢
      omega
theorem Nm.num {s : Str} (h : Nm s) : 0 ≤ num s.cps.toList ∧ num s.cps.toList < 282429536481 := num_lt 8 _ (by rw [Array.length_toList]; exact h.2.2) h.1
theorem idx_abc {c : Nat} (h : 97 ≤ c ∧ c ≤ 122) : Builtin.Str.occurrences ABC ⟨#[c]⟩ 0 ABC.length 1 = (c - 97) :: [] := by
  have : ∀ k < 26, Builtin.Str.occurrences ABC ⟨#[97 + k]⟩ 0 ABC.length 1 = [k] := by decide +kernel
  obtain ⟨k, rfl⟩ : ∃ k, c = 97 + k := ⟨c - 97, by omega⟩
  rw [this k (by omega), show 97 + k - 97 = k from by omega]
end

section
open Tr.Lz
/-! ### towns -/
def xN (K : PySem.W.Frag) (c f : Str) (t : T) : T := .nd false (.exc (He.ga K c) [f]) [t]
theorem q_check_name {m : Mb} (h : m.ok) (p : m.name = true → P (.lf .non) []) (x : m.name = false → Ex (xN K "NoName" "name" m.e) []) : sp_check_name K [m.e] P Ex := by
  unfold sp_check_name ds_check_name
  walk_at "go"
  rw [m.fz]
  refine q_is_name h ?_
  walk_at "go"
  refine iB (fun e => ?_) fun e => ?_
  · rw [Bool.not_eq_true'] at e
    walk_at "go"
    rw [m.fz]
    exact x e
  · rw [Bool.not_eq_false'] at e
    walk_at "go"
    exact p e
theorem q_check_nm {s : Str} (h : Nm s) (p : P (.lf .non) []) : sp_check_name K [sT s] P Ex :=
  q_check_name (m := .s s) ⟨h.ok, Nat.le_trans h.2.2 (by decide)⟩ (fun _ => p) fun e => by
    have : nameOk s = true := nameOk_nm.mpr h
    rw [show (Mb.s s).name = nameOk s from rfl, this] at e
    cases e
theorem q_check_weight {m : Mb} (p : m.btw 0 1000 = true → P (.lf .non) []) (x : m.btw 0 1000 = false → Ex (xN K "NoWeight" "weight" m.e) []) : sp_check_weight K [m.e] P Ex := by
  unfold sp_check_weight ds_check_weight
  walk_at "go"
  rw [m.fz]
  refine q_between m.tyn ?_
  rw [m.e_btw]
  walk_at "go"
  refine iB (fun e => ?_) fun e => ?_
  · rw [Bool.not_eq_true'] at e
    walk_at "go"
    rw [m.fz]
    exact x e
  · rw [Bool.not_eq_false'] at e
    walk_at "go"
    exact p e
theorem q_check_w {i : Int} (h : 0 ≤ i ∧ i ≤ 1000) (p : P (.lf .non) []) : sp_check_weight K [iT i] P Ex :=
  q_check_weight (m := .i i) (fun _ => p) fun e => by
    have e : (decide (0 ≤ i) && decide (i ≤ 1000)) = false := e
    rw [decide_eq_true h.1, decide_eq_true h.2] at e
    cases e
abbrev Rw := Str × Str × Int
def tk (R : List Rw) : List Key := R.map fun r => .inr r.1
def tv (R : List Rw) : List T := R.map fun r => .nd false .tup [sT r.2.1, iT r.2.2]
/-- a town, frozen or not -/
def townT (K : PySem.W.Frag) (o : Bool) (R : List Rw) : T := .nd o (.ins (He.ga K "Town") ["_houses"]) [.nd o (.dk (tk R)) (tv R)]
theorem tv_fz (R : List Rw) : (tv R).map T.fz = tv R := by
  unfold tv
  rw [List.map_map]
  exact List.map_congr_left fun r _ => by simp
theorem townT_fz (o : Bool) (R : List Rw) : (townT K o R).fz = townT K false R := by
  unfold townT
  rw [T.fz_nd]
  simp only [Kd.unl, List.map_cons, List.map_nil, T.fz_nd, tv_fz]
theorem tk_mem {R : List Rw} {s : Str} : (Sum.inr s : Key) ∈ tk R ↔ s ∈ R.map (·.1) := by
  unfold tk
  rw [List.mem_map, List.mem_map]
  exact ⟨fun ⟨r, h, e⟩ => ⟨r, h, by cases e; rfl⟩, fun ⟨r, h, e⟩ => ⟨r, h, by rw [e]⟩⟩
theorem ixOf_not {κ : Type} [DecidableEq κ] : ∀ {ks : List κ} {k : κ}, k ∉ ks → Tr.ixOf ks k = none
  | [], _, _ => rfl
  | a :: ks, k, h => by
    unfold Tr.ixOf
    rw [if_neg (fun e => h (by simp [e])), ixOf_not (fun e => h (by simp [e]))]
    rfl
theorem dg_not {κ α : Type} [DecidableEq κ] {ks : List κ} {xs : List α} {k : κ} (h : k ∉ ks) : Tr.dg ks xs k = none := by
  unfold Tr.dg
  rw [ixOf_not h]
  rfl
theorem dp_not {κ α : Type} [DecidableEq κ] {ks : List κ} {xs : List α} {k : κ} {t : α} (h : k ∉ ks) : Tr.dp ks xs k t = (ks ++ [k], xs ++ [t]) := by
  unfold Tr.dp
  rw [ixOf_not h]
theorem dg_tab {κ α β : Type} [DecidableEq κ] (f : β → κ) (g : β → α) : ∀ {R : List β} {r : β}, (R.map f).Nodup → r ∈ R → Tr.dg (R.map f) (R.map g) (f r) = some (g r)
  | [], _, _, h => by simp at h
  | a :: R, r, nd, h => by
    rw [List.map_cons, List.nodup_cons] at nd
    unfold Tr.dg
    rw [List.map_cons]
    unfold Tr.ixOf
    rcases List.mem_cons.mp h with rfl | h
    · rw [if_pos rfl]
      rfl
    · rw [if_neg fun e => nd.1 (by rw [e]; exact List.mem_map_of_mem h)]
      have ih := dg_tab f g nd.2 h
      unfold Tr.dg at ih
      cases q : Tr.ixOf (R.map f) (f r) with
      | none => rw [q] at ih; cases ih
      | some j =>
        rw [q] at ih
        exact ih
theorem nd_inj {α β : Type} (f : α → β) : ∀ {R : List α} {a b : α}, (R.map f).Nodup → a ∈ R → b ∈ R → f a = f b → a = b
  | [], _, _, _, h, _, _ => by simp at h
  | c :: R, a, b, nd, ha, hb, e => by
    rw [List.map_cons, List.nodup_cons] at nd
    rcases List.mem_cons.mp ha with ea | ha' <;> rcases List.mem_cons.mp hb with eb | hb'
    · rw [ea, eb]
    · exact absurd (show f c ∈ R.map f from by rw [← ea, e]; exact List.mem_map_of_mem hb') nd.1
    · exact absurd (show f c ∈ R.map f from by rw [← eb, ← e]; exact List.mem_map_of_mem ha') nd.1
    · exact nd_inj f nd.2 ha' hb' e
theorem tk_nd {R : List Rw} (h : (R.map (·.1)).Nodup) : (tk R).Nodup := by
  unfold tk
  rw [show (fun r : Rw => (Sum.inr r.1 : Key)) = (Sum.inr ∘ fun r : Rw => r.1) from rfl, ← List.map_map]
  exact List.Pairwise.map _ (fun a b h e => h (by cases e; rfl)) h
theorem tw_dg {R : List Rw} {r : Rw} (h : (R.map (·.1)).Nodup) (hr : r ∈ R) : Tr.dg (tk R) (tv R) (.inr r.1) = some (.nd false .tup [sT r.2.1, iT r.2.2]) :=
  dg_tab (fun r : Rw => (Sum.inr r.1 : Key)) _ (tk_nd h) hr
/-- a town is made of good rows -/
theorem q_town {R : List Rw} (h : Tw R) (hl : R.length ≤ 1000) (p : P (.lf .non) [townT K true R]) : sp_Town___init__ K [.nd true (.ins (He.ga K "Town") []) [], .nd false .lst (R.map (hT false))] P Ex := by
  unfold sp_Town___init__ ds_Town___init__
  walk_at "go"
  simp only [hT_fz]
  refine loop_at (hT false) (fun i env => ∃ a2 a3 a4 : Option T, env = [some (townT K true (R.take i)), some (.nd false .lst (R.map (hT false))), a2, a3, a4]) ⟨_, _, _, rfl⟩ (fun i r env er hI N hN => ?_) fun env hI => ?_
  · obtain ⟨_, _, _, rfl⟩ := hI
    have hi := (List.getElem?_eq_some_iff.mp er).1
    have hr : r ∈ R := List.mem_of_getElem? er
    obtain ⟨h1, h2, h3⟩ := h.2 r hr
    have hn := h.1.1 r.1 (List.mem_map_of_mem hr)
    have htk : R.take (i + 1) = R.take i ++ [r] := by rw [List.take_succ, er]; rfl
    have hnn : (Sum.inr r.1 : Key) ∉ tk (R.take i) := by
      rw [tk_mem]
      have := h.1.2.sublist ((List.take_sublist (i + 1) R).map (fun r : Rw => r.1))
      rw [htk, List.map_append, List.nodup_append] at this
      exact fun z => this.2.2 _ z r.1 (by simp) rfl
    unfold hT townT
    walk_at "go"
    refine q_check_nm hn ?_
    walk_at "go"
    refine q_check_nm h1 ?_
    walk_at "go"
    refine q_check_w ⟨h2, h3⟩ ?_
    walk_at "go"
    rw [dg_not hnn]
    walk_at "go"
    refine ⟨0, rfl, _, _, rfl, ?_⟩
    walk_at "go"
    refine ⟨?_, ?_⟩
    · unfold tv
      rw [List.length_map, List.length_take]
      exact Nat.lt_of_le_of_lt (Nat.le_trans (Nat.min_le_right _ _) hl) (by decide)
    rw [dp_not hnn]
    have e1 : tk (R.take i) ++ [Sum.inr r.1] = tk (R.take (i + 1)) := by rw [htk]; unfold tk; rw [List.map_append]; rfl
    have e2 : tv (R.take i) ++ [T.nd false .tup [sT r.2.1, iT r.2.2]] = tv (R.take (i + 1)) := by rw [htk]; unfold tv; rw [List.map_append]; rfl
    walk_at "go"
    rw [e1, e2]
    exact hN _ ⟨_, _, _, rfl⟩
  · obtain ⟨_, _, _, rfl⟩ := hI
    rw [List.take_length]
    walk_at "go"
    exact p
end

section
open Tr.Lz
theorem eq_nil {n : Nat} {o o' : Bool} {xs : List T} {ds : List PyData} {P : T → Prop} (h : Dats n xs ds) (hn : n ≤ 60) (p : P (bT (decide (xs = [])))) : fEq [.nd o .lst xs, .nd o' .lst []] P := by
  refine eqD (n := n + 1) (m := 1) (.lst h) (.lst .nil) ?_ (by omega)
  have := h.len
  cases ds with
  | nil =>
    cases xs with
    | nil => simpa [PyData.eqv, PyData.eqvAll] using p
    | cons x xs => simp at this
  | cons d ds =>
    cases xs with
    | nil => simp at this
    | cons x xs => simpa [PyData.eqv, PyData.eqvAll] using p
end

section
open Tr.Lz
def Tx (x : Str) : Prop := PyData.strOk x = true ∧ x.length ≤ 20
theorem Nm.tx {x : Str} (h : Nm x) : Tx x := ⟨h.ok, Nat.le_trans h.2.2 (by decide)⟩
theorem num_take {x : Str} (h : Nm x) (i : Nat) : 0 ≤ num (x.cps.toList.take i) ∧ num (x.cps.toList.take i) < 282429536481 :=
  num_lt 8 _ (by rw [List.length_take, Array.length_toList]; exact Nat.le_trans (Nat.min_le_right _ _) h.2.2) fun c hc => h.1 c (List.mem_of_mem_take hc)
theorem q_number_of {x : Str} (h : Tx x) (p : nameOk x = true → P (iT (num x.cps.toList)) []) (e : nameOk x = false → Ex (xN K "NoName" "name" (sT x)) []) : sp_number_of K [sT x] P Ex := by
  unfold sp_number_of ds_number_of
  walk_at "go"
  refine q_check_name (m := .s x) h (fun o => ?_) (fun o => ?_)
  · have hn : Nm x := nameOk_nm.mp o
    walk_at "go"
    refine loop_at Tr.strAt (fun i env => ∃ a2 : Option T, env = [some (sT x), some (iT (num (x.cps.toList.take i))), a2]) ⟨_, rfl⟩ (fun i c env ec hI N hN => ?_) fun env hI => ?_
    · obtain ⟨_, rfl⟩ := hI
      have hc := hn.1 c (List.mem_of_getElem? ec)
      obtain ⟨n0, n1⟩ := num_take hn i
      unfold Tr.strAt
      walk_at "go"
      refine ⟨mulS, ?_⟩
      walk_at "go"
      refine ⟨_, _, idx_abc hc, ?_⟩
      walk_at "go"
      have e1 : num (x.cps.toList.take i) * 27 + ((c - 97 : Nat) : Int) + 1 = num (x.cps.toList.take (i + 1)) := by
        rw [List.take_succ, ec]
        show _ = num (x.cps.toList.take i ++ [c])
        rw [num_snoc]
        omega
      walk_at "go"
      rw [e1]
      exact hN _ ⟨_, rfl⟩
    · obtain ⟨_, rfl⟩ := hI
      rw [List.take_of_length_le (Nat.le_refl _)]
      walk_at "go"
      exact p o
  · walk_at "go"
    exact e o
theorem q_law_number {x : Str} (hn : Nm x) (p : P (iT (num x.cps.toList)) []) : sp__law_number K [sT x] P Ex := by
  unfold sp__law_number ds__law_number
  walk_at "go"
  refine ⟨Nat.le_trans hn.2.2 (by decide), ?_⟩
  walk_at "go"
  have hr : (revS x).cps.toList = x.cps.toList.reverse := by unfold revS; rfl
  rw [hr]
  have hl : x.cps.toList.length ≤ 8 := by rw [Array.length_toList]; exact hn.2.2
  rw [← nr_rev _ _ rfl] at p
  have hm : ∀ c ∈ x.cps.toList.reverse, 97 ≤ c ∧ c ≤ 122 := fun c hc => hn.1 c (List.mem_reverse.mp hc)
  have hl' : x.cps.toList.reverse.length ≤ 8 := by rw [List.length_reverse]; exact hl
  generalize x.cps.toList.reverse = r at *
  have p27 : ∀ i < 9, (27 : Int) ^ i ≤ 282429536481 := by decide
  refine loop_at Tr.strAt (fun i env => ∃ (f : Int) (a4 : Option T), env = [some (sT x), some (sT ABC), some (iT f), some (iT ((27 : Int) ^ i)), a4] ∧ 0 ≤ f ∧ f < 27 ^ i ∧ f + 27 ^ i * nr (r.drop i) = nr r) ⟨0, _, rfl, by decide, by decide, by simp⟩ (fun i c env ec hI N hN => ?_) fun env hI => ?_
  · obtain ⟨f, _, rfl, f0, f1, hf⟩ := hI
    have hi := (List.getElem?_eq_some_iff.mp ec).1
    have hc := hm c (List.mem_of_getElem? ec)
    have hd : r.drop i = c :: r.drop (i + 1) := by
      rw [List.drop_eq_getElem_cons hi]
      congr 1
      exact (List.getElem?_eq_some_iff.mp ec).2
    have z1 : (1 : Int) ≤ 27 ^ i := Int.pow_pos (by decide)
    have z2 := p27 i (by omega)
    rw [hd, nr_cons] at hf
    unfold Tr.strAt
    walk_at "go"
    refine ⟨_, _, idx_abc hc, ?_⟩
    walk_at "go"
    have ec' : (1 + ((c - 97 : Nat) : Int)) = (c : Int) - 96 := by omega
    rw [ec']
    have hN' := fun f' h => hN [some (sT x), some (sT ABC), some (iT f'), some (iT ((27 : Int) ^ (i + 1))), some (sT ⟨#[c]⟩)] ⟨f', _, rfl, h⟩
    simp only [Int.pow_succ] at hN'
    generalize (27 : Int) ^ i = z at *
    have a1 : z * ((c : Int) - 96) ≤ z * 26 := Int.mul_le_mul_of_nonneg_left (by omega) (by omega)
    have a2 : 0 ≤ z * ((c : Int) - 96) := Int.mul_nonneg (by omega) (by omega)
    refine ⟨mulS, ?_⟩
    walk_at "go"
    refine ⟨mulS, ?_⟩
    walk_at "go"
    refine hN' _ ⟨by omega, by omega, ?_⟩
    rw [← hf, Int.mul_add, Int.add_assoc, Int.mul_assoc]
  · obtain ⟨f, _, rfl, f0, f1, hf⟩ := hI
    rw [List.drop_length] at hf
    walk_at "go"
    rw [show f = nr r from by simpa [nr] using hf]
    exact p
theorem town_has {R : List Rw} {x : Str} (hR : (R.map (·.1)).Nodup) (c : x ∈ R.map (·.1)) : ∃ r ∈ R, r.1 = x ∧ Tr.dg (tk R) (tv R) (.inr x) = some (.nd false .tup [sT r.2.1, iT r.2.2]) := by
  obtain ⟨r, hr, rfl⟩ := List.mem_map.mp c
  exact ⟨r, hr, rfl, tw_dg hR hr⟩
theorem q_check_house {R : List Rw} {x : Str} (hR : (R.map (·.1)).Nodup) (h : Tx x) (p : nameOk x = true → x ∈ R.map (·.1) → P (.lf .non) []) (e1 : nameOk x = false → Ex (xN K "NoName" "name" (sT x)) []) (e2 : nameOk x = true → x ∉ R.map (·.1) → Ex (xN K "NoHouse" "name" (sT x)) []) : sp_Town__check_house K [townT K false R, sT x] P Ex := by
  unfold sp_Town__check_house ds_Town__check_house
  walk_at "go"
  refine q_check_name (m := .s x) h (fun o => ?_) (fun o => ?_)
  · unfold townT
    walk_at "go"
    simp only [tv_fz]
    by_cases c : x ∈ R.map (·.1)
    · obtain ⟨r, _, _, hv⟩ := town_has hR c
      rw [hv]
      walk_at "go"
      exact p o c
    · rw [dg_not fun z => c (tk_mem.mp z)]
      walk_at "go"
      exact e2 o c
  · walk_at "go"
    exact e1 o
theorem q_weight_of {R : List Rw} {x : Str} (hR : (R.map (·.1)).Nodup) (h : Tx x) (p : ∀ r ∈ R, r.1 = x → nameOk x = true → P (iT r.2.2) []) (e1 : nameOk x = false → Ex (xN K "NoName" "name" (sT x)) []) (e2 : nameOk x = true → x ∉ R.map (·.1) → Ex (xN K "NoHouse" "name" (sT x)) []) : sp_Town_weight_of K [townT K false R, sT x] P Ex := by
  unfold sp_Town_weight_of ds_Town_weight_of
  walk_at "go"
  simp only [townT_fz]
  refine ⟨⟨rfl, by decide +kernel⟩, q_check_house hR h (fun o c => ?_) (fun o => by walk_at "go"; exact e1 o) fun a b => by walk_at "go"; exact e2 a b⟩
  obtain ⟨r, hr, rfl, hv⟩ := town_has hR c
  unfold townT
  walk_at "go"
  simp only [tv_fz]
  refine ⟨_, hv, rfl, ?_⟩
  walk_at "go"
  exact p r hr rfl o
def pts (f s w : Int) : Int := w * (1 + (((((101 * f + s) % 1000003) * ((101 * f + s) % 1000003) + s) % 1000003) * ((((101 * f + s) % 1000003) * ((101 * f + s) % 1000003) + s) % 1000003) + f) % 1000003)
theorem q_score {R : List Rw} {x y : Str} (hR : Tw R) (hx : Tx x) (hy : Tx y) (e0 : nameOk x = false → Ex (xN K "NoName" "name" (sT x)) []) (e1 : nameOk x = true → nameOk y = false → Ex (xN K "NoName" "name" (sT y)) []) (e2 : nameOk x = true → nameOk y = true → y ∉ R.map (·.1) → Ex (xN K "NoHouse" "name" (sT y)) [])
    (p : nameOk x = true → nameOk y = true → ∀ r ∈ R, r.1 = y → P (iT (pts (num x.cps.toList) (num y.cps.toList) r.2.2)) []) : sp_score K [townT K false R, sT x, sT y] P Ex := by
  unfold sp_score ds_score
  walk_at "go"
  refine q_number_of hx (fun o => ?_) (fun o => ?_)
  · walk_at "go"
    refine q_number_of hy (fun o2 => ?_) (fun o2 => ?_)
    · walk_at "go"
      simp only [townT_fz]
      refine ⟨⟨rfl, by decide +kernel⟩, q_weight_of hR.1.2 hy (fun r hr er _ => ?_) (fun z => ?_) fun a b => by walk_at "go"; exact e2 o a b⟩
      · have p := p o o2 r hr er
        obtain ⟨x0, x1⟩ := (nameOk_nm.mp o).num
        obtain ⟨y0, y1⟩ := (nameOk_nm.mp o2).num
        obtain ⟨_, w0, w1⟩ := hR.2 r hr
        unfold pts at p
        walk_at "go"
        refine ⟨mulS, ?_⟩
        walk_at "go"
        have m : ∀ z : Int, 0 ≤ z % 1000003 ∧ z % 1000003 < 1000003 := fun z => ⟨Int.emod_nonneg _ (by decide), Int.emod_lt_of_pos _ (by decide)⟩
        have a1 := m (101 * num x.cps.toList + num y.cps.toList)
        generalize (101 * num x.cps.toList + num y.cps.toList) % 1000003 = a at *
        refine ⟨mulS, ?_⟩
        walk_at "go"
        have b1 := m (a * a + num y.cps.toList)
        generalize (a * a + num y.cps.toList) % 1000003 = b at *
        refine ⟨mulS, ?_⟩
        walk_at "go"
        have c1 := m (b * b + num x.cps.toList)
        generalize (b * b + num x.cps.toList) % 1000003 = c at *
        refine ⟨mulS, ?_⟩
        walk_at "go"
        exact p
      · rw [o2] at z; cases z
    · walk_at "go"
      exact e1 o o2
  · walk_at "go"
    exact e0 o
end

theorem is_cl {t : T} {tv u : Value} {c : V} {b : Bool} {P : T → Prop} (h : t.tyV = some tv ∧ t.tyOk K) (hc : clsU c = some u) (k : PySem.W.kitOne K tv u = some b) (p : P (bT b)) : fIs1 K [t, .lf c] P := ⟨tv, u, b, h.1, h.2, hc, k, p⟩
section
open Tr.Lz
theorem lt_a (c : Nat) : Tr.strLt ⟨#[c]⟩ "a" = decide (c < 97) := by
  have e : (("a" : Str)).cps.toList = [97] := by decide +kernel
  unfold Tr.strLt
  rw [e]
  refine decide_eq_decide.mpr ⟨fun h => ?_, fun h => List.Lex.rel h⟩
  cases h with
  | rel h => exact h
  | cons h => cases h
theorem gt_z (c : Nat) : Tr.strLt "z" ⟨#[c]⟩ = decide (122 < c) := by
  have e : (("z" : Str)).cps.toList = [122] := by decide +kernel
  unfold Tr.strLt
  rw [e]
  refine decide_eq_decide.mpr ⟨fun h => ?_, fun h => List.Lex.rel h⟩
  cases h with
  | rel h => exact h
  | cons h => cases h
theorem nameOk_o (x : Str) : nameOk x = (decide (0 < x.length) && (decide (x.length < 9) && decide (x.cps.toList.filter (fun c => decide (c < 97) || decide (122 < c)) = []))) := by
  rw [Bool.eq_iff_iff]
  unfold nameOk
  simp only [Bool.and_eq_true, decide_eq_true_eq, List.all_eq_true, abc_mem, List.filter_eq_nil_iff, Bool.or_eq_true, not_or]
  constructor
  · exact fun ⟨a, b, c⟩ => ⟨by omega, by omega, fun d hd => by have := c d hd; omega⟩
  · exact fun ⟨a, b, c⟩ => ⟨by omega, by omega, fun d hd => by have := c d hd; omega⟩
theorem q_law_is_name {x : Str} (h : Tx x) (p : P (bT (nameOk x)) []) : sp__law_is_name K [sT x] P Ex := by
  unfold sp__law_is_name ds__law_is_name
  have z : 20 ≤ sizeLine := by decide
  have hs := Nat.le_trans h.2 z
  rw [nameOk_o] at p
  walk_at "go"
  refine ⟨hs, ?_⟩
  walk_at "go"
  by_cases c1 : 0 < x.length
  · rw [decide_eq_true c1, Bool.true_and] at p
    refine ifET (by simp; omega) ?_
    walk_at "go"
    refine ⟨hs, ?_⟩
    walk_at "go"
    by_cases c2 : x.length < 9
    · rw [decide_eq_true c2, Bool.true_and] at p
      refine ifET (by simp; omega) ?_
      walk_at "go"
      refine comp_gen Tr.strAt Tr.strAt (fun c => decide (c < 97) || decide (122 < c)) (fun c hc C Z hC hZ => ?_) (by show 0 + _ ≤ _; rw [Nat.zero_add, Array.length_toList]; exact hs) ?_
      · unfold Tr.strAt
        walk_at "go"
        rw [lt_a]
        refine iB (fun e => ?_) fun e => ?_
        · walk_at "go"
          exact hC (by rw [e]; rfl) _ rfl
        · walk_at "go"
          rw [gt_z]
          refine iB (fun e2 => ?_) fun e2 => ?_
          · exact hC (by rw [e2]; simp) _ rfl
          · exact hZ (by rw [e, e2]; rfl) _ rfl
      · walk_at "go"
        refine eq_nil (n := 0) (ds := (x.cps.toList.filter fun c => decide (c < 97) || decide (122 < c)).map fun c => PyData.str ⟨#[c]⟩) ?_ (by decide) ?_
        · have hok : ∀ c ∈ x.cps.toList, PyData.strOk ⟨#[c]⟩ = true := fun c hc => by
            have := h.1
            unfold PyData.strOk at this ⊢
            rw [← Array.all_toList, List.all_eq_true] at this ⊢
            intro d hd
            have e : d = c := by simpa using hd
            subst e
            exact this d hc
          generalize hf : (x.cps.toList.filter fun c => decide (c < 97) || decide (122 < c)) = l
          have hl : ∀ c ∈ l, PyData.strOk ⟨#[c]⟩ = true := fun c hc => by rw [← hf] at hc; exact hok c (List.mem_filter.mp hc).1
          clear hf p
          have e : (l.map Tr.strAt).map T.fz = (l.map fun c => (⟨#[c]⟩ : Str)).map sT := by rw [List.map_map, List.map_map]; exact List.map_congr_left fun c _ => T.fz_lf _
          have e2 : (l.map fun c => PyData.str ⟨#[c]⟩) = (l.map fun c => (⟨#[c]⟩ : Str)).map PyData.str := by rw [List.map_map]; rfl
          rw [e, e2]
          exact dats_strs fun s hs => by obtain ⟨c, hc, rfl⟩ := List.mem_map.mp hs; exact hl c hc
        · walk_at "go"
          simp only [List.map_eq_nil_iff]
          exact p
    · rw [decide_eq_false c2, Bool.false_and] at p
      refine ifEF (by simp; omega) ?_
      walk_at "go"
      exact p
  · rw [decide_eq_false c1, Bool.false_and] at p
    refine ifEF (by simp; omega) ?_
    walk_at "go"
    exact p
theorem q_law_points {x y : Str} {w : Int} (hx : Nm x) (hy : Nm y) (hw : 0 ≤ w ∧ w ≤ 1000) (p : P (iT (pts (num x.cps.toList) (num y.cps.toList) w)) []) : sp__law_points K [sT x, sT y, iT w] P Ex := by
  unfold sp__law_points ds__law_points
  obtain ⟨x0, x1⟩ := hx.num
  obtain ⟨y0, y1⟩ := hy.num
  unfold pts at p
  walk_at "go"
  refine q_law_number hx ?_
  walk_at "go"
  refine ⟨mulS, ?_⟩
  walk_at "go"
  refine q_law_number hy ?_
  walk_at "go"
  have m : ∀ z : Int, 0 ≤ z % 1000003 ∧ z % 1000003 < 1000003 := fun z => ⟨Int.emod_nonneg _ (by decide), Int.emod_lt_of_pos _ (by decide)⟩
  have a1 := m (101 * num x.cps.toList + num y.cps.toList)
  generalize (101 * num x.cps.toList + num y.cps.toList) % 1000003 = a at *
  refine ⟨mulS, ?_⟩
  walk_at "go"
  refine q_law_number hy ?_
  walk_at "go"
  have b1 := m (a * a + num y.cps.toList)
  generalize (a * a + num y.cps.toList) % 1000003 = b at *
  refine ⟨mulS, ?_⟩
  walk_at "go"
  refine q_law_number hx ?_
  walk_at "go"
  have c1 := m (b * b + num x.cps.toList)
  generalize (b * b + num x.cps.toList) % 1000003 = c at *
  refine ⟨mulS, ?_⟩
  walk_at "go"
  exact p
theorem q_law_whole {i : Int} (p : P (bT true) []) : sp__law_whole K [iT i, iT i] P Ex := by
  unfold sp__law_whole ds__law_whole
  walk_at "go"
  exact p
/-- what is known of the refusals -/
structure Fx (K : PySem.W.Frag) : Prop where
  n1 : XfC K (He.ga K "NoName")
  n2 : PySem.W.findIn K (.ref (He.ga K "NoName")) "name" = some none
  h1 : XfC K (He.ga K "NoHouse")
  h2 : PySem.W.findIn K (.ref (He.ga K "NoHouse")) "name" = some none
  isx : ExcC K (He.ga K "NoName")
  v : PySem.W.kitOne K (.ref (He.ga K "NoName")) (.type "ValueError") = some true
  hh : PySem.W.kitOne K (.ref (He.ga K "NoName")) (.ref (He.ga K "NoHouse")) = some false
  nn : PySem.W.exmOne K (.ref (He.ga K "NoName")) (.ref (He.ga K "NoName")) = some true
  ho : PySem.W.exmOne K (.ref (He.ga K "NoHouse")) (.ref (He.ga K "NoHouse")) = some true
  hn : PySem.W.exmOne K (.ref (He.ga K "NoHouse")) (.ref (He.ga K "NoName")) = some false
theorem q_law_asked {R : List Rw} {x y : Str} (F : Fx K) (hR : Tw R) (hx : Tx x) (hy : Tx y) (p0 : nameOk x = false → P (.nd true .tup [sT "name", sT x]) []) (p1 : nameOk x = true → nameOk y = false → P (.nd true .tup [sT "name", sT y]) []) (p2 : nameOk x = true → nameOk y = true → y ∉ R.map (·.1) → P (.nd true .tup [sT "house", sT y]) [])
    (pp : nameOk x = true → nameOk y = true → ∀ r ∈ R, r.1 = y → P (.nd true .tup [sT "", iT (pts (num x.cps.toList) (num y.cps.toList) r.2.2)]) []) : sp__law_asked K [townT K false R, sT x, sT y] P Ex := by
  unfold sp__law_asked ds__law_asked
  walk_at "go"
  simp only [townT_fz]
  refine q_score hR hx hy (fun o => ?A) (fun o o2 => ?B) (fun o o2 c => ?C) fun o o2 r hr er => ?D
  case D =>
    walk_at "go"
    exact pp o o2 r hr er
  case' A =>
    unfold xN
    walk_at "ew"
    refine ⟨true, F.nn, fun _ a => ?_, fun e => by cases e⟩
    walk_at "ew"
    refine ⟨⟨_, _, _, rfl, F.n1, F.n2⟩, _, rfl, ?_⟩
  case' B =>
    unfold xN
    walk_at "ew"
    refine ⟨true, F.nn, fun _ a => ?_, fun e => by cases e⟩
    walk_at "ew"
    refine ⟨⟨_, _, _, rfl, F.n1, F.n2⟩, _, rfl, ?_⟩
  case' C =>
    unfold xN
    walk_at "ew"
    refine ⟨false, F.hn, fun e => (by cases e), fun _ => ?_⟩
    walk_at "ew"
    refine ⟨true, F.ho, fun _ a => ?_, fun e => by cases e⟩
    walk_at "ew"
    refine ⟨⟨_, _, _, rfl, F.h1, F.h2⟩, _, rfl, ?_⟩
  all_goals
    walk_at "go"
    first | exact p0 o | exact p1 o o2 | exact p2 o o2 c
theorem q_law_number_asked {x : Str} (F : Fx K) (h : Tx x) (p : nameOk x = true → P (iT (num x.cps.toList)) []) (e : nameOk x = false → P (.nd false .tup [sT x, bT true, bT false]) []) : sp__law_number_asked K [sT x] P Ex := by
  unfold sp__law_number_asked ds__law_number_asked
  walk_at "go"
  refine q_number_of h (fun o => ?_) fun o => ?_
  · walk_at "go"
    exact p o
  · unfold xN
    walk_at "ew"
    refine ⟨true, F.nn, fun _ a => ?_, fun e => by cases e⟩
    walk_at "ew"
    refine ⟨⟨_, _, _, rfl, F.n1, F.n2⟩, _, rfl, ?_⟩
    walk_at "ew"
    refine ⟨F.isx, _, rfl, _, F.v, ?_⟩
    walk_at "ew"
    refine ⟨F.isx, _, rfl, _, F.hh, ?_⟩
    walk_at "go"
    exact e o
end

section
open Tr.Lz
theorem q_right {q : T} (F : Fx K) (h : Pt 0 q) (p : P (bT true) []) : sp__law_right K [q] P Ex := by
  unfold sp__law_right ds__law_right
  walk_at "go"
  refine q_houses (most := 9) h (p := fun R q1 hR hl h1 => ?_)
  walk_at "go"
  simp only [hT_fz]
  refine q_town hR (by omega) ?_
  walk_at "go"
  simp only [townT_fz]
  refine q_name h1 (p := fun nm q2 hnm h2 => ?_)
  walk_at "go"
  refine q_pick h2 (p := fun r q3 r0 r1 h3 => ?_)
  walk_at "go"
  have ho : ∃ z : Str, atI [T.lf (V.str ""), T.lf (V.str "A"), T.lf (V.str "ab "), T.lf (V.str "abcdefghi"), T.lf (V.str "a0"), T.lf (V.str "{")] r = some (sT z) ∧ Tx z := by
    obtain ⟨t, ht, e⟩ := at_mem (xs := [T.lf (V.str ""), T.lf (V.str "A"), T.lf (V.str "ab "), T.lf (V.str "abcdefghi"), T.lf (V.str "a0"), T.lf (V.str "{")]) r0 r1
    simp only [List.mem_cons, List.not_mem_nil, or_false] at ht
    rcases ht with rfl | rfl | rfl | rfl | rfl | rfl <;> exact ⟨_, e, by decide +kernel, by decide +kernel⟩
  obtain ⟨z, ez, hz⟩ := ho
  refine ⟨_, ez, rfl, by decide, ?_⟩
  simp only [hT_fz, T.fz_lf]
  refine comp_gen1 (hT false) (fun r : Rw => sT r.1) (fun r hr C Z hC => ?_) (Nat.le_trans hl (by decide)) ?_
  · unfold hT
    walk_at "go"
    exact hC _ rfl
  walk_at "go"
  have eL : T.lf (V.str nm) :: T.lf (V.str z) :: R.map (fun i : Rw => T.lf (V.str i.1)) = (nm :: z :: R.map (·.1)).map sT := by
    rw [List.map_cons, List.map_cons, List.map_map]
    rfl
  have hL : ∀ x ∈ nm :: z :: R.map (·.1), Tx x := by
    intro x hx
    rcases List.mem_cons.mp hx with rfl | hx
    · exact hnm.tx
    · rcases List.mem_cons.mp hx with rfl | hx
      · exact hz
      · exact (hR.1.1 x hx).tx
  have lL : (nm :: z :: R.map (·.1)).length = R.length + 1 + 1 := by simp
  refine ⟨Nat.le_trans (show 2 + R.length ≤ 100 by omega) (by decide), ko_strs _ [nm, z], ?_, ?_⟩
  · exact ko_ints _ (fun i : Rw => V.str i.1) R
  rw [eL]
  generalize nm :: z :: R.map (·.1) = L at *
  rw [← lL]
  refine q_pick h3 (m0 := by omega) (m1 := by omega) (p := fun a q4 a0 a1 h4 => ?_)
  walk_at "go"
  refine q_pick h4 (p := fun b q5 b0 b1 h5 => ?_)
  walk_at "go"
  have hx : ∃ i : Int, atI [T.lf (V.int 0), T.lf (V.int 1), T.lf (V.int a), T.lf (V.int 0), T.lf (V.int 0)] b = some (iT i) ∧ 0 ≤ i ∧ i < L.length := by
    obtain ⟨t, ht, e⟩ := at_mem (xs := [T.lf (V.int 0), T.lf (V.int 1), T.lf (V.int a), T.lf (V.int 0), T.lf (V.int 0)]) b0 b1
    simp only [List.mem_cons, List.not_mem_nil, or_false] at ht
    rcases ht with rfl | rfl | rfl | rfl | rfl <;> exact ⟨_, e, by omega, by omega⟩
  obtain ⟨i, ei, i0, i1⟩ := hx
  refine ⟨_, ei, rfl, ?_⟩
  walk_at "go"
  obtain ⟨t, ht, et⟩ := at_mem (xs := L.map sT) i0 (by simpa using i1)
  obtain ⟨x, hxL, rfl⟩ := List.mem_map.mp ht
  refine ⟨_, et, rfl, ?_⟩
  walk_at "go"
  refine q_pick h5 (p := fun c q6 c0 c1 h6 => ?_)
  walk_at "go"
  have hy : ∃ i : Int, atI [T.lf (V.int 0), T.lf (V.int 1), T.lf (V.int ((L.length : Int) - 1))] c = some (iT i) ∧ 0 ≤ i ∧ i < L.length := by
    obtain ⟨t, ht, e⟩ := at_mem (xs := [T.lf (V.int 0), T.lf (V.int 1), T.lf (V.int ((L.length : Int) - 1))]) c0 c1
    simp only [List.mem_cons, List.not_mem_nil, or_false] at ht
    rcases ht with rfl | rfl | rfl <;> exact ⟨_, e, by omega, by omega⟩
  obtain ⟨j, ej, j0, j1⟩ := hy
  refine ⟨_, ej, rfl, ?_⟩
  walk_at "go"
  obtain ⟨t, ht, et2⟩ := at_mem (xs := L.map sT) j0 (by simpa using j1)
  obtain ⟨y, hyL, rfl⟩ := List.mem_map.mp ht
  refine ⟨_, et2, rfl, ?_⟩
  walk_at "go"
  have hxt := hL x hxL
  have hyt := hL y hyL
  refine loop_at sT (fun _ env => ∃ a8 a9 : Option T, env = [some q6, some (T.nd false Kd.lst [T.lf (V.str ""), T.lf (V.str "A"), T.lf (V.str "ab "), T.lf (V.str "abcdefghi"), T.lf (V.str "a0"), T.lf (V.str "{")]), some (.nd false .lst (R.map (hT false))), some (townT K false R), none, some (.nd false .lst (L.map sT)), some (sT x), some (sT y), a8, a9, none, none]) ⟨_, _, rfl⟩ (fun n s env es hI N hN => ?_) fun env hI => ?_
  · obtain ⟨_, _, rfl⟩ := hI
    have hs := hL s (List.mem_of_getElem? es)
    walk_at "go"
    refine q_law_is_name hs ?_
    walk_at "go"
    refine iB (fun o => ?_) fun o => ?_
    · walk_at "go"
      refine q_law_number (nameOk_nm.mp o) ?_
      walk_at "go"
      refine q_law_number_asked F hs (fun _ => ?_) fun z => by rw [o] at z; cases z
      walk_at "go"
      refine q_law_number_asked F hs (fun _ => ?_) fun z => by rw [o] at z; cases z
      walk_at "go"
      exact hN _ ⟨_, _, rfl⟩
    · walk_at "go"
      refine q_law_number_asked F hs (fun z => (by rw [o] at z; cases z)) fun _ => ?_
      walk_at "go"
      have d3 : ∀ o, Dat 1 (T.nd o .tup [sT s, bT true, bT false]) (.tuple [.str s, .bool true, .bool false]) := fun _ => .tup (.cons (.str hs.1) (.cons (.bl _) (.cons (.bl _) .nil)))
      refine neD (d3 _) (d3 _) ?_
      rw [show PyData.eqv (.tuple [.str s, .bool true, .bool false]) (.tuple [.str s, .bool true, .bool false]) = true from by simp [PyData.eqv, PyData.eqvAll]]
      walk_at "go"
      refine q_law_number_asked F hs (fun z => (by rw [o] at z; cases z)) fun _ => ?_
      walk_at "go"
      exact hN _ ⟨_, _, rfl⟩
  · obtain ⟨_, _, rfl⟩ := hI
    walk_at "go"
    refine q_law_is_name hxt ?_
    walk_at "go"
    refine iB (fun o => ?_) fun o => ?_
    · rw [Bool.not_eq_true'] at o
      walk_at "go"
      simp only [townT_fz]
      refine q_law_asked F hR hxt hyt (fun _ => ?_) (fun z => (by rw [o] at z; cases z)) (fun z => (by rw [o] at z; cases z)) fun z => (by rw [o] at z; cases z)
      walk_at "go"
      have d2 : ∀ o, Dat 1 (T.nd o .tup [sT "name", sT x]) (.tuple [.str "name", .str x]) := fun _ => .tup (.cons (.str (by decide +kernel)) (.cons (.str hxt.1) .nil))
      refine eqD (d2 _) (d2 _) ?_
      rw [show PyData.eqv (.tuple [.str "name", .str x]) (.tuple [.str "name", .str x]) = true from by simp [PyData.eqv, PyData.eqvAll]]
      walk_at "go"
      exact p
    rw [Bool.not_eq_false'] at o
    walk_at "go"
    refine q_law_is_name hyt ?_
    walk_at "go"
    refine iB (fun o2 => ?_) fun o2 => ?_
    · rw [Bool.not_eq_true'] at o2
      walk_at "go"
      simp only [townT_fz]
      refine q_law_asked F hR hxt hyt (fun z => (by rw [o] at z; cases z)) (fun _ _ => ?_) (fun _ z => (by rw [o2] at z; cases z)) fun _ z => (by rw [o2] at z; cases z)
      walk_at "go"
      have d2 : ∀ o, Dat 1 (T.nd o .tup [sT "name", sT y]) (.tuple [.str "name", .str y]) := fun _ => .tup (.cons (.str (by decide +kernel)) (.cons (.str hyt.1) .nil))
      refine eqD (d2 _) (d2 _) ?_
      rw [show PyData.eqv (.tuple [.str "name", .str y]) (.tuple [.str "name", .str y]) = true from by simp [PyData.eqv, PyData.eqvAll]]
      walk_at "go"
      exact p
    rw [Bool.not_eq_false'] at o2
    walk_at "go"
    simp only [hT_fz]
    refine comp_gen1 (hT false) (fun r : Rw => sT r.1) (fun r hr C Z hC => ?_) (Nat.le_trans hl (by decide)) ?_
    · unfold hT
      walk_at "go"
      exact hC _ rfl
    walk_at "go"
    have e3 : (R.map fun i : Rw => T.lf (V.str i.1)) = (R.map (·.1)).map sT := by rw [List.map_map]; rfl
    rw [e3]
    refine in_strs hyt.1 hR.1.ok ?_
    walk_at "go"
    refine iB (fun e => ?_) fun e => ?_
    · rw [Bool.not_eq_true', decide_eq_false_iff_not] at e
      walk_at "go"
      simp only [townT_fz]
      refine q_law_asked F hR hxt hyt (fun z => (by rw [o] at z; cases z)) (fun _ z => (by rw [o2] at z; cases z)) (fun _ _ _ => ?_) fun _ _ r hr er => absurd (er ▸ List.mem_map_of_mem hr) e
      walk_at "go"
      have d2 : ∀ o, Dat 1 (T.nd o .tup [sT "house", sT y]) (.tuple [.str "house", .str y]) := fun _ => .tup (.cons (.str (by decide +kernel)) (.cons (.str hyt.1) .nil))
      refine eqD (d2 _) (d2 _) ?_
      rw [show PyData.eqv (.tuple [.str "house", .str y]) (.tuple [.str "house", .str y]) = true from by simp [PyData.eqv, PyData.eqvAll]]
      walk_at "go"
      exact p
    walk_at "go"
    simp only [hT_fz]
    refine loop_at (hT false) (fun _ env => ∃ a4 a8 a9 a10 a11 : Option T, env = [some q6, some (T.nd false Kd.lst [T.lf (V.str ""), T.lf (V.str "A"), T.lf (V.str "ab "), T.lf (V.str "abcdefghi"), T.lf (V.str "a0"), T.lf (V.str "{")]), some (.nd false .lst (R.map (hT false))), some (townT K false R), a4, some (.nd false .lst (L.map sT)), some (sT x), some (sT y), a8, a9, a10, a11]) ⟨_, _, _, _, _, rfl⟩ (fun n r env er hI N hN => ?_) fun env hI => ?_
    · obtain ⟨_, _, _, _, _, rfl⟩ := hI
      have hr : r ∈ R := List.mem_of_getElem? er
      have hrn := hR.1.1 r.1 (List.mem_map_of_mem hr)
      obtain ⟨_, w0, w1⟩ := hR.2 r hr
      unfold hT
      walk_at "go"
      simp only [townT_fz]
      refine q_score hR hxt hrn.tx (fun z => (by rw [o] at z; cases z)) (fun _ z => (by rw [nameOk_nm.mpr hrn] at z; cases z)) (fun _ _ z => absurd (List.mem_map_of_mem hr) z) fun _ _ r' hr' er' => ?_
      have : r' = r := nd_inj (fun r : Rw => r.1) hR.1.2 hr' hr er'
      subst this
      walk_at "go"
      refine q_law_points (nameOk_nm.mp o) hrn ⟨w0, w1⟩ ?_
      walk_at "go"
      refine q_law_whole ?_
      walk_at "go"
      exact hN _ ⟨_, _, _, _, _, rfl⟩
    · obtain ⟨_, _, _, _, _, rfl⟩ := hI
      walk_at "go"
      exact p
theorem q_law {ns : List Int} (hl : ns.length ≤ 63) (F : Fx K) : specOf 2 [] (ds_law K) [.nd false .seq (ns.map fun i => .lf (.int i))] (fun t _ => t = .lf (.bl true)) (fun _ _ => False) := by
  unfold ds_law
  walk_at "go"
  obtain ⟨n, hn, n10⟩ : ∃ n : Nat, (if (if (ns.length : Int) < 8 then (ns.length : Int) else 8) > 1 then (if (ns.length : Int) < 8 then (ns.length : Int) else 8) else 1) = (n : Int) ∧ n ≤ 10 := by
    refine ⟨(if (if (ns.length : Int) < 8 then (ns.length : Int) else 8) > 1 then (if (ns.length : Int) < 8 then (ns.length : Int) else 8) else 1).toNat, ?_, ?_⟩ <;> split <;> split <;> omega
  rw [hn, Int.toNat_natCast]
  refine ⟨by omega, loop_irg (fun _ env => ∃ a : Option T, env = [some (.nd false .seq (ns.map fun i => .lf (.int i))), a]) ⟨_, rfl⟩ (fun i env hi hI N hN => ?_) fun env hI => ?_⟩
  · obtain ⟨_, rfl⟩ := hI
    walk_at "go"
    rw [Int.zero_add]
    refine q_cell_at (k := i) fun c => ?_
    walk_at "go"
    refine q_pot fun q hq => ?_
    walk_at "go"
    refine q_right F hq ?_
    walk_at "go"
    exact hN _ ⟨_, rfl⟩
  · obtain ⟨_, rfl⟩ := hI
    walk_at "go"
end

end
end Hx
set_option maxHeartbeats 4000000
namespace Hx
open PySem PySem.Spec PyProof.Rows L2 Cm Tr
local macro_rules | `(tactic| walk_at "vis") => `(tactic| (first | exact Or.inl rfl | exact Or.inr (Or.inl rfl) | exact Or.inr (Or.inr rfl)))
local macro_rules | `(tactic| walk_at "loc") => `(tactic| (first | exact Or.inl rfl | exact Or.inr rfl))
local macro_rules | `(tactic| walk_at "ev1") => `(tactic| simp (maxSteps := 1000000) only [Tr.specOf, endsOf, env0, outsOf_n, outsOf_c, dSkip, dSeq, dRet, dRetN, dExpr, dIf, dAsg, gSet, gSetF, gTupl_t, gTupl_k, gsNil, gsCons_c, dC, dVar, dMv, dGl, dCons, dNil, dSnoc, dT, dTr, dNot, dAnd, dOr, dAndV, dOrV, dNotV, dIfE, dOp, dLs, rdAll, rdT, dNew, dNew0, dCall, dFz, wb, dMutA_e, dPutA_e, asM_n, dFor, dItems_e, dItemsT_e, dRng1_e, dRng2_e, fRng1_i, dRngO_pk, asR_r, asL_l, asT_t, asT_k, as1_i, as2_i, dEnum_e, dZip_e, lsL_l, lsL_m, lsL_r, as2T_l, as1T_l, dKeys, dComp, dDComp, dRaise, dTry, dHds, dDic, dRdM, dYes, wipeE, namE, clrE, endS, dXfK, dXf, unt_nil, unt_cons, unt1_none, unt1_ref, unt1_int, unt1_bl, unt1_str, unt1_non, unt1_nd, dBrk, dCnt, dChain_eq, dSl11_v, dSl11_pk, Option.bind_eq_bind, and_self, exists_eq, T.lf.injEq, V.bl.injEq, T.fz_fz, map_fz_lf, rowT_fz, matT_fz, map_rowT_fz, rowT_fzd, List.length_map, fAdd_ii, fAdd_ss, fAdd_ll, fAdd_tt, fMul_ii, fMul_li, fII_ii, fIC_ii, fCmp_ii, fCmp_ss, isN_non, isN_int, isN_bl, isN_str, isN_nd, fIsN_n, fNotN_n, fNeg_i, fInt1_i, fInt1_b, fTuple_l, fTuple_t, fList_l, fList_t, fList_k, fMax_ii, fMin_ii, fDivmod_ii, fLen_l, fLen_q, fLen_t, fLen_k, fLen_s, fSl_l, fSl_t, fSl_s, fSl00_e, fSl10_e, fSl01_e, fIsB_bb, fIx_l, fIx_q, fIx_t, fIx_k, fIx_s, fAppend_l, fSetL_l, fExtend_l, fPop_l, fPopAt_l, fInsert_l, fReverse_l, fClear_l, fDPut_i, fDPut_s, fDGet2_i, fDGet2_s, fDGet_i, isDic_k, Tr.one_inj, key_i, key_s, fDIn_i, kindOf_l, kindOf_k, at_0, at_1, at_2, at_3, List.map_cons, List.map_nil, List.length_cons, List.length_nil, List.replicate, List.cons_append, List.nil_append, List.append_nil, List.getElem?_cons_zero, List.getElem?_cons_succ, List.set_cons_zero, List.set_cons_succ, Option.join, Option.bind_some, id_eq, Option.some.injEq, Option.map_some, exists_eq_left', exists_eq_left, exists_eq', T.fz_lf, T.fz_nd, T.fzd_lf, T.fzd_nd, Kd.unl, Nat.sub_self, Nat.sub_zero, Nat.reduceSub, Nat.reduceAdd, Nat.zero_add, true_and, and_true, List.reverse_cons, List.reverse_nil, if_true, if_false, Bool.false_eq_true, Bool.not_false, Bool.not_true, Bool.false_xor, Bool.true_xor, tru_non, tru_bl, tru_int, tru_lst, tru_tup, ite_true, ite_false, reduceIte, exists_const, exists_and_left, List.isEmpty_cons, List.isEmpty_nil])
local macro_rules | `(tactic| walk_at "ev") => `(tactic| try walk_at "ev1")
local macro_rules | `(tactic| walk_at "sz") => `(tactic| repeat (first | refine ⟨by decide, ?_⟩ | refine ⟨fun _ => rfl, ?_⟩))
local macro_rules | `(tactic| walk_at "dat") => `(tactic| repeat (first | exact Dats.nil | exact Dat.int _ | exact Dat.bl _ | exact Dat.non | exact Dat.str (by decide +kernel) | exact Dats.ints _ | apply Dats.cons | apply Dat.lst | apply Dat.tup | apply Dat.tpk))
local macro_rules | `(tactic| walk_at "ew1") => `(tactic| simp (maxSteps := 1000000) only [↓kEnx_w, ↓kEt_w, ↓lz_spec, ↓lz_skip, ↓lz_seq, ↓kAsg_w, ↓lz_asg, ↓lz_ret, ↓lz_retN, ↓kExpr_w, ↓lz_expr, ↓kIf_w, ↓lz_if, ↓lz_for, ↓lz_brk, ↓lz_cnt, ↓kRaise_w, ↓lz_raise, ↓lz_try, ↓lz_hds0, ↓lz_hds1, ↓lz_endS_nx, ↓lz_endS_bk, ↓lz_endS_ct, ↓lz_endS_rt, ↓kPut3_w, ↓kPut2_w, ↓kPut1_w, ↓kPut_w, ↓lz_put, ↓kDel2_w, ↓kDel1_w, ↓lz_del, ↓lz_c, ↓kVar_w, ↓lz_var, ↓kMv_w, ↓lz_mv, ↓lz_gl, ↓kFz_w, ↓lz_fz, ↓kLRg2_w, ↓kLRg_w, ↓lz_lrg, ↓kNew_w, ↓lz_new, ↓lz_new0, ↓kOp3_w, ↓kOp2_w, ↓kOp_w, ↓lz_op, ↓kLsc_w, ↓kLsv_w, ↓lz_ls0, ↓lz_lsv, ↓lz_lsp, ↓kNotV2_w, ↓kNotV_w, ↓lz_notV, ↓kDE_w, ↓kBo_w, ↓kAndV2_w, ↓kAndV_w, ↓lz_andV, ↓kOrV2_w, ↓kOrV_w, ↓lz_orV, ↓kIfE_w, ↓lz_ifE, ↓kCall_w, ↓lz_call, ↓kComp_w, ↓lz_comp, ↓kDComp_w, ↓lz_dcomp, ↓kMut3_w, ↓kMut2_w, ↓kMut_w, ↓lz_mut, ↓kMx3_w, ↓kMx2_w, atM_n, chL_i, ↓kMx1_w, ↓kMx0_w, ↓lz_mutIx, atP_n, chD_i, chD_s, ↓kPx3_w, ↓kPx2_w, ↓kPx1_w, ↓kPx0_w, ↓kPx_w, ↓lz_putIx, ↓kCl_w, ↓lz_cloE, ↓lz_clo_nx, ↓lz_clo_bk, ↓lz_clo_ct, ↓lz_clo_rt, ↓lz_clo_ex, ↓kOpn1_w, ↓kOpn_w, ↓lz_open, ↓kCh6_w, ↓kCh5_w, ↓kCh4_w, ↓kCh3_w, ↓kCh2_w, ↓kCh1_w, ↓lz_chain, ↓kSl4_w, ↓kSlv3_w, ↓kSlv2_w, ↓kSlv1_w, ↓kSlv0_w, ↓kSlv_w, ↓lz_sl11v, ↓kSlp3_w, ↓kSlp2_w, ↓kSlp1_w, ↓kSlp0_w, ↓lz_sl11p, ↓kXfH2_w, asX_x, ↓kXfH_w, ↓lz_xfH, ↓kT2_w, ↓kT_w, ↓lz_T, ↓kTr_w, ↓lz_Tr, ↓kNot_w, ↓lz_not, ↓kDB_w, ↓kBb_w, ↓kAnd_w, ↓lz_and, ↓kOr_w, ↓lz_or, ↓lz_yes, ↓lz_nil, ↓kCons2_w, ↓kCons_w, ↓lz_cons, ↓kConsL2_w, ↓kConsL_w, ↓lz_consL, ↓kSnoc2_w, ↓kSnoc_w, ↓lz_snoc, ↓kFld_w, ↓lz_fld, ↓kFldS2_w, ↓kFldS_w, ↓lz_fldS, ↓kOA3_w, ↓kOA2_w, ↓kOA1_w, ↓kOAx_w, ↓kOA0_w, ↓kOA_w, ↓lz_opA, ↓kOB2_w, ↓kOB3_w, ↓kOB1_w, ↓kOB0_w, ↓kOB_w, ↓lz_opB, ↓kChk_w, ↓lz_chk, ↓kCm1_w, ↓lz_consM, kIsS_n, ↓lz_isS, fDIn_s, fDGet_s, fRevS_s, fSIndex_s, ↓kMk_w, ↓lz_make, kMkR_n, kMkX_n, insAt_1, insC_n, chF_n, fPutF_n, dpK_0, kPF_w, ↓lz_gset, ↓lz_gsetF, ↓lz_gsnil, ↓kGs_w, ↓lz_gscons, ↓kQ_w, ↓kItems_w, ↓lz_items, ↓kItemsT_w, ↓lz_itemsT, ↓kRng1b_w, ↓kRng1_w, ↓lz_rng1, ↓kRng2b_w, ↓kRng2_w, ↓lz_rng2, ↓kRng3b_w, as3_i, ↓kRng3_w, ↓lz_rng3, ↓kRngO_w, ↓lz_rngO, ↓kZip3_w, ↓kZip2_w, ↓kZip1_w, ↓kZip_w, ↓lz_zip, ↓kEn2_w, ↓kEn1_w, ↓kEn_w, ↓lz_enum, ↓kKeys2_w, ↓kKeys_w, ↓lz_keys, fInR_i, fRev_l, ↓lz_forApp, kFa_w, fVia_n, ↓lz_via, ↓kVia_w, ↓kVia0_w, ↓kVia1_w, kVia2_w, fKIn_s, fKGet_s, fLenS_t, fLenS_l, ↓lz_parF, kParF_w, tupL_t, tupL_k, ↓kZipT3_w, ↓kZipT2_w, ↓kZipT1_w, ↓kZipT_w, ↓lz_zipT, ↓kCha2_w, ↓kCha_w, ↓lz_chars, w_rdE, w_rdA, w_asB, w_asO, w_asI, w_asS, w_asD, w_ifET, w_ifEF, w_isE, w_isM, is_non_bool, is_non_int, is_non_str, is_non_list, is_non_tuple, is_non_dict, isLT_non, is_bl_bool, is_bl_int, is_bl_str, is_bl_list, is_bl_tuple, is_bl_dict, isLT_bl, is_int_bool, is_int_int, is_int_str, is_int_list, is_int_tuple, is_int_dict, isLT_int, is_str_bool, is_str_int, is_str_str, is_str_list, is_str_tuple, is_str_dict, isLT_str, is_lst_bool, is_lst_int, is_lst_str, is_lst_list, is_lst_tuple, is_lst_dict, isLT_lst, is_tup_bool, is_tup_int, is_tup_str, is_tup_list, is_tup_tuple, is_tup_dict, isLT_tup, is_tpk_bool, is_tpk_int, is_tpk_str, is_tpk_list, is_tpk_tuple, is_tpk_dict, isLT_tpk, is_dk_bool, is_dk_int, is_dk_str, is_dk_list, is_dk_tuple, is_dk_dict, isLT_dk, fEq_ii, fNe_ii, fEqT_ii_true, fEqT_ii_false, fEq_in, fNe_in, fEqT_in_true, fEqT_in_false, fEq_bb, fNe_bb, fEqT_bb_true, fEqT_bb_false, fEq_bn, fNe_bn, fEqT_bn_true, fEqT_bn_false, fEq_ni, fNe_ni, fEqT_ni_true, fEqT_ni_false, fEq_nb, fNe_nb, fEqT_nb_true, fEqT_nb_false, fEq_nn, fNe_nn, fEqT_nn_true, fEqT_nn_false, fEq_ss, fNe_ss, fNotB_bb, env0, outsOf_n, outsOf_c, gTupl_t, gTupl_k, rdAll, rdT, wb, asM_n, fRng1_i, asR_r, asL_l, asT_t, asT_k, as1_i, as2_i, lsL_l, lsL_m, lsL_r, as2T_l, as1T_l, dDic, dRdM, wipeE, namE, clrE, dXfK, dXf, unt_nil, unt_cons, unt1_none, unt1_ref, unt1_int, unt1_bl, unt1_str, unt1_non, unt1_nd, Option.bind_eq_bind, and_self, exists_eq, T.lf.injEq, V.bl.injEq, T.fz_fz, map_fz_lf, rowT_fz, matT_fz, map_rowT_fz, rowT_fzd, List.length_map, fAdd_ii, fAdd_ss, fAdd_ll, fAdd_tt, fMul_ii, fMul_li, fII_ii, fIC_ii, fCmp_ii, fCmp_ss, isN_non, isN_int, isN_bl, isN_str, isN_nd, fIsN_n, fNotN_n, fNeg_i, fInt1_i, fInt1_b, fTuple_l, fTuple_t, fList_l, fList_t, fList_k, fMax_ii, fMin_ii, fDivmod_ii, fLen_l, fLen_q, fLen_t, fLen_k, fLen_s, fSl_l, fSl_t, fSl_s, fSl00_e, fSl10_e, fSl01_e, fIsB_bb, fIx_l, fIx_q, fIx_t, fIx_k, fIx_s, fAppend_l, fSetL_l, fExtend_l, fPop_l, fPopAt_l, fInsert_l, fReverse_l, fClear_l, fDPut_i, fDPut_s, fDGet2_i, fDGet2_s, fDGet_i, isDic_k, Tr.one_inj, key_i, key_s, fDIn_i, kindOf_l, kindOf_k, at_0, at_1, at_2, at_3, List.map_cons, List.map_nil, List.length_cons, List.length_nil, List.replicate, List.cons_append, List.nil_append, List.append_nil, List.getElem?_cons_zero, List.getElem?_cons_succ, List.set_cons_zero, List.set_cons_succ, Option.join, Option.bind_some, id_eq, Option.some.injEq, Option.map_some, exists_eq_left', exists_eq_left, exists_eq', T.fz_lf, T.fz_nd, T.fzd_lf, T.fzd_nd, Kd.unl, Nat.sub_self, Nat.sub_zero, Nat.reduceSub, Nat.reduceAdd, Nat.zero_add, true_and, and_true, List.reverse_cons, List.reverse_nil, if_true, if_false, Bool.false_eq_true, Bool.not_false, Bool.not_true, Bool.false_xor, Bool.true_xor, tru_non, tru_bl, tru_int, tru_lst, tru_tup, ite_true, ite_false, reduceIte, exists_const, exists_and_left, List.isEmpty_cons, List.isEmpty_nil, Option.map_some, beq_self_eq_true, Int.toNat_natCast, Option.toList_none, Option.toList_some, Nat.zero_le, List.length_set, Option.isNone_none, Option.isNone_some, Option.isSome_none, Option.isSome_some, PyData.eqv, PyData.eqvAll, Bool.and_true, Bool.true_and, Bool.and_false, Bool.false_and, Bool.and_self, Bool.not_not, Bool.xor_false, Bool.xor_true, Bool.or_true, Bool.true_or, Bool.or_false, Bool.false_or])
local macro_rules | `(tactic| walk_at "ew") => `(tactic| try walk_at "ew1")
local macro_rules | `(tactic| walk_at "go") => `(tactic| (walk_at "ew"; repeat ((first | ((with_reducible refine And.intro ?_ ?_); (first | (focus decide; done) | (focus decide +kernel; done) | (focus exact fun _ => rfl; done)) ) | (with_reducible refine ifEF (by decide +kernel) ?_) | (with_reducible refine ifET (by decide +kernel) ?_)); walk_at "ew")))
def d__wall : He.DefD := ⟨("_wall", none), "_wall", "_wall", defArgs s__wall, defBody s__wall, defScope s__wall, [], []⟩
def d_is_name : He.DefD := ⟨("is_name", none), "is_name", "is_name", defArgs s_is_name, defBody s_is_name, defScope s_is_name, [], []⟩
def d_check_name : He.DefD := ⟨("check_name", none), "check_name", "check_name", defArgs s_check_name, defBody s_check_name, defScope s_check_name, [], []⟩
def d_number_of : He.DefD := ⟨("number_of", none), "number_of", "number_of", defArgs s_number_of, defBody s_number_of, defScope s_number_of, [], []⟩
def d_score : He.DefD := ⟨("score", none), "score", "score", defArgs s_score, defBody s_score, defScope s_score, [], []⟩
def d_is_whole : He.DefD := ⟨("is_whole", none), "is_whole", "is_whole", defArgs s_is_whole, defBody s_is_whole, defScope s_is_whole, [], []⟩
def d_is_between : He.DefD := ⟨("is_between", none), "is_between", "is_between", defArgs s_is_between, defBody s_is_between, defScope s_is_between, [], []⟩
def d_check_weight : He.DefD := ⟨("check_weight", none), "check_weight", "check_weight", defArgs s_check_weight, defBody s_check_weight, defScope s_check_weight, [], []⟩
def d__law_cell_at : He.DefD := ⟨("_law_cell_at", none), "_law_cell_at", "_law_cell_at", defArgs s__law_cell_at, defBody s__law_cell_at, defScope s__law_cell_at, [], []⟩
def d__law_pot : He.DefD := ⟨("_law_pot", none), "_law_pot", "_law_pot", defArgs s__law_pot, defBody s__law_pot, defScope s__law_pot, [], []⟩
def d__law_pick : He.DefD := ⟨("_law_pick", none), "_law_pick", "_law_pick", defArgs s__law_pick, defBody s__law_pick, defScope s__law_pick, [], []⟩
def d__law_name : He.DefD := ⟨("_law_name", none), "_law_name", "_law_name", defArgs s__law_name, defBody s__law_name, defScope s__law_name, [], []⟩
def d__law_names : He.DefD := ⟨("_law_names", none), "_law_names", "_law_names", defArgs s__law_names, defBody s__law_names, defScope s__law_names, [], []⟩
def d__law_houses : He.DefD := ⟨("_law_houses", none), "_law_houses", "_law_houses", defArgs s__law_houses, defBody s__law_houses, defScope s__law_houses, [], []⟩
def d__law_is_name : He.DefD := ⟨("_law_is_name", none), "_law_is_name", "_law_is_name", defArgs s__law_is_name, defBody s__law_is_name, defScope s__law_is_name, [], []⟩
def d__law_number : He.DefD := ⟨("_law_number", none), "_law_number", "_law_number", defArgs s__law_number, defBody s__law_number, defScope s__law_number, [], []⟩
def d__law_points : He.DefD := ⟨("_law_points", none), "_law_points", "_law_points", defArgs s__law_points, defBody s__law_points, defScope s__law_points, [], []⟩
def d__law_whole : He.DefD := ⟨("_law_whole", none), "_law_whole", "_law_whole", defArgs s__law_whole, defBody s__law_whole, defScope s__law_whole, [], []⟩
def d__law_asked : He.DefD := ⟨("_law_asked", none), "_law_asked", "_law_asked", defArgs s__law_asked, defBody s__law_asked, defScope s__law_asked, [], []⟩
def d__law_number_asked : He.DefD := ⟨("_law_number_asked", none), "_law_number_asked", "_law_number_asked", defArgs s__law_number_asked, defBody s__law_number_asked, defScope s__law_number_asked, [], []⟩
def d__law_right : He.DefD := ⟨("_law_right", none), "_law_right", "_law_right", defArgs s__law_right, defBody s__law_right, defScope s__law_right, [], []⟩
def d_law : He.DefD := ⟨("law", none), "law", "law", defArgs s_law, defBody s_law, defScope s_law, [], []⟩
def d_Town___init__ : He.DefD := ⟨("Town", some "__init__"), "__init__", "Town.__init__", defArgs s_Town___init__, defBody s_Town___init__, defScope s_Town___init__, [.adr (He.dflAt ("Town", some "__init__") 0)], []⟩
def d_Town_weight_of : He.DefD := ⟨("Town", some "weight_of"), "weight_of", "Town.weight_of", defArgs s_Town_weight_of, defBody s_Town_weight_of, defScope s_Town_weight_of, [], []⟩
def d_Town__check_house : He.DefD := ⟨("Town", some "_check_house"), "_check_house", "Town._check_house", defArgs s_Town__check_house, defBody s_Town__check_house, defScope s_Town__check_house, [], []⟩
def di_NoName : He.DefD := ⟨("NoName", some "__init__"), "__init__", "NoName.__init__", defArgs si_NoName, defBody si_NoName, defScope si_NoName, [], []⟩
def di_NoHouse : He.DefD := ⟨("NoHouse", some "__init__"), "__init__", "NoHouse.__init__", defArgs si_NoHouse, defBody si_NoHouse, defScope si_NoHouse, [], []⟩
def di_Taken : He.DefD := ⟨("Taken", some "__init__"), "__init__", "Taken.__init__", defArgs si_Taken, defBody si_Taken, defScope si_Taken, [], []⟩
def di_NoWeight : He.DefD := ⟨("NoWeight", some "__init__"), "__init__", "NoWeight.__init__", defArgs si_NoWeight, defBody si_NoWeight, defScope si_NoWeight, [], []⟩
def fn : List He.DefD := [d__wall, d_is_name, d_check_name, d_number_of, d_score, d_is_whole, d_is_between, d_check_weight, d__law_cell_at, d__law_pot, d__law_pick, d__law_name, d__law_names, d__law_houses, d__law_is_name, d__law_number, d__law_points, d__law_whole, d__law_asked, d__law_number_asked, d__law_right, d_law, d_Town___init__, d_Town_weight_of, d_Town__check_house, di_NoName, di_NoHouse, di_Taken, di_NoWeight]
def fa : List He.Fa := [.glo "_wall", .glo "is_name", .glo "check_name", .glo "number_of", .glo "score", .glo "is_whole", .glo "is_between", .glo "check_weight", .glo "_law_cell_at", .glo "_law_pot", .glo "_law_pick", .glo "_law_name", .glo "_law_names", .glo "_law_houses", .glo "_law_is_name", .glo "_law_number", .glo "_law_points", .glo "_law_whole", .glo "_law_asked", .glo "_law_number_asked", .glo "_law_right", .glo "law", .cls "Town", .cls "Town", .cls "Town", .free "len", .free "max", .free "min", .free "range", .free "isinstance", .free "int", .free "bool", .free "str", .free "tuple", .free "list", .free "dict", .free "all", .free "ValueError", .int "STEP" 27, .int "ROUND" 1000003, .int "HEAVIEST" 1000, .int "LONGEST" 8, .str "LETTERS" "abcdefghijklmnopqrstuvwxyz", .glo "SherdError", .glo "NoName", .glo "Taken", .glo "NoHouse", .glo "NoWeight", .glo "Town", .cls "Town", .mkr "Town", .noat "Town" "_houses", .meth "Town" "_check_house", .meth "Town" "weight_of"]
abbrev R : PySem.W.OpenRow := PySem.W.OpenLaw.row PySem.Challenge.rw_sherdhall_k65_scores_of_houses
def ex (K : PySem.W.Frag) : Bool := rfB K "NoName" ["name"] && (rfB K "NoHouse" ["name"] && (rfB K "Taken" ["name"] && (rfB K "NoWeight" ["weight"] && (isAll K "NoName" [("NoName", true), ("Taken", false), ("NoHouse", false), ("NoWeight", false), ("SherdError", true)] && (exmB K "NoName" "NoName" && (exmB K "NoHouse" "NoHouse" && (exmN K "NoHouse" "NoName")))))))
abbrev hk : PySem.W.Hook := hookB 4 fa fn ex
def ob (s : PySem.W.SharedT) : AlB := obsB 4 fa fn ex (HandSHeadRun.getT s)
theorem ob_eq (s : PySem.W.SharedT) : ob s = hk.obs s.abs := obsB_eq (HandSHeadRun.getT_eq s)
def loose0 : List Str := ["__name__", "SherdError", "NoName", "Taken", "NoHouse", "NoWeight", "Town", "_wall", "is_name", "check_name", "number_of", "score", "is_whole", "is_between", "check_weight", "_law_cell_at", "_law_pot", "_law_pick", "_law_name", "_law_names", "_law_houses", "_law_is_name", "_law_number", "_law_points", "_law_whole", "_law_asked", "_law_number_asked", "_law_right", "LETTERS", "LONGEST"]
def loose1 : List Str := ["STEP", "ROUND", "HEAVIEST"]
def loose : List Str := loose0 ++ loose1
theorem run (w : World) : HandSHeadRun.RunEq R (PySem.W.view R.prog [38]) hk ob 15000 loose w := by
  intro os
  kernel_rfl
theorem facts {P : Program} {w : World} {K : PySem.W.Frag} {h : Heap} {mg : Str → Option Value} {f : Addr} (X : K.In h) (G : h.Ns mainGlobals mg) (hfa : mg ("law" : Str) = some (.ref f)) (c : He.SaysD fa fn K) (cx : ex K = true) :
    ∃ fd : FuncData, (∀ (s : Shared) (v : Value), BindsTo s fd ⟨[v], []⟩ [("script", v)]) ∧ ∀ base : Heap, K.In base → base.Ns mainGlobals mg → FnOk P w K mg base CX0 9 f fd ["script"] (spLaw K) := by
  obtain ⟨fd__wall, F__wall⟩ := c.def_ 0 (d := d__wall) rfl
  have A__wall : At K mg "_wall" s__wall ["k"] := ⟨_, _, F__wall, He.glo_ok X G (c.fact 0 (f := .glo "_wall") rfl), F__wall.bindsN fun _ _ _ _ _ _ us hl => match us, hl with | [_], _ => rfl⟩
  obtain ⟨fd_is_name, F_is_name⟩ := c.def_ 1 (d := d_is_name) rfl
  have A_is_name : At K mg "is_name" s_is_name ["thing"] := ⟨_, _, F_is_name, He.glo_ok X G (c.fact 1 (f := .glo "is_name") rfl), F_is_name.bindsN fun _ _ _ _ _ _ us hl => match us, hl with | [_], _ => rfl⟩
  obtain ⟨fd_check_name, F_check_name⟩ := c.def_ 2 (d := d_check_name) rfl
  have A_check_name : At K mg "check_name" s_check_name ["name"] := ⟨_, _, F_check_name, He.glo_ok X G (c.fact 2 (f := .glo "check_name") rfl), F_check_name.bindsN fun _ _ _ _ _ _ us hl => match us, hl with | [_], _ => rfl⟩
  obtain ⟨fd_number_of, F_number_of⟩ := c.def_ 3 (d := d_number_of) rfl
  have A_number_of : At K mg "number_of" s_number_of ["name"] := ⟨_, _, F_number_of, He.glo_ok X G (c.fact 3 (f := .glo "number_of") rfl), F_number_of.bindsN fun _ _ _ _ _ _ us hl => match us, hl with | [_], _ => rfl⟩
  obtain ⟨fd_score, F_score⟩ := c.def_ 4 (d := d_score) rfl
  have A_score : At K mg "score" s_score ["town", "name", "house"] := ⟨_, _, F_score, He.glo_ok X G (c.fact 4 (f := .glo "score") rfl), F_score.bindsN fun _ _ _ _ _ _ us hl => match us, hl with | [_, _, _], _ => rfl⟩
  obtain ⟨fd_is_whole, F_is_whole⟩ := c.def_ 5 (d := d_is_whole) rfl
  have A_is_whole : At K mg "is_whole" s_is_whole ["thing"] := ⟨_, _, F_is_whole, He.glo_ok X G (c.fact 5 (f := .glo "is_whole") rfl), F_is_whole.bindsN fun _ _ _ _ _ _ us hl => match us, hl with | [_], _ => rfl⟩
  obtain ⟨fd_is_between, F_is_between⟩ := c.def_ 6 (d := d_is_between) rfl
  have A_is_between : At K mg "is_between" s_is_between ["thing", "least", "most"] := ⟨_, _, F_is_between, He.glo_ok X G (c.fact 6 (f := .glo "is_between") rfl), F_is_between.bindsN fun _ _ _ _ _ _ us hl => match us, hl with | [_, _, _], _ => rfl⟩
  obtain ⟨fd_check_weight, F_check_weight⟩ := c.def_ 7 (d := d_check_weight) rfl
  have A_check_weight : At K mg "check_weight" s_check_weight ["weight"] := ⟨_, _, F_check_weight, He.glo_ok X G (c.fact 7 (f := .glo "check_weight") rfl), F_check_weight.bindsN fun _ _ _ _ _ _ us hl => match us, hl with | [_], _ => rfl⟩
  obtain ⟨fd__law_cell_at, F__law_cell_at⟩ := c.def_ 8 (d := d__law_cell_at) rfl
  have A__law_cell_at : At K mg "_law_cell_at" s__law_cell_at ["script", "k"] := ⟨_, _, F__law_cell_at, He.glo_ok X G (c.fact 8 (f := .glo "_law_cell_at") rfl), F__law_cell_at.bindsN fun _ _ _ _ _ _ us hl => match us, hl with | [_, _], _ => rfl⟩
  obtain ⟨fd__law_pot, F__law_pot⟩ := c.def_ 9 (d := d__law_pot) rfl
  have A__law_pot : At K mg "_law_pot" s__law_pot ["cell"] := ⟨_, _, F__law_pot, He.glo_ok X G (c.fact 9 (f := .glo "_law_pot") rfl), F__law_pot.bindsN fun _ _ _ _ _ _ us hl => match us, hl with | [_], _ => rfl⟩
  obtain ⟨fd__law_pick, F__law_pick⟩ := c.def_ 10 (d := d__law_pick) rfl
  have A__law_pick : At K mg "_law_pick" s__law_pick ["pot", "many"] := ⟨_, _, F__law_pick, He.glo_ok X G (c.fact 10 (f := .glo "_law_pick") rfl), F__law_pick.bindsN fun _ _ _ _ _ _ us hl => match us, hl with | [_, _], _ => rfl⟩
  obtain ⟨fd__law_name, F__law_name⟩ := c.def_ 11 (d := d__law_name) rfl
  have A__law_name : At K mg "_law_name" s__law_name ["pot"] := ⟨_, _, F__law_name, He.glo_ok X G (c.fact 11 (f := .glo "_law_name") rfl), F__law_name.bindsN fun _ _ _ _ _ _ us hl => match us, hl with | [_], _ => rfl⟩
  obtain ⟨fd__law_names, F__law_names⟩ := c.def_ 12 (d := d__law_names) rfl
  have A__law_names : At K mg "_law_names" s__law_names ["pot", "many"] := ⟨_, _, F__law_names, He.glo_ok X G (c.fact 12 (f := .glo "_law_names") rfl), F__law_names.bindsN fun _ _ _ _ _ _ us hl => match us, hl with | [_, _], _ => rfl⟩
  obtain ⟨fd__law_houses, F__law_houses⟩ := c.def_ 13 (d := d__law_houses) rfl
  have A__law_houses : At K mg "_law_houses" s__law_houses ["pot", "most"] := ⟨_, _, F__law_houses, He.glo_ok X G (c.fact 13 (f := .glo "_law_houses") rfl), F__law_houses.bindsN fun _ _ _ _ _ _ us hl => match us, hl with | [_, _], _ => rfl⟩
  obtain ⟨fd__law_is_name, F__law_is_name⟩ := c.def_ 14 (d := d__law_is_name) rfl
  have A__law_is_name : At K mg "_law_is_name" s__law_is_name ["thing"] := ⟨_, _, F__law_is_name, He.glo_ok X G (c.fact 14 (f := .glo "_law_is_name") rfl), F__law_is_name.bindsN fun _ _ _ _ _ _ us hl => match us, hl with | [_], _ => rfl⟩
  obtain ⟨fd__law_number, F__law_number⟩ := c.def_ 15 (d := d__law_number) rfl
  have A__law_number : At K mg "_law_number" s__law_number ["name"] := ⟨_, _, F__law_number, He.glo_ok X G (c.fact 15 (f := .glo "_law_number") rfl), F__law_number.bindsN fun _ _ _ _ _ _ us hl => match us, hl with | [_], _ => rfl⟩
  obtain ⟨fd__law_points, F__law_points⟩ := c.def_ 16 (d := d__law_points) rfl
  have A__law_points : At K mg "_law_points" s__law_points ["name", "house", "heavy"] := ⟨_, _, F__law_points, He.glo_ok X G (c.fact 16 (f := .glo "_law_points") rfl), F__law_points.bindsN fun _ _ _ _ _ _ us hl => match us, hl with | [_, _, _], _ => rfl⟩
  obtain ⟨fd__law_whole, F__law_whole⟩ := c.def_ 17 (d := d__law_whole) rfl
  have A__law_whole : At K mg "_law_whole" s__law_whole ["found", "due"] := ⟨_, _, F__law_whole, He.glo_ok X G (c.fact 17 (f := .glo "_law_whole") rfl), F__law_whole.bindsN fun _ _ _ _ _ _ us hl => match us, hl with | [_, _], _ => rfl⟩
  obtain ⟨fd__law_asked, F__law_asked⟩ := c.def_ 18 (d := d__law_asked) rfl
  have A__law_asked : At K mg "_law_asked" s__law_asked ["town", "name", "house"] := ⟨_, _, F__law_asked, He.glo_ok X G (c.fact 18 (f := .glo "_law_asked") rfl), F__law_asked.bindsN fun _ _ _ _ _ _ us hl => match us, hl with | [_, _, _], _ => rfl⟩
  obtain ⟨fd__law_number_asked, F__law_number_asked⟩ := c.def_ 19 (d := d__law_number_asked) rfl
  have A__law_number_asked : At K mg "_law_number_asked" s__law_number_asked ["name"] := ⟨_, _, F__law_number_asked, He.glo_ok X G (c.fact 19 (f := .glo "_law_number_asked") rfl), F__law_number_asked.bindsN fun _ _ _ _ _ _ us hl => match us, hl with | [_], _ => rfl⟩
  obtain ⟨fd__law_right, F__law_right⟩ := c.def_ 20 (d := d__law_right) rfl
  have A__law_right : At K mg "_law_right" s__law_right ["pot"] := ⟨_, _, F__law_right, He.glo_ok X G (c.fact 20 (f := .glo "_law_right") rfl), F__law_right.bindsN fun _ _ _ _ _ _ us hl => match us, hl with | [_], _ => rfl⟩
  obtain ⟨fd_law, F_law⟩ := c.def_ 21 (d := d_law) rfl
  obtain ⟨fd_Town___init__, F_Town___init__⟩ := c.def_ 22 (d := d_Town___init__) rfl
  have A_Town___init__ : Tr.AtM K "Town" "__init__" "Town.__init__" s_Town___init__ ["self", "rows"] := Tr.atM_mkD F_Town___init__ (List.cons_ne_nil _ _) fun _ _ _ _ _ _ _ us its l1 l2 => match us, its, l1, l2 with | [_, _], [_], _, _ => ⟨_, rfl, rfl⟩
  obtain ⟨fd_Town_weight_of, F_Town_weight_of⟩ := c.def_ 23 (d := d_Town_weight_of) rfl
  have A_Town_weight_of : Tr.AtM K "Town" "weight_of" "Town.weight_of" s_Town_weight_of ["self", "name"] := Tr.atM_mk F_Town_weight_of fun _ _ _ _ _ _ us hl => match us, hl with | [_, _], _ => rfl
  obtain ⟨fd_Town__check_house, F_Town__check_house⟩ := c.def_ 24 (d := d_Town__check_house) rfl
  have A_Town__check_house : Tr.AtM K "Town" "_check_house" "Town._check_house" s_Town__check_house ["self", "name"] := Tr.atM_mk F_Town__check_house fun _ _ _ _ _ _ us hl => match us, hl with | [_, _], _ => rfl
  obtain ⟨t_STEP, g_STEP⟩ := He.int_ok X G (c.fact 38 (f := .int "STEP" 27) rfl)
  obtain ⟨t_ROUND, g_ROUND⟩ := He.int_ok X G (c.fact 39 (f := .int "ROUND" 1000003) rfl)
  obtain ⟨t_HEAVIEST, g_HEAVIEST⟩ := He.int_ok X G (c.fact 40 (f := .int "HEAVIEST" 1000) rfl)
  obtain ⟨t_LONGEST, g_LONGEST⟩ := He.int_ok X G (c.fact 41 (f := .int "LONGEST" 8) rfl)
  obtain ⟨t_LETTERS, g_LETTERS⟩ := He.str_ok X G (c.fact 42 (f := .str "LETTERS" "abcdefghijklmnopqrstuvwxyz") rfl)
  have T : Txt K mg := ⟨He.free_ok X G (c.fact 25 (f := .free "len") rfl), He.free_ok X G (c.fact 26 (f := .free "max") rfl), He.free_ok X G (c.fact 27 (f := .free "min") rfl), He.free_ok X G (c.fact 28 (f := .free "range") rfl), He.free_ok X G (c.fact 29 (f := .free "isinstance") rfl), He.free_ok X G (c.fact 30 (f := .free "int") rfl), He.free_ok X G (c.fact 31 (f := .free "bool") rfl), He.free_ok X G (c.fact 32 (f := .free "str") rfl), He.free_ok X G (c.fact 33 (f := .free "tuple") rfl), He.free_ok X G (c.fact 34 (f := .free "list") rfl), He.free_ok X G (c.fact 35 (f := .free "dict") rfl), He.free_ok X G (c.fact 36 (f := .free "all") rfl), He.free_ok X G (c.fact 37 (f := .free "ValueError") rfl), _, g_STEP, ⟨_, rfl⟩, _, g_ROUND, ⟨_, rfl⟩, _, g_HEAVIEST, ⟨_, rfl⟩, _, g_LONGEST, ⟨_, rfl⟩, _, g_LETTERS, ⟨_, rfl⟩, He.glo_ok X G (c.fact 43 (f := .glo "SherdError") rfl), He.glo_ok X G (c.fact 44 (f := .glo "NoName") rfl), He.glo_ok X G (c.fact 45 (f := .glo "Taken") rfl), He.glo_ok X G (c.fact 46 (f := .glo "NoHouse") rfl), He.glo_ok X G (c.fact 47 (f := .glo "NoWeight") rfl), He.glo_ok X G (c.fact 48 (f := .glo "Town") rfl), He.cls_ok (c.fact 49 (f := .cls "Town") rfl), He.mkr_ok (c.fact 50 (f := .mkr "Town") rfl), He.noat_ok (c.fact 51 (f := .noat "Town" "_houses") rfl), He.meth_ok (c.fact 52 (f := .meth "Town" "_check_house") rfl), He.meth_ok (c.fact 53 (f := .meth "Town" "weight_of") rfl), (He.ba (He.ba (He.ba (He.ba (He.ba cx).2).2).2).2).1, (He.ba (He.ba (He.ba (He.ba (He.ba (He.ba cx).2).2).2).2).2).1, (He.ba (He.ba (He.ba (He.ba (He.ba (He.ba (He.ba cx).2).2).2).2).2).2).1, (He.ba (He.ba (He.ba (He.ba (He.ba (He.ba (He.ba cx).2).2).2).2).2).2).2⟩
  have e := hfa.symm.trans (He.glo_ok X G (c.fact 21 (f := .glo "law") rfl))
  cases e
  have b := FunD.bindsA (ps := ["script"]) F_law fun _ _ _ _ _ _ us hl => match us, hl with | [_], _ => rfl
  refine ⟨fd_law, fun s v => b s [v] rfl, fun base _ _ => ?_⟩
  obtain ⟨fi_NoName, FI_NoName⟩ := c.def_ 25 (d := di_NoName) rfl
  have R_NoName : Rd P w K mg base "NoName" ["name"] := ini1 (st := si_NoName) (q := "NoName.__init__") (rfB_ok (He.ba cx).1 T.g_NoName) FI_NoName sci_NoName (FI_NoName.bindsN fun _ _ _ _ _ _ us hl => match us, hl with | [_, _], _ => rfl) fun X h1 h2 => (pss_one (ps_ost (pe_var (i := 0) (by rw [h1]; rfl) (.inl (by rw [h2]; rfl))) (pe_var (i := 1) (by rw [h1]; rfl) (.inl (by rw [h2]; rfl)))))
  obtain ⟨fi_NoHouse, FI_NoHouse⟩ := c.def_ 26 (d := di_NoHouse) rfl
  have R_NoHouse : Rd P w K mg base "NoHouse" ["name"] := ini1 (st := si_NoHouse) (q := "NoHouse.__init__") (rfB_ok (He.ba (He.ba cx).2).1 T.g_NoHouse) FI_NoHouse sci_NoHouse (FI_NoHouse.bindsN fun _ _ _ _ _ _ us hl => match us, hl with | [_, _], _ => rfl) fun X h1 h2 => (pss_one (ps_ost (pe_var (i := 0) (by rw [h1]; rfl) (.inl (by rw [h2]; rfl))) (pe_var (i := 1) (by rw [h1]; rfl) (.inl (by rw [h2]; rfl)))))
  obtain ⟨fi_Taken, FI_Taken⟩ := c.def_ 27 (d := di_Taken) rfl
  have R_Taken : Rd P w K mg base "Taken" ["name"] := ini1 (st := si_Taken) (q := "Taken.__init__") (rfB_ok (He.ba (He.ba (He.ba cx).2).2).1 T.g_Taken) FI_Taken sci_Taken (FI_Taken.bindsN fun _ _ _ _ _ _ us hl => match us, hl with | [_, _], _ => rfl) fun X h1 h2 => (pss_one (ps_ost (pe_var (i := 0) (by rw [h1]; rfl) (.inl (by rw [h2]; rfl))) (pe_var (i := 1) (by rw [h1]; rfl) (.inl (by rw [h2]; rfl)))))
  obtain ⟨fi_NoWeight, FI_NoWeight⟩ := c.def_ 28 (d := di_NoWeight) rfl
  have R_NoWeight : Rd P w K mg base "NoWeight" ["weight"] := ini1 (st := si_NoWeight) (q := "NoWeight.__init__") (rfB_ok (He.ba (He.ba (He.ba (He.ba cx).2).2).2).1 T.g_NoWeight) FI_NoWeight sci_NoWeight (FI_NoWeight.bindsN fun _ _ _ _ _ _ us hl => match us, hl with | [_, _], _ => rfl) fun X h1 h2 => (pss_one (ps_ost (pe_var (i := 0) (by rw [h1]; rfl) (.inl (by rw [h2]; rfl))) (pe_var (i := 1) (by rw [h1]; rfl) (.inl (by rw [h2]; rfl)))))
  have D__wall : Dt P w K mg base 2 "_wall" ["k"] [] (sp__wall K) := T__wall T   A__wall
  have D_is_name : Dt P w K mg base 2 "is_name" ["thing"] [] (sp_is_name K) := T_is_name T   A_is_name
  have D_check_name : Dt P w K mg base 3 "check_name" ["name"] [] (sp_check_name K) := T_check_name T R_NoName D_is_name A_check_name
  have D_number_of : Dt P w K mg base 4 "number_of" ["name"] [] (sp_number_of K) := T_number_of T  D_check_name A_number_of
  have D_Town__check_house : DtM P w K mg base 4 "Town" "_check_house" ["self", "name"] [] (sp_Town__check_house K) := T_Town__check_house T R_NoHouse D_check_name A_Town__check_house
  have D_Town_weight_of : DtM P w K mg base 5 "Town" "weight_of" ["self", "name"] [] (sp_Town_weight_of K) := T_Town_weight_of T  D_Town__check_house A_Town_weight_of
  have D_score : Dt P w K mg base 6 "score" ["town", "name", "house"] [] (sp_score K) := T_score T  D_Town_weight_of D_number_of A_score
  have D_is_whole : Dt P w K mg base 2 "is_whole" ["thing"] [] (sp_is_whole K) := T_is_whole T   A_is_whole
  have D_is_between : Dt P w K mg base 3 "is_between" ["thing", "least", "most"] [] (sp_is_between K) := T_is_between T  D_is_whole A_is_between
  have D_check_weight : Dt P w K mg base 4 "check_weight" ["weight"] [] (sp_check_weight K) := T_check_weight T R_NoWeight D_is_between A_check_weight
  have D__law_cell_at : Dt P w K mg base 2 "_law_cell_at" ["script", "k"] [] (sp__law_cell_at K) := T__law_cell_at T   A__law_cell_at
  have D__law_pot : Dt P w K mg base 2 "_law_pot" ["cell"] [] (sp__law_pot K) := T__law_pot T   A__law_pot
  have D__law_pick : Dt P w K mg base 2 "_law_pick" ["pot", "many"] [0] (sp__law_pick K) := T__law_pick T   A__law_pick
  have D__law_name : Dt P w K mg base 3 "_law_name" ["pot"] [0] (sp__law_name K) := T__law_name T  D__law_pick A__law_name
  have D__law_names : Dt P w K mg base 4 "_law_names" ["pot", "many"] [0] (sp__law_names K) := T__law_names T  D__law_pick D__law_name A__law_names
  have D__law_houses : Dt P w K mg base 5 "_law_houses" ["pot", "most"] [0] (sp__law_houses K) := T__law_houses T  D__law_names D__law_pick A__law_houses
  have D__law_is_name : Dt P w K mg base 2 "_law_is_name" ["thing"] [] (sp__law_is_name K) := T__law_is_name T   A__law_is_name
  have D__law_number : Dt P w K mg base 2 "_law_number" ["name"] [] (sp__law_number K) := T__law_number T   A__law_number
  have D__law_points : Dt P w K mg base 3 "_law_points" ["name", "house", "heavy"] [] (sp__law_points K) := T__law_points T  D__law_number A__law_points
  have D__law_whole : Dt P w K mg base 2 "_law_whole" ["found", "due"] [] (sp__law_whole K) := T__law_whole T   A__law_whole
  have D__law_asked : Dt P w K mg base 7 "_law_asked" ["town", "name", "house"] [] (sp__law_asked K) := T__law_asked T  D_score A__law_asked
  have D__law_number_asked : Dt P w K mg base 5 "_law_number_asked" ["name"] [] (sp__law_number_asked K) := T__law_number_asked T  D_number_of A__law_number_asked
  have D_Town___init__ : DtM P w K mg base 5 "Town" "__init__" ["self", "rows"] [0] (sp_Town___init__ K) := T_Town___init__ T R_Taken D_check_weight D_check_name A_Town___init__
  have D__law_right : Dt P w K mg base 8 "_law_right" ["pot"] [] (sp__law_right K) := T__law_right T  D__law_whole D_score D__law_points D__law_asked D__law_is_name D__law_number_asked D__law_number D__law_pick D__law_name D_Town___init__ D__law_houses A__law_right
  exact T_law T  D__law_right D__law_pot D__law_cell_at F_law fun ns hl => q_law hl ⟨R_NoName.rf.fld, R_NoName.rf.no _ (by decide), R_NoHouse.rf.fld, R_NoHouse.rf.no _ (by decide), R_NoName.rf.isx, isAll_v T.k_NoName, isAll_mem T.k_NoName (y := "NoHouse") (b := false) (by decide +kernel), exmB_ok T.m_NoName_NoName, exmB_ok T.m_NoHouse_NoHouse, exmN_ok T.z_hn⟩
end Hx
open PySem PySem.W PySem.Calls PyProof.Rows in
set_option maxRecDepth 100000 in
set_option maxHeartbeats 0 in
theorem PySem.Challenge.cw_sherdhall_k65_scores_of_houses_holds : PySem.Challenge.rw_sherdhall_k65_scores_of_houses.Holds := by
  w_on; o_law
  refine HandSHeadRun.head_any (r := OpenLaw.row PySem.Challenge.rw_sherdhall_k65_scores_of_houses) (q := view (OpenLaw.row PySem.Challenge.rw_sherdhall_k65_scores_of_houses).prog [38]) (H := Hx.hk) (ob := Hx.ob) (M := 15000) (loose := Hx.loose) (d := HandSHeadRun.topDef (OpenLaw.row PySem.Challenge.rw_sherdhall_k65_scores_of_houses).prog 38) (kwd := []) Hx.ob_eq
    (by kernel_rfl) (fun s => by kernel_rfl) Hx.run (by kernel_rfl) (by kernel_rfl) (by kernel_rfl) (by rfl) (by first | assumption | decide +kernel) (by decide +kernel) ⟨rfl, rfl, rfl, rfl, rfl, by decide +kernel⟩ ?hw ?hc
  case hw => w_witness2
  case hc =>
    refine L2.walk_ofE (l := PySem.Challenge.rw_sherdhall_k65_scores_of_houses) (n := 63) (k := 9) (x := "script") (CX := L2.CX0) rfl (by decide) (by kernel_rfl) ⟨rfl, by decide, by decide⟩ ?F (fun _ _ _ _ z => z)
    intro w mg fa h Y G hmg0
    obtain ⟨K, KX, c, cx⟩ := Y
    have hmg : mg ("law" : PySem.Str) = some (.ref fa) := by
      have e : (HandSHeadRun.topDef (OpenLaw.row PySem.Challenge.rw_sherdhall_k65_scores_of_houses).prog 38).name = ("law" : PySem.Str) := by kernel_rfl
      rw [← e]
      exact hmg0
    obtain ⟨fd, hb, hF⟩ := Hx.facts (P := (PySem.Challenge.rw_sherdhall_k65_scores_of_houses).prog) (w := w) KX G hmg c cx
    exact ⟨K, fd, Tr.spLaw K, KX, hb, fun H a ns hl _ hS => ⟨a, ns, rfl, hS, hl, fun _ => rfl⟩, hF⟩
