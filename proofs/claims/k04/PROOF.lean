import PyProof.Rows.All
import Wide.All
import OpenK.AllK
import Wide.FinOn
import KE.KStateDown
import HandS.Base
import HandS.Call
import HandS.Ends
import HandS.List
import HandS.Comp
import HandS.Iter
import HandS.More
import HandS.Words
import HandS.WordsList
import HandS.WordsExc
import HandS.Defaults
import HandS.Wide
import HandS.IsInst
import HandS.Walk
import HandS.Star
import HandS.Conv
import HandS.Zip
import HandS.TupAny
import KE.KEqSeq
import KE.KEqDeep
import KE.KRevSl
import HandS.Head0
import HandS.Head1
import HandS.Head2
import HandS.HeadEnd
import HandS.HeadHook1
import HandS.HeadHook2
import HandS.Sort
import PySem.Challenge.RW_sherdhall_k04_checks
set_option Elab.async false
set_option linter.all false
set_option maxRecDepth 100000
set_option maxHeartbeats 4000000
namespace Cm
open PySem PySem.Spec PyProof.Rows L2
/-! ### a def, known by its name -/
def Dn (P : Program) (w : World) (K : PySem.W.Frag) (mg : Str → Option Value) (base : Heap) (CX : CXT) (k : Nat) (x : Str) (ps : List Str) (sp : Sp) : Prop :=
  ∃ (f : Addr) (fd : FuncData), FnOk P w K mg base CX k f fd ps sp ∧ mg x = some (.ref f) ∧ PySem.W.keepIn K (.ref f) = true ∧ Binds K fd ps [] ∧ ∃ oc od osl, K.lookup f = some ⟨oc, od, .func fd, osl⟩
/-- where a def without defaults stands -/
def At (K : PySem.W.Frag) (mg : Str → Option Value) (x : Str) (st : Stmt) (ps : List Str) : Prop :=
  ∃ (f : Addr) (fd : FuncData), FunD K x x (defArgs st) (defBody st) (defScope st) [] [] f fd ∧ mg x = some (.ref f) ∧ Binds K fd ps []
theorem _root_.L2.FunD.look {K : PySem.W.Frag} {x qual : Str} {params : Arguments} {body : List Stmt} {scope : Scope} {dvs : List V} {kws : List (Str × V)} {f : Addr} {fd : FuncData} (F : FunD K x qual params body scope dvs kws f fd) : ∃ oc od osl, K.lookup f = some ⟨oc, od, .func fd, osl⟩ := by
  obtain ⟨oc, od, dV, kV, doc, pm, an, cdv, ct, osl, rfl, lk, _⟩ := F.ex
  exact ⟨_, _, _, lk⟩
section
variable {P : Program} {w : World} {K : PySem.W.Frag} {mg : Str → Option Value} {base : Heap}
theorem ok0 {x : Str} {st : Stmt} {N ps : List Str} {k : Nat} {sp : Sp} {f : Addr} {fd : FuncData} (F : FunD K x x (defArgs st) (defBody st) (defScope st) [] [] f fd) (S : FnScope N ps (defScope st)) (len : ∀ vs H Q E, sp vs H Q E → vs.length = ps.length)
    (hbody : ∀ (f : Addr) (cdv : Value) (A : Around) (outer : List Env) (s : Shared) (H : Hp) (vs : List V) (Q : VK) (E : XK), Room k (A.deeper (envOfC x (defScope st) s.heap.objs.size f cdv)) → sp vs H Q E →
      ∃ t, PSs (cxOf CX0 P w K mg base N x (defScope st) f cdv A outer s H E).nox (defBody st) t ∧ t { nx := fun _ H' => Q .non H', rt := Q } (start N vs) H) : FnOk P w K mg base CX0 (k + 1) f fd ps sp := by
  refine F.ok S len fun cdv A outer s H vs Q E hr h => ?_
  obtain ⟨t, h1, h2⟩ := hbody f cdv A outer s H vs Q E hr h
  exact ⟨t, h1.nox, h2⟩
theorem At.ok {x : Str} {st : Stmt} {N ps : List Str} {k : Nat} {sp : Sp} (F : At K mg x st ps) (S : FnScope N ps (defScope st)) (len : ∀ vs H Q E, sp vs H Q E → vs.length = ps.length)
    (hbody : ∀ (f : Addr) (cdv : Value) (A : Around) (outer : List Env) (s : Shared) (H : Hp) (vs : List V) (Q : VK) (E : XK), Room k (A.deeper (envOfC x (defScope st) s.heap.objs.size f cdv)) → sp vs H Q E →
      ∃ t, PSs (cxOf CX0 P w K mg base N x (defScope st) f cdv A outer s H E).nox (defBody st) t ∧ t { nx := fun _ H' => Q .non H', rt := Q } (start N vs) H) : Dn P w K mg base CX0 (k + 1) x ps sp := by
  obtain ⟨f, fd, F, hm, hb⟩ := F
  refine ⟨f, fd, F.ok S len fun cdv A outer s H vs Q E hr h => ?_, hm, F.kp, hb, F.look⟩
  obtain ⟨t, h1, h2⟩ := hbody f cdv A outer s H vs Q E hr h
  exact ⟨t, h1.nox, h2⟩
end
section
variable {X : Cx} {k : Nat} {x : Str} {ps : List Str} {sp : Sp} {p pos : Pos} {e : Expr} {es : List Expr} {t : TA}
theorem pe_callD (D : Dn X.prog X.w X.K X.mg X.base CX0 k x ps sp) (hr : Room k X.A) (ha : PA X (e :: es) t) (hg : Gl X x := by rfl) (hdb : (x == ("__debug__" : Str)) = false := by decide)
    (he : starEach (e :: es) X.env = (false, eval e X.env) :: starEach es X.env := by rfl) (hpl : (backTo pos (starEach es X.env)).any (·.1) = false := by rfl) :
    PE X (.Call (.Name x p) (e :: es) [] pos) (tCall sp [] E0 t) := by
  obtain ⟨f, fd, F, hm, hk, hb, _⟩ := D
  exact pe_call F hr hg hm hk hb .nil pass0 ha hdb he hpl
end
/-! ### powers of ints of any size -/
def CPowW (i j : Int) : Prop := 0 ≤ j ∧ (Builtin.Int.intBits i : Int) * j ≤ 2 ^ 27
theorem CPowW.mk {i : Int} {n a : Nat} (ha : i.natAbs < 2 ^ a) (h0 : 0 < a) (h : a * n ≤ 100000000) : CPowW i n := by
  refine ⟨Int.natCast_nonneg _, ?_⟩
  have b : Builtin.Int.intBits i ≤ i.natAbs.log2 + 1 := by
    unfold Builtin.Int.intBits
    split <;> omega
  have x := PySem.Flt.log2_lt_of h0 ha
  have c : Builtin.Int.intBits i ≤ a := by omega
  have d : Builtin.Int.intBits i * n ≤ a * n := Nat.mul_le_mul_right _ c
  have e : ((Builtin.Int.intBits i * n : Nat) : Int) ≤ ((100000000 : Nat) : Int) := Int.ofNat_le.mpr (Nat.le_trans d h)
  rw [Int.natCast_mul] at e
  have e2 : ((100000000 : Nat) : Int) ≤ 2 ^ 27 := by decide
  exact Int.le_trans e e2
theorem op_powW {X : Cx} : OpR X (binaryOp .Pow) (rI CPowW fun i j => .int (i ^ j.toNat)) := opI fun _ _ _ _ _ _ _ hc q => pow_int hc.1 hc.2 q
/-! ### tests -/
theorem iteD {c A B : Prop} [Decidable c] (h1 : c → A) (h2 : ¬ c → B) : if decide c = true then A else B := by
  by_cases h : c
  · rw [decide_eq_true h]; exact iteT (h1 h)
  · rw [decide_eq_false h]; exact iteF (h2 h)
theorem iteDn {c A B : Prop} [Decidable c] (h1 : ¬ c → A) (h2 : c → B) : if (!decide c) = true then A else B := by
  by_cases h : c
  · rw [decide_eq_true h]; exact iteF (h2 h)
  · rw [decide_eq_false h]; exact iteT (h1 h)
theorem iteI {x y : Int} {A B : Prop} (h1 : x = y → A) (h2 : ¬ x = y → B) : if decide (V.int x = V.int y) = true then A else B :=
  iteD (fun h => h1 (V.int.inj h)) (fun h => h2 fun e => h (congrArg V.int e))
theorem iteIn {x y : Int} {A B : Prop} (h1 : ¬ x = y → A) (h2 : x = y → B) : if (!decide (V.int x = V.int y)) = true then A else B :=
  iteDn (fun h => h1 fun e => h (congrArg V.int e)) (fun h => h2 (V.int.inj h))
theorem iteB {b : Bool} {A B : Prop} (h1 : b = true → A) (h2 : b = false → B) : if b = true then A else B := by
  cases b with
  | true => exact iteT (h1 rfl)
  | false => exact iteF (h2 rfl)
theorem iteBn {b : Bool} {A B : Prop} (h1 : b = false → A) (h2 : b = true → B) : if (!b) = true then A else B := by
  cases b with
  | true => exact iteF (h2 rfl)
  | false => exact iteT (h1 rfl)
/-! ### heaps -/
/-- all that was tracked, but p, is as it was -/
def Kp (p : Addr) (H H' : Hp) : Prop := ∀ b o, H b = some o → b ≠ p → H' b = some o
theorem Kp.refl (p : Addr) (H : Hp) : Kp p H H := fun _ _ h _ => h
theorem Kp.trans {p : Addr} {H H1 H2 : Hp} (a : Kp p H H1) (b : Kp p H1 H2) : Kp p H H2 := fun c o h n => b c o (a c o h n) n
theorem Kp.of {p : Addr} {H H1 : Hp} (a : Same H H1) : Kp p H H1 := fun c o h _ => a c o h
theorem Kp.new {p a : Addr} {H : Hp} {o : HO} (n : H a = none) : Kp p H (upd H a o) := fun c u h _ => by rw [upd_ne (ne_of_none h n)]; exact h
theorem Kp.put {p : Addr} {H : Hp} {o : HO} : Kp p H (upd H p o) := fun c u h n => by rw [upd_ne n]; exact h
theorem Same.new {a : Addr} {H : Hp} {o : HO} (n : H a = none) : Same H (upd H a o) := fun c u h => by rw [upd_ne (ne_of_none h n)]; exact h
theorem old {H : Hp} {a p : Addr} {o u : HO} (h : H a = some u) (n : H p = none) : upd H p o a = some u := by rw [upd_ne (ne_of_none h n)]; exact h
/-- p was free ahead: what is kept but p is kept -/
theorem Kp.same {p : Addr} {H0 H H' : Hp} (s : Same H0 H) (n : H0 p = none) (k : Kp p H H') : Same H0 H' := fun b o h => k b o (s b o h) (ne_of_none h n)
end Cm
namespace Cm
open PySem PySem.Spec PyProof.Rows L2
theorem at_ints {ns : List Int} {k : Int} (h0 : 0 ≤ k) (h : k < ns.length) : ∃ z, z ∈ ns ∧ ns[k.toNat]? = some z ∧ atI (ns.map V.int) k = some (.int z) := by
  have hk : k.toNat < ns.length := by omega
  refine ⟨ns[k.toNat], List.getElem_mem _, List.getElem?_eq_getElem hk, ?_⟩
  obtain ⟨j, rfl⟩ : ∃ j : Nat, k = (j : Int) := ⟨k.toNat, by omega⟩
  refine atI_nat ?_
  rw [List.getElem?_map, List.getElem?_eq_getElem (by omega)]
  rfl
theorem p10_18 : (10 : Int) ^ (18 : Int).toNat = 1000000000000000000 := by decide
end Cm
namespace Cm
open PySem PySem.Spec PyProof.Rows L2
/-! ### comprehensions that leave what stood -/
section
variable {J : It} {n : Nat} {G : Hp → Prop} {Y : Nat → Hp → V → Hp → Prop}
theorem lc_map (w : Walk J n G Y) {g : TG} {tt : TT} {te : TE} {vs : List Nat} {σ : L2.St} {H1 : Hp} {D : Addr} {Qd : Hp → Prop} (f : Nat → V) (hD : H1 D = none) (hn : n ≤ sizeLine) (hG : ∀ H, Same H1 H → G H)
    (hs : ∀ i x H H' (R : V → Hp → Prop) (R' : Hp → Prop), i < n → Same H1 H → Y i H x H' → (∀ H4, Same H H4 → R (f i) H4) → g x (wipe σ vs) H' fun σ2 H2 => wipe σ2 vs = wipe σ vs ∧ tt σ2 H2 fun b H3 => if b = true then te σ2 H3 R else R' H3)
    (hd : ∀ H, Same H1 H → H D = some (.lst ((List.range n).map f)) → Qd H) :
    ∃ W : Nat → Nat → Hp → Prop, (∃ m, W 0 m (upd H1 D (.lst []))) ∧ ∀ i m H, W i m H →
      (J.stop i H ∧ Qd H) ∨ (J.go i H ∧ ∃ Nx : Hp → Prop, (∀ H', Nx H' → ∃ m', m' < m ∧ W (i + 1) m' H') ∧ ∀ x H', J.yld i H x H' → g x (wipe σ vs) H' fun σ2 H2 => wipe σ2 vs = wipe σ vs ∧ tt σ2 H2 fun b H3 =>
        if b = true then te σ2 H3 fun y H4 => ∃ acc, H4 D = some (.lst acc) ∧ acc.length < sizeLine ∧ Nx (upd H4 D (.lst (acc ++ [y]))) else Nx H3) := by
  refine lc_it w (fun i H => Same H1 H ∧ H D = some (.lst ((List.range i).map f))) ⟨Same.new hD, upd_same⟩ (fun i H _ p => hG H p.1) ?_ (fun H p => hd H p.1 p.2)
  intro i x H H' hi p y
  refine hs i x H H' _ _ hi p.1 y fun H4 s4 => ?_
  refine ⟨_, s4 _ _ p.2, by rw [List.length_map, List.length_range]; omega, fun b o e => ?_, ?_⟩
  · rw [upd_ne (ne_of_none e hD)]
    exact s4 _ _ (p.1 _ _ e)
  · rw [upd_same, List.range_succ, List.map_append]
    rfl
theorem lc_ints (w : Walk J n G Y) {g : TG} {tt : TT} {te : TE} {vs : List Nat} {σ : L2.St} {H1 : Hp} {D : Addr} {Qd : Hp → Prop} (f : Nat → Int) (hD : H1 D = none) (hn : n ≤ sizeLine) (hG : ∀ H, Same H1 H → G H)
    (hs : ∀ i x H H' (R : V → Hp → Prop) (R' : Hp → Prop), i < n → Same H1 H → Y i H x H' → (∀ H4, Same H H4 → R (.int (f i)) H4) → g x (wipe σ vs) H' fun σ2 H2 => wipe σ2 vs = wipe σ vs ∧ tt σ2 H2 fun b H3 => if b = true then te σ2 H3 R else R' H3)
    (hd : ∀ H, Same H1 H → H D = some (.lst (((List.range n).map f).map V.int)) → Qd H) :
    ∃ W : Nat → Nat → Hp → Prop, (∃ m, W 0 m (upd H1 D (.lst []))) ∧ ∀ i m H, W i m H →
      (J.stop i H ∧ Qd H) ∨ (J.go i H ∧ ∃ Nx : Hp → Prop, (∀ H', Nx H' → ∃ m', m' < m ∧ W (i + 1) m' H') ∧ ∀ x H', J.yld i H x H' → g x (wipe σ vs) H' fun σ2 H2 => wipe σ2 vs = wipe σ vs ∧ tt σ2 H2 fun b H3 =>
        if b = true then te σ2 H3 fun y H4 => ∃ acc, H4 D = some (.lst acc) ∧ acc.length < sizeLine ∧ Nx (upd H4 D (.lst (acc ++ [y]))) else Nx H3) :=
  lc_map w (fun i => .int (f i)) hD hn hG hs fun H s e => hd H s (by rw [e, List.map_map]; rfl)
theorem lc_bools (w : Walk J n G Y) {g : TG} {tt : TT} {te : TE} {vs : List Nat} {σ : L2.St} {H1 : Hp} {D : Addr} {Qd : Hp → Prop} (f : Nat → Bool) (hD : H1 D = none) (hn : n ≤ sizeLine) (hG : ∀ H, Same H1 H → G H)
    (hs : ∀ i x H H' (R : V → Hp → Prop) (R' : Hp → Prop), i < n → Same H1 H → Y i H x H' → (∀ H4, Same H H4 → R (.bl (f i)) H4) → g x (wipe σ vs) H' fun σ2 H2 => wipe σ2 vs = wipe σ vs ∧ tt σ2 H2 fun b H3 => if b = true then te σ2 H3 R else R' H3)
    (hd : ∀ H, Same H1 H → H D = some (.lst (((List.range n).map f).map V.bl)) → Qd H) :
    ∃ W : Nat → Nat → Hp → Prop, (∃ m, W 0 m (upd H1 D (.lst []))) ∧ ∀ i m H, W i m H →
      (J.stop i H ∧ Qd H) ∨ (J.go i H ∧ ∃ Nx : Hp → Prop, (∀ H', Nx H' → ∃ m', m' < m ∧ W (i + 1) m' H') ∧ ∀ x H', J.yld i H x H' → g x (wipe σ vs) H' fun σ2 H2 => wipe σ2 vs = wipe σ vs ∧ tt σ2 H2 fun b H3 =>
        if b = true then te σ2 H3 fun y H4 => ∃ acc, H4 D = some (.lst acc) ∧ acc.length < sizeLine ∧ Nx (upd H4 D (.lst (acc ++ [y]))) else Nx H3) :=
  lc_map w (fun i => .bl (f i)) hD hn hG hs fun H s e => hd H s (by rw [e, List.map_map]; rfl)
end
/-! ### plain values and their built-in types -/
inductive Ty (K : PySem.W.Frag) (H : Hp) : V → String → Prop where
  | non : Ty K H .non "NoneType"
  | bl (x : Bool) : Ty K H (.bl x) "bool"
  | int (i : Int) : Ty K H (.int i) "int"
  | str (x : Str) : Ty K H (.str x) "str"
  | lst {a : Addr} {xs : List V} (e : SqL K H a xs) : Ty K H (.ref a) "list"
  | tup {a : Addr} {xs : List V} (e : SqT K H a xs) : Ty K H (.ref a) "tuple"
  | dK {a : Addr} {kvs : List (Key × V)} (e : H a = some (.dK kvs)) : Ty K H (.ref a) "dict"
theorem Ty.x {K : PySem.W.Frag} {H : Hp} {v : V} {n : String} (h : Ty K H v n) : TyX K H v (.type n) := by
  cases h with
  | non => exact .base .non
  | bl x => exact .base (.bl x)
  | int i => exact .base (.int i)
  | str x => exact .base (.str x)
  | lst e =>
    rcases e with (e | ⟨o, e⟩) | ⟨o, its, n, hk, hc, _⟩
    · exact .base (.lst e)
    · exact .base (.frz e)
    · exact .kList hk hc
  | tup e =>
    rcases e with (e | ⟨o, e⟩) | ⟨o, its, n, hk, hc, _⟩
    · exact .base (.tup e)
    · exact .fTuple e
    · exact .kTuple hk hc
  | dK e => exact .base (.dK e)
theorem Same.sqt {K : PySem.W.Frag} {H H' : Hp} {a : Addr} {xs : List V} (e : Same H H') (h : SqT K H a xs) : SqT K H' a xs := by
  rcases h with (h | ⟨o, h⟩) | h
  · exact .inl (.inl (e _ _ h))
  · exact .inl (.inr ⟨o, e _ _ h⟩)
  · exact .inr h
theorem Ty.same {K : PySem.W.Frag} {H H' : Hp} {v : V} {n : String} (s : Same H H') (h : Ty K H v n) : Ty K H' v n := by
  cases h with
  | non => exact .non
  | bl x => exact .bl x
  | int i => exact .int i
  | str x => exact .str x
  | lst e => exact .lst (s.seq e)
  | tup e => exact .tup (Same.sqt s e)
  | dK e => exact .dK (s _ _ e)
theorem Ty.names {K : PySem.W.Frag} {H : Hp} {v : V} {n : String} (h : Ty K H v n) : n ∈ ["NoneType", "bool", "int", "str", "list", "tuple", "dict"] := by
  cases h <;> decide
theorem kit_names {c : String} (hc : c ∈ ["bool", "int", "str", "list", "tuple", "dict"]) {n : String} (h : n ∈ ["NoneType", "bool", "int", "str", "list", "tuple", "dict"]) : kitB n c = some (n == c || (n == "bool" && c == "int")) := by
  have key : ∀ c ∈ ["bool", "int", "str", "list", "tuple", "dict"], ∀ n ∈ ["NoneType", "bool", "int", "str", "list", "tuple", "dict"], kitB n c = some (n == c || (n == "bool" && c == "int")) := by decide +kernel
  exact key c hc n h
theorem Ty.kit {K : PySem.W.Frag} {H : Hp} {v : V} {n : String} (h : Ty K H v n) (c : String) (hc : c ∈ ["bool", "int", "str", "list", "tuple", "dict"] := by decide) : PySem.W.kitOne K (.type n) (.type c) = some (n == c || (n == "bool" && c == "int")) := kit_ty (kit_names hc h.names)
end Cm
namespace Cm
open L2
theorem small1000' {n : Nat} (h : n ≤ 1000000) : n ≤ PySem.sizeLine := Nat.le_trans h (by decide)
end Cm
namespace Cm
open L2
theorem map_get {α : Type} [Inhabited α] {c : α → V} {xs : List α} {i : Nat} {x : V} (h : i < xs.length) (e : (xs.map c)[i]? = some x) : x = c (xs.getD i default) := by
  rw [List.getElem?_map, List.getElem?_eq_getElem h] at e
  simp [List.getD, h]
  exact (Option.some.inj e).symm
theorem getD_in {α : Type} [Inhabited α] {xs : List α} {i : Nat} (h : i < xs.length) : xs.getD i default ∈ xs := by
  simp [List.getD, h]
end Cm
namespace Cm
open PySem PySem.Spec PyProof.Rows L2
/-! ### == of lists and tuples of ints -/
theorem dp_ints {K : PySem.W.Frag} {H : Hp} : ∀ xs : List Int, DpAll K H (xs.map V.int) (xs.map PyData.int)
  | [] => .nil
  | x :: xs => .cons (.int x) (dp_ints xs)
theorem dpL {K : PySem.W.Frag} {H : Hp} {a : Addr} {xs : List Int} (h : SqL K H a (xs.map V.int)) : Dp K H (.ref a) (.list (xs.map PyData.int)) := .lst h (dp_ints xs)
theorem dpT {K : PySem.W.Frag} {H : Hp} {a : Addr} {xs : List Int} (h : SqT K H a (xs.map V.int)) : Dp K H (.ref a) (.tuple (xs.map PyData.int)) := .tup h (dp_ints xs)
theorem shL (ns : List Int) : SeqAt.shaped (.list (ns.map PyData.int)) = true := PySem.W.ke_shaped_ints ns
theorem shT (ns : List Int) : SeqAt.shaped (.tuple (ns.map PyData.int)) = true := by
  have h := shL ns
  unfold SeqAt.shaped at h ⊢
  simp only [PyData.canLay0, PyData.depth] at h ⊢
  exact h
theorem eqvL (xs ys : List Int) : PyData.eqv (.list (xs.map PyData.int)) (.list (ys.map PyData.int)) = decide (xs = ys) := by rw [PyData.eqv, PySem.W.ked_eqvAll]
theorem eqvT (xs ys : List Int) : PyData.eqv (.tuple (xs.map PyData.int)) (.tuple (ys.map PyData.int)) = decide (xs = ys) := by rw [PyData.eqv, PySem.W.ked_eqvAll]
end Cm
namespace Cm
theorem range_map {α β : Type} [Inhabited α] (g : α → β) (xs : List α) : (List.range xs.length).map (fun i => g (xs.getD i default)) = xs.map g := by
  apply List.ext_getElem?
  intro i
  by_cases h : i < xs.length
  · simp [List.getD, h]
  · have h2 : xs.length ≤ i := by omega
    rw [List.getElem?_eq_none (by simpa using h2), List.getElem?_eq_none (by simpa using h2)]
end Cm
namespace Cm
open PySem PySem.Spec PyProof.Rows L2
/-- zip of two tuples, as a walk -/
theorem walk_zipT {K : PySem.W.Frag} {a b : Addr} {xs ys : List V} {n : Nat} (hn : n = min xs.length ys.length) : Walk (RZ.ItzT K a b) n (fun H => SqT K H a xs ∧ SqT K H b ys) (YPair (fun i => xs[i]?) (fun i => ys[i]?)) := by
  subst hn
  refine ⟨fun i _ hi q => ?_, fun _ q => ⟨xs, ys, q.1, q.2, by omega⟩, fun i H v H' _ q y => ?_⟩
  · have h1 : i < xs.length := by omega
    have h2 : i < ys.length := by omega
    exact ⟨xs, ys, xs[i], ys[i], q.1, q.2, by simp [h1], by simp [h2]⟩
  · obtain ⟨T, x, z, h1, h2, h3, h4, h5⟩ := y
    exact ⟨T, x, z, h1, h2, h3, h4 xs q.1, h5 ys q.2⟩
/-- a def that is never called so -/
theorem At.none {P : Program} {w : World} {K : PySem.W.Frag} {mg : Str → Option Value} {base : Heap} {x : Str} {st : Stmt} {ps : List Str} (F : At K mg x st ps) (k : Nat) : Dn P w K mg base CX0 k x ps (fun _ _ _ _ => False) := by
  obtain ⟨f, fd, F, hm, hb⟩ := F
  exact ⟨f, fd, ⟨fun _ _ _ _ h => h.elim, fun _ _ _ _ _ _ _ _ _ _ _ _ _ h => h.elim⟩, hm, F.kp, hb, F.look⟩
end Cm
namespace Cm
open PySem PySem.Spec PyProof.Rows L2
theorem Dn.mono {P : Program} {w : World} {K : PySem.W.Frag} {mg : Str → Option Value} {base : Heap} {j k : Nat} {x : Str} {ps : List Str} {sp : Sp} (D : Dn P w K mg base CX0 j x ps sp) (h : j ≤ k) : Dn P w K mg base CX0 k x ps sp := by
  obtain ⟨f, fd, F, r⟩ := D
  exact ⟨f, fd, F.mono h, r⟩
theorem Dn.imp {P : Program} {w : World} {K : PySem.W.Frag} {mg : Str → Option Value} {base : Heap} {k : Nat} {x : Str} {ps : List Str} {sp sp' : Sp} (D : Dn P w K mg base CX0 k x ps sp) (h : ∀ vs H Q E, sp' vs H Q E → sp vs H Q E) : Dn P w K mg base CX0 k x ps sp' := by
  obtain ⟨f, fd, F, r⟩ := D
  exact ⟨f, fd, F.imp h, r⟩
/-- two promises of one def -/
theorem Dn.or {P : Program} {w : World} {K : PySem.W.Frag} {mg : Str → Option Value} {base : Heap} {k : Nat} {x : Str} {ps : List Str} {sp1 sp2 : Sp} (D : Dn P w K mg base CX0 k x ps sp1) (D' : Dn P w K mg base CX0 k x ps sp2) :
    Dn P w K mg base CX0 k x ps (fun vs H Q E => sp1 vs H Q E ∨ sp2 vs H Q E) := by
  obtain ⟨f, fd, F, hm, hk, hb, oc, od, osl, lk⟩ := D
  obtain ⟨f', fd', F', hm', _, _, oc', od', osl', lk'⟩ := D'
  rw [hm] at hm'
  cases hm'
  rw [lk] at lk'
  cases lk'
  refine ⟨f, fd, ⟨fun vs H Q E h => ?_, fun A outer s H args us vs Q E hr e b v h => ?_⟩, hm, hk, hb, oc, od, osl, lk⟩
  · rcases h with h | h
    · exact F.len _ _ _ _ h
    · exact F'.len _ _ _ _ h
  · rcases h with h | h
    · exact F.run A outer s H args us vs Q E hr e b v h
    · exact F'.run A outer s H args us vs Q E hr e b v h
end Cm
namespace Cm
open PySem PySem.Spec PyProof.Rows L2
section
variable {J : It} {n : Nat} {G : Hp → Prop} {Y : Nat → Hp → V → Hp → Prop}
/-- .. with a test: the values f i for which p holds -/
theorem lc_filt {α : Type} (c : α → V) (w : Walk J n G Y) {g : TG} {tt : TT} {te : TE} {vs : List Nat} {σ : L2.St} {H1 : Hp} {D : Addr} {Qd : Hp → Prop} (f : Nat → α) (p : α → Bool) (hD : H1 D = none) (hn : n ≤ sizeLine) (hG : ∀ H, Same H1 H → G H)
    (hs : ∀ i x H H' (R : V → Hp → Prop) (R' : Hp → Prop), i < n → Same H1 H → Y i H x H' → (∀ H4, Same H H4 → p (f i) = true → R (c (f i)) H4) → (∀ H4, Same H H4 → p (f i) = false → R' H4) → g x (wipe σ vs) H' fun σ2 H2 => wipe σ2 vs = wipe σ vs ∧ tt σ2 H2 fun b H3 => if b = true then te σ2 H3 R else R' H3)
    (hd : ∀ H, Same H1 H → H D = some (.lst ((((List.range n).map f).filter p).map c)) → Qd H) :
    ∃ W : Nat → Nat → Hp → Prop, (∃ m, W 0 m (upd H1 D (.lst []))) ∧ ∀ i m H, W i m H →
      (J.stop i H ∧ Qd H) ∨ (J.go i H ∧ ∃ Nx : Hp → Prop, (∀ H', Nx H' → ∃ m', m' < m ∧ W (i + 1) m' H') ∧ ∀ x H', J.yld i H x H' → g x (wipe σ vs) H' fun σ2 H2 => wipe σ2 vs = wipe σ vs ∧ tt σ2 H2 fun b H3 =>
        if b = true then te σ2 H3 fun y H4 => ∃ acc, H4 D = some (.lst acc) ∧ acc.length < sizeLine ∧ Nx (upd H4 D (.lst (acc ++ [y]))) else Nx H3) := by
  refine lc_it w (fun i H => Same H1 H ∧ H D = some (.lst ((((List.range i).map f).filter p).map c))) ⟨Same.new hD, upd_same⟩ (fun i H _ p => hG H p.1) ?_ (fun H p => hd H p.1 p.2)
  intro i x H H' hi ps y
  have e : ((((List.range (i + 1)).map f).filter p).map c) = ((((List.range i).map f).filter p).map c) ++ (if p (f i) = true then [c (f i)] else []) := by
    rw [List.range_succ, List.map_append, List.filter_append, List.map_append]
    congr 1
    by_cases h : p (f i) = true
    · simp [h]
    · simp [h]
  refine hs i x H H' _ _ hi ps.1 y (fun H4 s4 pt => ?_) fun H4 s4 pf => ?_
  · refine ⟨_, s4 _ _ ps.2, ?_, fun b o e => ?_, ?_⟩
    · have := List.length_filter_le p ((List.range i).map f)
      rw [List.length_map] at this ⊢
      rw [List.length_range] at this
      omega
    · rw [upd_ne (ne_of_none e hD)]
      exact s4 _ _ (ps.1 _ _ e)
    · rw [upd_same, e, if_pos pt]
  · refine ⟨fun b o e => s4 _ _ (ps.1 _ _ e), ?_⟩
    rw [e, if_neg (by rw [pf]; decide), List.append_nil]
    exact s4 _ _ ps.2
end
end Cm
namespace Cm
open PySem PySem.Spec PyProof.Rows L2
/-! ### sum of a tuple of ints -/
section
variable {prog : Program} {w : World} {A : Around} {E : Value → Shared → Prop} {s : Shared} {l : Addr} {xs : Array (Int × Tok)}
theorem sum_tupG {Q : Value → Shared → Prop} (hh : A.handled = none) (hl : s.heap.IsTuple l (intItems xs))
    (h : ∀ h' tk t', (∀ b o, s.heap.get? b = some o → h'.get? b = some o) → Q (.int (preSum (numAt xs) xs.size) t') { s with heap := h', toks := tk }) :
    wpAny (model prog w) A (call (.builtin "sum") [.ref l]) Q E s := by
  have hlt : l < s.heap.objs.size := by obtain ⟨_, e, _⟩ := hl; exact Heap.lt_size e
  refine call_sum_walkG (wpAny_pyIter_tuple hl ?_)
  refine ⟨_, _, _, _, _, _, numAt xs, rfl, Walks.tuple (A := A.in1) hh _ l (Nat.ne_of_lt hlt) (intItems xs), ⟨⟨_, Heap.get?_push_size _ rfl, rfl, rfl⟩, hl.push _⟩, (fun b hb => ?_), (fun _ _ => intItems_at), fun h' tk t' hk => ?_⟩
  · show b < (s.heap.push _).objs.size
    rw [Heap.size_push]
    rcases List.mem_cons.mp hb with rfl | hb
    · exact Nat.lt_succ_self _
    · rcases List.mem_cons.mp hb with rfl | hb
      · exact Nat.lt_succ_of_lt hlt
      · cases hb
  · have := h h' tk t' fun b o e => by
      refine hk b o (fun hm => ?_) (Heap.get?_push_of_some _ e)
      rcases List.mem_cons.mp hm with e1 | hm
      · exact absurd (e1 ▸ Heap.lt_size e) (Nat.lt_irrefl _)
      · cases hm
    simpa [intItems] using this
end
def rSumT (K : PySem.W.Frag) : List V → Hp → VK → Prop := fun vs H Q => ∃ (a : Addr) (ns : List Int), vs = [V.ref a] ∧ SqT K H a (ns.map V.int) ∧ Q (.int ns.sum) H
theorem cr_sumT {X : Cx} (hc : X.calm = true) : CallR X (.builtin "sum") (rSumT X.K) := by
  intro pins s σ H vs us Q I r h
  obtain ⟨a, ns, rfl, hs, q⟩ := h
  obtain ⟨its, rv, hl, _⟩ := I.tuple hs
  rw [Vals.ref1 r]
  have hi := rv.ints
  obtain ⟨xs, e⟩ := hi.allInts.items
  have hn : numsOf (intItems xs).toList = ns := by rw [← e]; exact hi.numsOf
  rw [nums_intItems] at hn
  rw [e] at hl
  refine sum_tupG (I.ok.hd hc) hl fun h' tk t' hk => ?_
  rw [preSum_eq, List.take_of_length_le (by simp), hn]
  exact ⟨.int _, H, I.kept hk, ⟨_, rfl⟩, q⟩
end Cm
namespace Cm
open PySem PySem.Spec PyProof.Rows L2
section
variable {X : Cx} {o e : Expr} {es : List Expr} {to : TE} {t : TA} {name : Str} {apos cpos : Pos} {T id : String} {r : V → List V → Hp → VK → Prop}
theorem pe_bmK (K : PySem.W.Frag) (pa : PlainAttrs T) (slot : Slot T name id) (hty : typeOf (.builtin id) = pure (.type "method_descriptor")) (hm : MtR X id r) (ho : PE X o to) (ha : PA X (e :: es) t)
    (hK : X.K = K := by rfl) (hbase : attributeBase o name X.env (eval o X.env) = eval o X.env := by rfl)
    (hfew : ((backTo cpos (starEach (e :: es) X.env)).all (fun x => !x.1) && (backToKw cpos (keywordEach [] X.env)).all (fun x => x.1.isSome)
      && decide ((e :: es).length + ([] : List Keyword).length + (if ([] : List Keyword).isEmpty then 0 else 1) < 30)) = true := by rfl)
    (hline : (apos.endLine == cpos.line) = true := by rfl) (hs : starEach (e :: es) X.env = (false, eval e X.env) :: starEach es X.env := by rfl) (hplain : (backTo cpos (starEach es X.env)).any (·.1) = false := by rfl) :
    PE X (.Call (.Attribute o name apos) (e :: es) [] cpos) (tBM K T r to t) := by
  subst hK
  exact pe_bm pa slot hty hm ho ha hbase hfew hline hs hplain
end
end Cm
namespace Cm
open PySem PySem.Spec PyProof.Rows L2 HT
/-! ### t[::-1] of a tuple -/
section
variable {prog : Program} {w : World} {A : Around} {E : Value → Shared → Prop} {s : Shared}
theorem rev_adjust (n : Nat) : Builtin.Slice.sliceAdjust none none (-1) (n : Int) = ((n : Int) - 1, -1) := by
  unfold Builtin.Slice.sliceAdjust
  simp
theorem rev_places (n : Nat) : Builtin.Slice.slicePlaces ((n : Int) - 1) (-1) (-1) = n := by
  unfold Builtin.Slice.slicePlaces
  simp
  omega
theorem fm_congr {α β : Type} {f g : α → Option β} : ∀ {l : List α}, (∀ x ∈ l, f x = g x) → l.filterMap f = l.filterMap g
  | [], _ => rfl
  | x :: l, h => by
    rw [List.filterMap_cons, List.filterMap_cons, h x (List.mem_cons_self ..), fm_congr (l := l) fun y hy => h y (List.mem_cons_of_mem _ hy)]
theorem rev_pick (xs : Array Value) : ((List.range xs.size).filterMap fun (m : Nat) => xs[(((xs.size : Nat) : Int) - 1 + (m : Int) * (-1)).toNat]?).toArray = xs.toList.reverse.toArray := by
  have e : (List.range xs.size).filterMap (fun (m : Nat) => xs[(((xs.size : Nat) : Int) - 1 + (m : Int) * (-1)).toNat]?) = ((List.range xs.size).map fun k => xs.size - 1 - k).filterMap (xs[·]?) := by
    rw [List.filterMap_map]
    apply fm_congr
    intro m hm
    have := List.mem_range.mp hm
    show xs[_]? = xs[xs.size - 1 - m]?
    congr 1
    omega
  rw [e, PySem.W.krv_range, List.filterMap_reverse, PySem.W.krv_all]
theorem sliceApplied_rev {sl : Addr} {t : Tok} {n : Nat} {Q : Int × Int × Nat → Shared → Prop} (hs : s.heap.IsSliceOf sl .none .none (.int (-1) t))
    (h : Q ((n : Int) - 1, -1, n) s) : wpAny (model prog w) A (Builtin.Slice.sliceApplied (.ref sl) (pure (n : Int))) Q E s := by
  obtain ⟨os, hos, hcs, hds⟩ := id hs
  unfold Builtin.Slice.sliceApplied Builtin.Slice.sliceFields
  refine wpAny_bind (wpAny_bind (wpAny_field hos hds (x := .none) rfl (wpAny_bind (wpAny_field hos hds (x := .none) rfl (wpAny_bind (wpAny_field hos hds (x := .int (-1) t) rfl (wpAny_pure ?_)))))))
  refine wpAny_bind (slicePart_int ?_)
  show wpAny _ _ (if ((-1 : Int) == 0) = true then _ else _) _ _ s
  rw [if_neg (by decide)]
  refine wpAny_bind (slicePart_none (wpAny_bind (slicePart_none (wpAny_bind (wpAny_pure ?_)))))
  show wpAny _ _ (match Builtin.Slice.sliceAdjust none none (-1) (n : Int) with | (lo, hi) => pure (lo, (-1 : Int), Builtin.Slice.slicePlaces lo hi (-1))) _ _ s
  rw [rev_adjust n]
  show wpAny _ _ (pure ((n : Int) - 1, (-1 : Int), Builtin.Slice.slicePlaces ((n : Int) - 1) (-1) (-1))) _ _ s
  rw [rev_places]
  exact wpAny_pure h
theorem getItem_tuple_rev {t sl : Addr} {items : Array Value} {u : Tok} {Q : Value → Shared → Prop} (ht : IsTup s.heap t items) (hs : s.heap.IsSliceOf sl .none .none (.int (-1) u))
    (h : Q (.ref s.heap.objs.size) { s with heap := s.heap.push { cls := .type "tuple", data := .seq items.toList.reverse.toArray } })
    (hsz : items.size ≤ sizeLine) : wpAny (model prog w) A (getItem (.ref t) (.ref sl)) Q E s := by
  have htake : sizeOk (.seq items.toList.reverse.toArray) := by
    show items.toList.reverse.toArray.size ≤ sizeLine
    rw [List.size_toArray, List.length_reverse, Array.length_toList]
    exact hsz
  obtain ⟨os, hos, hcs, hds⟩ := id hs
  have hTs : s.TypeIs (.ref sl) "slice" := ⟨os, hos, hcs⟩
  unfold getItem
  try with_reducible refine wpAny_holding ?_
  first | refine wpAny_bind (wpAny_pure ?_) | skip
  refine wpAny_bind (wpAny_sequenceKey ht.typeIs (by decide) ?_)
  refine wpAny_bind (wpAny_callSpecial?_slot (name := Str.ofString "__getitem__") ht.typeIs PyProof.Rows.slot_tuple_getitem
    (wpAny_call_entry PyProof.Rows.slot_tuple_getitem ht.typeIs entry_tuple_getitem ?_ (args_tuple_getitem _ _)))
  show wpAny _ _ (Builtin.Tuple.tupleItemsOf (.ref t) >>= _) _ _ s
  refine wpAny_bind (tupleItemsOf_ ht ?_)
  refine wpAny_bind (wpAny_typeOf hTs ?_)
  rw [if_pos (by decide)]
  refine wpAny_bind (sliceApplied_rev hs ?_)
  have hno : ¬ ((((items.size : Nat) : Int) - 1 == 0 && (-1 : Int) == 1 && items.size == items.size) = true) := by
    intro q
    rw [Bool.and_eq_true, Bool.and_eq_true] at q
    exact absurd q.1.2 (by decide)
  show wpAny _ _ (if (((items.size : Nat) : Int) - 1 == 0 && (-1 : Int) == 1 && items.size == items.size) = true then _ else _) _ _ s
  rw [if_neg hno, rev_pick]
  first
    | exact wpAny_bind (m := Builtin.Tuple.tupleExact _) (wpAny_newObj_type (wpAny_pure ⟨_, rfl, wpAny_pure h⟩) htake)
    | exact wpAny_bind (m := Builtin.Tuple.tupleExact _) (wpAny_newObj_type (wpAny_bind (wpAny_pure (wpAny_pure ⟨_, rfl, wpAny_pure h⟩))) htake)
    | exact wpAny_bind (wpAny_bind (m := Builtin.Tuple.tupleExact _) (wpAny_newObj_type (wpAny_pure (wpAny_pure ⟨_, rfl, wpAny_pure h⟩)) htake))
    | exact wpAny_bind (wpAny_bind (m := Builtin.Tuple.tupleExact _) (wpAny_newObj_type (wpAny_pure ⟨_, rfl, wpAny_pure h⟩) htake))
end
def tRevT (K : PySem.W.Frag) (te : TE) : TE := fun σ H Q => te σ H fun x H1 => ∃ a xs, x = .ref a ∧ SqT K H1 a xs ∧ ∀ p, H1 p = none → Q (.ref p) (upd H1 p (.tup xs.reverse))
theorem pe_revT {X : Cx} {e : Expr} {te : TE} {p1 p2 p3 pos : Pos} (he : PE X e te) : PE X (.Subscript e (.Slice none none (some (.UnaryOp .USub (.Constant (.int 1) 0 p1) p2)) p3) pos) (tRevT X.K te) := by
  refine ⟨fun pins s σ H Q I h => ?_⟩
  refine Subscript_ (thn (he.run pins s σ H _ I h) fun v s1 ⟨x, H1, I1, r1, q1⟩ => ?_)
  refine wpAny_Slice ?_
  rw [evalPart_none]
  refine wpAny_pure (wpAny_pure ?_)
  rw [evalPart_some]
  refine thn ((pe_un un_neg pe_int).run pins s1 σ H1 (fun y H2 => y = .int (-1) ∧ H2 = H1) I1 ⟨_, rfl, rfl, rfl⟩) fun u s2 ⟨y, H2, I2, r2, e1, e2⟩ => ?_
  subst e1 e2
  obtain ⟨t, rfl⟩ := r2
  obtain ⟨a, xs, rfl, hx, q⟩ := q1
  cases r1
  have I4 : Inv X pins σ H2 { s2 with heap := s2.heap.push { cls := .type "slice", data := .fields #[.none, .none, .int (-1) t] } } := I2.kept (t' := s2.toks) fun b ob q => Heap.get?_push_of_some _ q
  obtain ⟨its, r, ht, hz⟩ := I4.tuple hx
  show wpAny (model X.prog X.w) X.A (subscriptTail e _ (.ref a) (.ref s2.heap.objs.size)) (EP X pins σ Q) X.xe { s2 with heap := s2.heap.push { cls := .type "slice", data := .fields #[.none, .none, .int (-1) t] } }
  refine tail_any (ops := [.ref a, .ref s2.heap.objs.size]) ht.typeIs PyProof.Rows.slot_tuple_getitem.lookup (getItem_tuple_rev ht (Heap.IsSliceOf.new ..) ?_ (by rw [List.size_toArray, ← r.length]; exact hz)) (by with_unfolding_all rfl)
  refine ⟨.ref _, _, I4.laid (t' := s2.toks) (o := .tup xs.reverse) (fun b ob q => Heap.get?_push_of_some _ q) (Nat.le_refl _) ?_, rfl, q _ (I4.hok.fresh (Nat.le_refl _))⟩
  exact ⟨by rw [List.length_reverse]; exact hz, _, r.reverse, IsTup.new _ _⟩
end Cm
namespace Cm
open PySem PySem.Spec PyProof.Rows L2
section
variable {X : Cx}
theorem _root_.L2.OpR.imp {f : Value → Value → Sem Value} {r r' : R2} (h : OpR X f r) (i : ∀ x y H Q, r' x y H Q → r x y H Q) : OpR X f r' :=
  fun pins s σ H x y v u Q I rx ry q => h pins s σ H x y v u Q I rx ry (i _ _ _ _ q)
/-- t + u, whatever object it is -/
def rCatS (K : PySem.W.Frag) : R2 := fun x y H Q => ∃ a b xs ys, x = .ref a ∧ y = .ref b ∧ SqT K H a xs ∧ SqT K H b ys ∧ xs.length + ys.length ≤ sizeLine ∧ ∀ r H', Same H H' → SqT K H' r (xs ++ ys) → Q (.ref r) H'
theorem op_catS : OpR X (binaryOp .Add) (rCatS X.K) := op_catA.imp fun x y H Q h => by
  obtain ⟨a, b, xs, ys, rfl, rfl, ha, hb, hl, q⟩ := h
  refine ⟨a, b, xs, ys, rfl, rfl, ha, hb, hl, fun e => ?_, fun _ e => ?_, fun _ _ p np => q p _ (Same.new np) (SqT.of upd_same)⟩
  · subst e
    exact q b H (Same.refl _) hb
  · subst e
    exact q a H (Same.refl _) (by rw [List.append_nil]; exact ha)
/-- t[lo:hi], whatever object it is -/
def rSlS (K : PySem.W.Frag) : V → Option Int → Option Int → Hp → VK → Prop := fun x lo hi H Q => ∃ a xs, x = .ref a ∧ SqT K H a xs ∧ ∀ r H', Same H H' → SqT K H' r (cutV xs lo hi) → Q (.ref r) H'
theorem cut_whole {xs : List V} {lo hi : Option Int} (h : HT.sIx xs.length 0 lo = 0 ∧ HT.sIx xs.length xs.length hi = xs.length) : cutV xs lo hi = xs := by
  unfold cutV
  rw [h.1, h.2, List.drop_zero, Nat.sub_zero, List.take_length]
theorem sl_tupS : SlR X (rSlS X.K) := by
  intro pins s σ H x v vl vu lo hi sl Q I rx hs pl pu h
  obtain ⟨a, xs, rfl, ha, q⟩ := h
  refine sl_tupA pins s σ H (.ref a) v vl vu lo hi sl Q I rx hs pl pu ⟨a, xs, rfl, ha, fun e => q a H (Same.refl _) (by rw [cut_whole e]; exact ha), fun _ p np => q p _ (Same.new np) (SqT.of upd_same)⟩
end
end Cm
namespace Cm
open PySem PySem.Spec PyProof.Rows L2
/-! ### defs with one keyword-only parameter and its default -/
/-- a def of n positional parameters and one keyword-only one, by its name; dv the default -/
def DnK (P : Program) (w : World) (K : PySem.W.Frag) (mg : Str → Option Value) (base : Heap) (CX : CXT) (k : Nat) (x : Str) (ps : List Str) (kw : Str) (dv : V) (sp : Sp) : Prop :=
  ∃ (f : Addr) (fd : FuncData), FnOk P w K mg base CX k f fd (ps ++ [kw]) sp ∧ mg x = some (.ref f) ∧ PySem.W.keepIn K (.ref f) = true ∧ KBn K fd (ps ++ [kw]) ps.length [kw] (fun us ws => us ++ ws) (fun vs zs => vs ++ zs) ∧
    (∃ ds, Vals [dv] ds ∧ Binds K fd (ps ++ [kw]) ds) ∧ ∃ oc od osl, K.lookup f = some ⟨oc, od, .func fd, osl⟩
/-- where it stands -/
def AtK (K : PySem.W.Frag) (mg : Str → Option Value) (x : Str) (st : Stmt) (ps : List Str) (kw : Str) (dv : V) : Prop :=
  ∃ (f : Addr) (fd : FuncData), FunD K x x (defArgs st) (defBody st) (defScope st) [] [(kw, dv)] f fd ∧ mg x = some (.ref f) ∧ KBn K fd (ps ++ [kw]) ps.length [kw] (fun us ws => us ++ ws) (fun vs zs => vs ++ zs) ∧ ∃ ds, Vals [dv] ds ∧ Binds K fd (ps ++ [kw]) ds
section
variable {P : Program} {w : World} {K : PySem.W.Frag} {mg : Str → Option Value} {base : Heap}
theorem AtK.ok {x kw : Str} {dv : V} {st : Stmt} {N ps : List Str} {k : Nat} {sp : Sp} (F : AtK K mg x st ps kw dv) (S : FnScope N (ps ++ [kw]) (defScope st)) (len : ∀ vs H Q E, sp vs H Q E → vs.length = (ps ++ [kw]).length)
    (hbody : ∀ (f : Addr) (cdv : Value) (A : Around) (outer : List Env) (s : Shared) (H : Hp) (vs : List V) (Q : VK) (E : XK), Room k (A.deeper (envOfC x (defScope st) s.heap.objs.size f cdv)) → sp vs H Q E →
      ∃ t, PSs (cxOf CX0 P w K mg base N x (defScope st) f cdv A outer s H E).nox (defBody st) t ∧ t { nx := fun _ H' => Q .non H', rt := Q } (start N vs) H) : DnK P w K mg base CX0 (k + 1) x ps kw dv sp := by
  obtain ⟨f, fd, F, hm, hb, hd⟩ := F
  refine ⟨f, fd, F.ok S len fun cdv A outer s H vs Q E hr h => ?_, hm, F.kp, hb, hd, F.look⟩
  obtain ⟨t, h1, h2⟩ := hbody f cdv A outer s H vs Q E hr h
  exact ⟨t, h1.nox, h2⟩
/-- how such a def binds: h0 with the default, h1 with the keyword -/
theorem atK_mk {x kw : Str} {dv : V} {st : Stmt} {ps : List Str} {f : Addr} {fd : FuncData} (F : FunD K x x (defArgs st) (defBody st) (defScope st) [] [(kw, dv)] f fd) (hm : mg x = some (.ref f))
    (h0 : ∀ (D : Addr) (doc pm : Value) (an : Option Addr) (cdv ct : Value) (us ks : List Value), us.length = ps.length → ks.length = 1 →
      KwChain D (([(kw, dv)].map (·.1)).zip ks) (bindArgs (PySem.W.fnOf x x (defArgs st) (defBody st) (defScope st) .none (.ref D) doc pm an cdv ct) ⟨us, []⟩) ((ps ++ [kw]).zip (us ++ ks)))
    (h1 : ∀ (kV doc pm : Value) (an : Option Addr) (cdv ct : Value) (us ws : List Value), us.length = ps.length → ws.length = 1 →
      bindArgs (PySem.W.fnOf x x (defArgs st) (defBody st) (defScope st) .none kV doc pm an cdv ct) ⟨us, [kw].zip ws⟩ = pure ((ps ++ [kw]).zip (us ++ ws))) : AtK K mg x st ps kw dv := by
  refine ⟨f, fd, F, hm, ?_, ?_⟩
  · obtain ⟨oc, od, dV, kV, doc, pm, an, cdv, ct, osl, rfl, lk, hcd, hD, hK⟩ := F.ex
    rcases hD with ⟨_, rfl⟩ | ⟨e, _⟩
    · exact ⟨fun s us ws _ l1 l2 => .of_eq (h1 kV doc pm an cdv ct us ws l1 l2), fun r rz => r.append rz⟩
    · exact absurd rfl e
  · exact F.binds0 (ps := ps ++ [kw]) ps.length (by simp) (by simp) h0
end
section
variable {X : Cx} {k : Nat} {x kw : Str} {dv : V} {ps : List Str} {sp : Sp} {p pos kp : Pos} {e ek : Expr} {es : List Expr} {t : TA} {tk : TE}
/-- f(e, .., kw=ek) -/
def tCallW (n : Nat) (sp : Sp) (t : TA) (tk : TE) : TE := fun σ H Q => t σ H fun vs H1 => tk σ H1 fun z H2 => vs.length = n ∧ [z].length = 1 ∧ sp (vs ++ [z]) H2 Q E0
theorem pe_callW (D : DnK X.prog X.w X.K X.mg X.base CX0 k x ps kw dv sp) (hr : Room k X.A) (ha : PA X (e :: es) t) (hk : PE X ek tk) (hg : Gl X x := by rfl)
    (hall : (backToKw pos (keywordEach [⟨some kw, ek, kp⟩] X.env)).all (·.1.isSome) = true := by rfl) (hks : (backToKw pos (keywordEach [⟨some kw, ek, kp⟩] X.env)).filterMap (·.1) = [kw] := by rfl)
    (hdb : (x == ("__debug__" : Str)) = false := by decide) (he : starEach (e :: es) X.env = (false, eval e X.env) :: starEach es X.env := by rfl)
    (hpl : ((backTo pos (starEach (e :: es) X.env)).any (·.1) || (backToKw pos (keywordEach [⟨some kw, ek, kp⟩] X.env)).any (·.1.isNone)) = false := by rfl) :
    PE X (.Call (.Name x p) (e :: es) [⟨some kw, ek, kp⟩] pos) (tCallW ps.length sp t tk) := by
  obtain ⟨f, fd, F, hm, hkp, hb, _⟩ := D
  have h := pe_callN (p := p) F hr hg hm hkp hb pass0 ha (pk_cons (nm := some kw) (kpos := kp) hk pk_nil) hall hks hdb he hpl
  refine ⟨fun pins s σ H Q I q => h.run pins s σ H Q I ?_⟩
  exact q
theorem pe_callW0 (D : DnK X.prog X.w X.K X.mg X.base CX0 k x [] kw dv sp) (hr : Room k X.A) (hk : PE X ek tk) (hg : Gl X x := by rfl)
    (hall : (backToKw pos (keywordEach [⟨some kw, ek, kp⟩] X.env)).all (·.1.isSome) = true := by rfl) (hks : (backToKw pos (keywordEach [⟨some kw, ek, kp⟩] X.env)).filterMap (·.1) = [kw] := by rfl)
    (hdb : (x == ("__debug__" : Str)) = false := by decide)
    (hpl : ((backTo pos (starEach [] X.env)).any (·.1) || (backToKw pos (keywordEach [⟨some kw, ek, kp⟩] X.env)).any (·.1.isNone)) = false := by rfl) :
    PE X (.Call (.Name x p) [] [⟨some kw, ek, kp⟩] pos) (fun σ H Q => tk σ H fun z H2 => [z].length = 1 ∧ sp [z] H2 Q E0) := by
  obtain ⟨f, fd, F, hm, hkp, hb, _⟩ := D
  refine ⟨fun pins s σ H Q I h => ?_⟩
  refine wpAny_Call_Name_kw (ld_glob I hg hm ?_ hdb)
  refine PySem.W.callWith_KW0 (h₀ := X.base) I.ok.mod.kin hkp hall ?_ hpl
  refine thn ((pk_cons (nm := some kw) (kpos := kp) hk pk_nil).run pos pins s σ H (fun zs H2 => zs.length = 1 ∧ sp zs H2 Q E0) I ?_) fun ws s2 ⟨zs, H2, I2, rz, l2, q2⟩ => ⟨I2.kIn, ?_⟩
  · exact h
  rw [hks]
  exact run_fnN (us := []) (vs := []) F hr hb pass0 I2 .nil rz rfl l2 q2
/-- f() and f(e, ..): the default stands for it -/
theorem pe_callWd0 (D : DnK X.prog X.w X.K X.mg X.base CX0 k x [] kw dv sp) (hr : Room k X.A) (hg : Gl X x := by rfl) (hdb : (x == ("__debug__" : Str)) = false := by decide) :
    PE X (.Call (.Name x p) [] [] pos) (tCall sp [dv] E0 tNil) := by
  obtain ⟨f, fd, F, hm, hkp, _, ⟨ds, hv, hb⟩, _⟩ := D
  exact pe_call0 F hr hg hm hkp hb hv pass0 hdb
theorem pe_callWd (D : DnK X.prog X.w X.K X.mg X.base CX0 k x ps kw dv sp) (hr : Room k X.A) (ha : PA X (e :: es) t) (hg : Gl X x := by rfl) (hdb : (x == ("__debug__" : Str)) = false := by decide)
    (he : starEach (e :: es) X.env = (false, eval e X.env) :: starEach es X.env := by rfl) (hpl : (backTo pos (starEach es X.env)).any (·.1) = false := by rfl) :
    PE X (.Call (.Name x p) (e :: es) [] pos) (tCall sp [dv] E0 t) := by
  obtain ⟨f, fd, F, hm, hkp, _, ⟨ds, hv, hb⟩, _⟩ := D
  exact pe_call F hr hg hm hkp hb hv pass0 ha hdb he hpl
end
end Cm
namespace Cm
open PySem PySem.Spec PyProof.Rows L2
/-! ### the head's facts and one Bool more -/
abbrev AlB : Type := He.AlD × Bool
def obsB (n : Nat) (fa : List He.Fa) (fn : List He.DefD) (ex : PySem.W.Frag → Bool) (g : Addr → Option Obj) : AlB := (He.obsDG n fa fn g, ex (He.frG g (He.asD g n)))
def hookB (n : Nat) (fa : List He.Fa) (fn : List He.DefD) (ex : PySem.W.Frag → Bool) : PySem.W.Hook where
  α := AlB
  obs := fun s => obsB n fa fn ex s.heap.get?
  val := fun _ => (He.valD fn, true)
  says := fun _ h => ∃ K : PySem.W.Frag, K.In h ∧ He.SaysD fa fn K ∧ ex K = true
  of := fun _ _ e => ⟨_, He.frG_in, congrArg (fun z : AlB => z.1) e, congrArg (fun z : AlB => z.2) e⟩
  keeps := fun _ _ _ ⟨K, hK, c⟩ k => ⟨K, PySem.W.Frag.In.keeps hK k, c⟩
theorem obsB_eq {n : Nat} {fa : List He.Fa} {fn : List He.DefD} {ex : PySem.W.Frag → Bool} {g : Addr → Option Obj} {s : Shared} (h : ∀ a, g a = s.heap.get? a) : obsB n fa fn ex g = (hookB n fa fn ex).obs s := by
  have e : g = s.heap.get? := funext h
  rw [e] <;> rfl
end Cm
namespace Cm
open PySem PySem.Spec PyProof.Rows L2
/-! ### a range held by a name, and walked -/
theorem cr_range1 {X : Cx} : CallR X (.type "range") (fun vs H Q => ∃ j, vs = [V.int j] ∧ ∀ p, H p = none → Q (.ref p) (upd H p (.rng 0 j))) := by
  intro pins s σ H vs us Q I r h
  obtain ⟨j, rfl, q⟩ := h
  obtain ⟨u1, rfl, rj⟩ := vals1 r
  obtain ⟨u, rfl⟩ := rj
  refine call_range_1 ⟨.ref s.heap.objs.size, upd H s.heap.objs.size (.rng 0 j), I.laid (fun b o e => Heap.get?_push_of_some _ e) (Nat.le_refl _) ?_, rfl, q _ (I.hok.fresh (Nat.le_refl _))⟩
  exact ⟨_, u, _, Heap.get?_push_size _ rfl⟩
/-- for k in r, r a range that stands in H -/
def iRngV (te : TE) : TI := fun σ H R => te σ H fun x H1 => ∃ (a : Addr) (lo hi : Int), x = .ref a ∧ H1 a = some (.rng lo hi) ∧ (-(2 ^ 62) ≤ lo ∧ lo < 2 ^ 62 ∧ -(2 ^ 62) ≤ hi ∧ hi < 2 ^ 62) ∧ R (Itr lo (hi - lo).toNat) H1
theorem pi_rng {X : Cx} {tg e : Expr} {te : TE} (he : PE X e te) : PI X tg e (iRngV te) := by
  refine ⟨fun pins s σ H R I h => ?_⟩
  refine thn (he.run pins s σ H _ I h) fun v s1 hh => ?_
  obtain ⟨x, H1, I1, r1, a, lo, hi, rfl, ha, ⟨h1, h2, h3, h4⟩, q⟩ := hh
  cases r1
  obtain ⟨t, u, w', hobj⟩ : ∃ t u v, s1.heap.get? a = some { cls := .type "range", data := .fields #[.int lo t, .int hi u, .int 1 v] } := I1.hok a _ ha
  refine wpAny_pyIter_range (show IsRange s1.heap a lo hi 1 t u w' from hobj) (small_one h1 h2 h3 h4) ?_
  refine ⟨s1.heap.objs.size, [s1.heap.objs.size], _, _, H1, rfl, I1.kept (t' := s1.toks) fun b o e => Heap.get?_push_of_some _ e, turn_range _ lo (hi - lo).toNat, ?_, fun b hb => ?_, q⟩
  · have e1 : lo + ((0 : Nat) : Int) * 1 = lo := by simp
    have e2 : (((hi - lo).toNat : Nat) : Int) - ((0 : Nat) : Int) = Builtin.Range.rangeSize lo hi 1 := by rw [rangeSize_one]; split <;> omega
    show IsRangeIter _ _ (lo + ((0 : Nat) : Int) * 1) ((((hi - lo).toNat : Nat) : Int) - ((0 : Nat) : Int)) 1
    rw [e1, e2]
    exact Heap.get?_push_size _ rfl
  · have e : b = s1.heap.objs.size := by simpa using hb
    subst e
    exact I1.fpOk (Nat.le_refl _) (I1.hok.fresh (Nat.le_refl _))
end Cm

set_option Elab.async false
set_option linter.all false
set_option maxRecDepth 100000
set_option maxHeartbeats 4000000

namespace Hx
open PySem PySem.Spec PyProof.Rows L2 Cm
def top (i : Nat) : Stmt := PySem.Challenge.pw_sherdhall_k04_checks.main.body.getD i (.Pass ⟨0, 0, 0, 0⟩)
abbrev s_is_whole : Stmt := top 6
abbrev s_is_between : Stmt := top 7
abbrev s_times : Stmt := top 8
abbrev s_power : Stmt := top 9
abbrev s_is_shape : Stmt := top 13
abbrev s_check_shape : Stmt := top 14
abbrev s_count : Stmt := top 15
abbrev s_is_place : Stmt := top 16
abbrev s_check_place : Stmt := top 17
abbrev s_kind_of : Stmt := top 18
abbrev s_mark : Stmt := top 19
abbrev s_local_factor : Stmt := top 20
abbrev s_over_factor : Stmt := top 21
abbrev s_checks : Stmt := top 22
abbrev s__law_purse : Stmt := top 24
abbrev s__law_drawn : Stmt := top 25
abbrev s__law_shape : Stmt := top 26
abbrev s__law_same : Stmt := top 27
abbrev s__law_checks : Stmt := top 28
abbrev s_law : Stmt := top 29
structure Txt (K : PySem.W.Frag) (mg : Str → Option Value) where
  n_len : mg "len" = none
  n_max : mg "max" = none
  n_min : mg "min" = none
  n_range : mg "range" = none
  n_isinstance : mg "isinstance" = none
  n_int : mg "int" = none
  n_bool : mg "bool" = none
  n_tuple : mg "tuple" = none
  n_list : mg "list" = none
  n_divmod : mg "divmod" = none
  n_all : mg "all" = none
  u_PRIME : Value
  g_PRIME : mg "PRIME" = some u_PRIME
  v_PRIME : RelV (.int 97) u_PRIME
  g_PLAIN : mg "PLAIN" = some (.ref (He.ga K "PLAIN"))
  q_PLAIN : ∀ H, SqT K H (He.ga K "PLAIN") [.int 2, .int 3, .int 2]
  g_MARKS : mg "MARKS" = some (.ref (He.ga K "MARKS"))
  q_MARKS : ∀ H, SqT K H (He.ga K "MARKS") [.int 1, .int 11, .int 40, .int 30]
/-! ### numbers by 97 -/
theorem mod_ml (a b : Int) : (a % 97 * b) % 97 = a * b % 97 := by rw [Int.mul_emod, Int.emod_emod, ← Int.mul_emod]
theorem mod_mr (a b : Int) : (a * (b % 97)) % 97 = a * b % 97 := by rw [Int.mul_emod, Int.emod_emod, ← Int.mul_emod]
theorem mod_pw (a : Int) : ∀ n : Nat, (a % 97) ^ n % 97 = a ^ n % 97
  | 0 => by rw [Int.pow_zero, Int.pow_zero]
  | n + 1 => by rw [Int.pow_succ, Int.pow_succ, Int.mul_emod, mod_pw a n, Int.emod_emod, ← Int.mul_emod]
theorem fermat {a : Int} (h : a % 97 ≠ 0) : a ^ 96 % 97 = 1 := by
  rw [← mod_pw]
  have h0 : 0 ≤ a % 97 := Int.emod_nonneg _ (by decide)
  have h1 : a % 97 < 97 := Int.emod_lt_of_pos _ (by decide)
  obtain ⟨n, hn⟩ : ∃ n : Nat, a % 97 = (n : Int) := ⟨(a % 97).toNat, by omega⟩
  rw [hn] at h h0 h1 ⊢
  have key : ∀ n : Fin 97, n.val ≠ 0 → ((n.val : Int)) ^ 96 % 97 = 1 := by decide +kernel
  exact key ⟨n, by omega⟩ (by simp; omega)
/-- a small enough number -/
def Bd (a : Int) : Prop := a.natAbs < 2 ^ 250
theorem Bd.mod (a : Int) : Bd (a % 97) := by
  have h0 : 0 ≤ a % 97 := Int.emod_nonneg _ (by decide)
  have h1 : a % 97 < 97 := Int.emod_lt_of_pos _ (by decide)
  have h2 : 97 < 2 ^ 250 := by decide
  unfold Bd
  omega
local macro_rules | `(tactic| walk_at "bd") => `(tactic| first | assumption | exact Bd.mod _ | (unfold Bd; decide))
local macro_rules | `(tactic| walk_at "rd") => `(tactic| repeat (first | refine ⟨_, rfl, ?_⟩ | refine ⟨_, _, rfl, rfl, ?_⟩ | refine ⟨_, _, rfl, ?_⟩ | refine ⟨_, _, _, rfl, ?_⟩ | refine ⟨rfl, ?_⟩ | refine ⟨(by walk_at "bd" : Bd _), ?_⟩))
local macro_rules | `(tactic| walk_at "mem") => `(tactic| first | assumption | exact upd_same | (refine old ?_ ?_ <;> walk_at "mem"))
local macro_rules | `(tactic| walk_at "sq") => `(tactic| first | assumption | (refine SqL.of ?_; walk_at "mem"))
section
variable {P : Program} {w : World} {K : PySem.W.Frag} {mg : Str → Option Value} {base : Heap}
theorem sc_is_whole : FnScope ["thing"] ["thing"] (defScope s_is_whole) := ⟨rfl, rfl, rfl, by decide +kernel, rfl, by decide +kernel, by decide +kernel⟩
theorem sc_is_between : FnScope ["thing", "least", "most"] ["thing", "least", "most"] (defScope s_is_between) := ⟨rfl, rfl, rfl, by decide +kernel, rfl, by decide +kernel, by decide +kernel⟩
theorem sc_times : FnScope ["one", "other"] ["one", "other"] (defScope s_times) := ⟨rfl, rfl, rfl, by decide +kernel, rfl, by decide +kernel, by decide +kernel⟩
theorem sc_power : FnScope ["one", "many", "product", "square", "rest"] ["one", "many"] (defScope s_power) := ⟨rfl, rfl, rfl, by decide +kernel, rfl, by decide +kernel, by decide +kernel⟩
theorem sc_is_shape : FnScope ["thing", "groups", "size", "sums"] ["thing"] (defScope s_is_shape) := ⟨rfl, rfl, rfl, by decide +kernel, rfl, by decide +kernel, by decide +kernel⟩
theorem sc_check_shape : FnScope ["shape"] ["shape"] (defScope s_check_shape) := ⟨rfl, rfl, rfl, by decide +kernel, rfl, by decide +kernel, by decide +kernel⟩
theorem sc_count : FnScope ["shape", "groups", "size", "sums"] ["shape"] (defScope s_count) := ⟨rfl, rfl, rfl, by decide +kernel, rfl, by decide +kernel, by decide +kernel⟩
theorem sc_is_place : FnScope ["thing", "shape"] ["thing", "shape"] (defScope s_is_place) := ⟨rfl, rfl, rfl, by decide +kernel, rfl, by decide +kernel, by decide +kernel⟩
theorem sc_check_place : FnScope ["thing", "shape"] ["thing", "shape"] (defScope s_check_place) := ⟨rfl, rfl, rfl, by decide +kernel, rfl, by decide +kernel, by decide +kernel⟩
theorem sc_kind_of : FnScope ["place", "shape", "groups", "size", "_", "group", "at"] ["place", "shape"] (defScope s_kind_of) := ⟨rfl, rfl, rfl, by decide +kernel, rfl, by decide +kernel, by decide +kernel⟩
theorem sc_mark : FnScope ["place", "shape", "kind"] ["place", "shape"] (defScope s_mark) := ⟨rfl, rfl, rfl, by decide +kernel, rfl, by decide +kernel, by decide +kernel⟩
theorem sc_local_factor : FnScope ["place", "group", "shape", "kind"] ["place", "group", "shape"] (defScope s_local_factor) := ⟨rfl, rfl, rfl, by decide +kernel, rfl, by decide +kernel, by decide +kernel⟩
theorem sc_over_factor : FnScope ["place", "number", "shape", "kind"] ["place", "number", "shape"] (defScope s_over_factor) := ⟨rfl, rfl, rfl, by decide +kernel, rfl, by decide +kernel, by decide +kernel⟩
theorem sc_checks : FnScope ["shape", "places", "groups", "_", "sums", "group", "place", "rows", "number"] ["shape"] (defScope s_checks) := ⟨rfl, rfl, rfl, by decide +kernel, rfl, by decide +kernel, by decide +kernel⟩
theorem sc__law_purse : FnScope ["script", "k", "cell"] ["script", "k"] (defScope s__law_purse) := ⟨rfl, rfl, rfl, by decide +kernel, rfl, by decide +kernel, by decide +kernel⟩
theorem sc__law_drawn : FnScope ["purse", "many", "found", "turn", "mixed"] ["purse", "many"] (defScope s__law_drawn) := ⟨rfl, rfl, rfl, by decide +kernel, rfl, by decide +kernel, by decide +kernel⟩
theorem sc__law_shape : FnScope ["purse", "most", "found", "groups", "size", "sums"] ["purse", "most"] (defScope s__law_shape) := ⟨rfl, rfl, rfl, by decide +kernel, rfl, by decide +kernel, by decide +kernel⟩
theorem sc__law_same : FnScope ["found", "due", "k"] ["found", "due"] (defScope s__law_same) := ⟨rfl, rfl, rfl, by decide +kernel, rfl, by decide +kernel, by decide +kernel⟩
theorem sc__law_checks : FnScope ["mould", "groups", "size", "sums", "many", "found", "group", "first", "place", "row", "number", "at", "sign"] ["mould"] (defScope s__law_checks) := ⟨rfl, rfl, rfl, by decide +kernel, rfl, by decide +kernel, by decide +kernel⟩
theorem sc_law : FnScope ["script", "k", "mould", "due", "found", "row", "sizes"] ["script"] (defScope s_law) := ⟨rfl, rfl, rfl, by decide +kernel, rfl, by decide +kernel, by decide +kernel⟩
def isInt : V → Bool
  | .int _ => true
  | _ => false
def betw (v : V) (lo hi : Int) : Bool := match v with
  | .int i => decide (lo ≤ i) && decide (i ≤ hi)
  | _ => false
theorem ty_isInt {K : PySem.W.Frag} {H : Hp} {v : V} {n : String} (h : Ty K H v n) : ((n == "int" || (n == "bool" && "int" == "int")) && !(n == "bool" || (n == "bool" && "bool" == "int"))) = isInt v := by
  cases h <;> rfl
def spWhole (K : PySem.W.Frag) : Sp := fun vs H Q _ => ∃ v n, vs = [v] ∧ Ty K H v n ∧ Q (.bl (isInt v)) H
def spBetw (K : PySem.W.Frag) : Sp := fun vs H Q _ => ∃ v n lo hi, vs = [v, .int lo, .int hi] ∧ Ty K H v n ∧ Q (.bl (betw v lo hi)) H
theorem ok_whole (T : Txt K mg) (F : At K mg "is_whole" s_is_whole ["thing"]) : Dn P w K mg base CX0 1 "is_whole" ["thing"] (spWhole K) := by
  refine F.ok sc_is_whole (fun vs H Q E h => ?_) (fun f cdv A outer s H vs Q E hr h => ?_)
  · obtain ⟨v, n, rfl, _⟩ := h
    rfl
  · obtain ⟨v, n, rfl, ty, q⟩ := h
    refine ⟨_, (pss_one (ps_ret (pe_and (pe_callB (r := rIsi K) call_isi (by rfl) T.n_isinstance (by decide +kernel) (pa_cons (pv 0) (pa_cons (pe_bltn (v := .ty "int") (u := .type "int") (by rfl) T.n_int (by decide +kernel) (by exact rfl)) pa_nil))) (pe_one (pe_not (pe_callB (r := rIsi K) call_isi (by rfl) T.n_isinstance (by decide +kernel) (pa_cons (pv 0) (pa_cons (pe_bltn (v := .ty "bool") (u := .type "bool") (by rfl) T.n_bool (by decide +kernel) (by exact rfl)) pa_nil)))))))), ?_⟩
    rw [← ty_isInt ty] at q
    refine ⟨_, rfl, _, _, _, _, _, rfl, .ty "int", ty.x, ty.kit "int", ?_⟩
    refine ⟨_, rfl, iteB (fun h => ?_) fun h => ?_⟩
    · rw [h, Bool.true_and] at q
      exact ⟨_, rfl, _, _, _, _, _, rfl, .ty "bool", ty.x, ty.kit "bool", _, rfl, q⟩
    · rw [h, Bool.false_and] at q
      exact q
theorem ok_between (D_is_whole : Dn P w K mg base CX0 1 "is_whole" ["thing"] (spWhole K)) (F : At K mg "is_between" s_is_between ["thing", "least", "most"]) : Dn P w K mg base CX0 2 "is_between" ["thing", "least", "most"] (spBetw K) := by
  refine F.ok sc_is_between (fun vs H Q E h => ?_) (fun f cdv A outer s H vs Q E hr h => ?_)
  · obtain ⟨v, n, lo, hi, rfl, _⟩ := h
    rfl
  · obtain ⟨v, n, lo, hi, rfl, ty, q⟩ := h
    refine ⟨_, (pss_one (ps_ret (pe_and (pe_callD D_is_whole (by first | exact hr | exact hr.mono (by decide)) (pa_cons (pv 0) pa_nil)) (pe_one (pe_chain op_le op_le (pv 1) (pv 0) (pv 2)))))), ?_⟩
    refine ⟨_, rfl, _, _, rfl, ty, _, rfl, iteB (fun h => ?_) fun h => ?_⟩
    · obtain ⟨i, rfl⟩ : ∃ i, v = .int i := by
        cases v with
        | int i => exact ⟨i, rfl⟩
        | _ => cases h
      refine ⟨_, rfl, _, rfl, _, _, rfl, rfl, _, rfl, iteD (fun h1 => ?_) fun h1 => ?_⟩
      · refine ⟨_, rfl, _, _, rfl, rfl, ?_⟩
        have q' : Q (.bl (decide (lo ≤ i) && decide (i ≤ hi))) H := q
        rw [decide_eq_true h1, Bool.true_and] at q'
        exact q'
      · have q' : Q (.bl (decide (lo ≤ i) && decide (i ≤ hi))) H := q
        rw [decide_eq_false h1, Bool.false_and] at q'
        exact q'
    · have e : betw v lo hi = false := by
        cases v with
        | int i => cases h
        | _ => rfl
      rw [e] at q
      exact q
def spPlus : Sp := fun vs H Q _ => ∃ a b : Int, vs = [.int a, .int b] ∧ Q (.int ((a + b) % 97)) H
def spMinus : Sp := fun vs H Q _ => ∃ a b : Int, vs = [.int a, .int b] ∧ Q (.int ((a - b) % 97)) H
def spTimes : Sp := fun vs H Q _ => ∃ a b : Int, vs = [.int a, .int b] ∧ Bd a ∧ Bd b ∧ Q (.int ((a * b) % 97)) H
def spPower : Sp := fun vs H Q _ => ∃ a n : Int, vs = [.int a, .int n] ∧ Bd a ∧ 0 ≤ n ∧ Q (.int (a ^ n.toNat % 97)) H
theorem ok_times (T : Txt K mg) (F : At K mg "times" s_times ["one", "other"]) : Dn P w K mg base CX0 1 "times" ["one", "other"] spTimes := by
  refine F.ok sc_times (fun vs H Q E h => ?_) (fun f cdv A outer s H vs Q E hr h => ?_)
  · obtain ⟨a, b, rfl, _⟩ := h
    rfl
  · obtain ⟨a, b, rfl, ha, hb, q⟩ := h
    refine ⟨_, (pss_one (ps_ret (pe_op op_mod (pe_op op_mulW (pv 0) (pv 1)) (pe_glob rfl T.g_PRIME (by exact T.v_PRIME))))), ?_⟩
    walk_at "rd"
    refine ⟨wide_mul (a := 250) (b := 250) ha hb (by decide) (by decide) (by decide), ?_⟩
    walk_at "rd"
    exact ⟨by show (0 : Int) < 97; decide, q⟩
theorem pow_step (pr sq : Int) (n : Nat) : (pr * sq % 97 * (sq * sq % 97) ^ n) % 97 = pr * sq ^ (2 * n + 1) % 97 := by
  rw [mod_ml, Int.mul_emod, mod_pw, ← Int.mul_emod, Int.mul_pow, Int.pow_succ, show 2 * n = n + n by omega, Int.pow_add]
  congr 1
  simp only [Int.mul_assoc, Int.mul_comm, Int.mul_left_comm]
theorem pow_step0 (pr sq : Int) (n : Nat) : (pr * (sq * sq % 97) ^ n) % 97 = pr * sq ^ (2 * n) % 97 := by
  rw [Int.mul_emod, mod_pw, ← Int.mul_emod, Int.mul_pow, show 2 * n = n + n by omega, Int.pow_add]
theorem ok_power (D_times : Dn P w K mg base CX0 1 "times" ["one", "other"] spTimes) (F : At K mg "power" s_power ["one", "many"]) : Dn P w K mg base CX0 2 "power" ["one", "many"] spPower := by
  refine F.ok sc_power (fun vs H Q E h => ?_) (fun f cdv A outer s H vs Q E hr h => ?_)
  · obtain ⟨a, b, rfl, _⟩ := h
    rfl
  · obtain ⟨a, n0, rfl, ha, hn, q⟩ := h
    refine ⟨_, (pss_cons (ps_set (i := 2) sc_power.nd rfl (by first | exact Or.inl rfl | exact Or.inr rfl) pe_int)
  (pss_cons (ps_set (i := 3) sc_power.nd rfl (by first | exact Or.inl rfl | exact Or.inr rfl) (pv 0))
  (pss_cons (ps_set (i := 4) sc_power.nd rfl (by first | exact Or.inl rfl | exact Or.inr rfl) (pv 1))
  (pss_cons (ps_while PassesOwn.never (pt_cmpR op_gt (pv 4) pe_int (nomark _))
  (pss_cons (ps_if (pt_cmpR op_eq (pe_op op_mod (pv 4) pe_int) pe_int (nomark _)) (pss_one (ps_set (i := 2) sc_power.nd rfl (by first | exact Or.inl rfl | exact Or.inr rfl) (pe_callD D_times (by first | exact hr | exact hr.mono (by decide)) (pa_cons (pv 2) (pa_cons (pv 3) pa_nil))))) pss_nil)
  (pss_cons (ps_set (i := 3) sc_power.nd rfl (by first | exact Or.inl rfl | exact Or.inr rfl) (pe_callD D_times (by first | exact hr | exact hr.mono (by decide)) (pa_cons (pv 3) (pa_cons (pv 3) pa_nil))))
  (pss_one (ps_set (i := 4) sc_power.nd rfl (by first | exact Or.inl rfl | exact Or.inr rfl) (pe_op op_fdiv (pv 4) pe_int))))))
  (pss_one (ps_ret (pv 2))))))), ?_⟩
    walk_at "rd"
    refine while_by (fun σ H' => ∃ pr sq n : Int, σ = [some (.int a), some (.int n0), some (.int pr), some (.int sq), some (.int n)] ∧ H' = H ∧ 0 ≤ pr ∧ pr < 97 ∧ Bd sq ∧ 0 ≤ n ∧ (pr * sq ^ n.toNat) % 97 = a ^ n0.toNat % 97)
      (fun σ _ => match σ with | [_, _, _, _, some (.int n)] => n.toNat | _ => 0) ⟨1, a, n0, rfl, rfl, by decide, by decide, ha, hn, by rw [Int.one_mul]⟩ ?_
      (fun σ H Q Q' m h => by
        obtain ⟨v, e1, i, j, e2, e3, k, e4, q⟩ := h
        exact ⟨v, e1, i, j, e2, e3, k, e4, m _ _ q⟩)
    rintro σ H' ⟨pr, sq, n, rfl, rfl, p0, p1, hs, hn0, e⟩
    have bp : Bd pr := by
      have h2 : 97 < 2 ^ 250 := by decide
      unfold Bd
      omega
    walk_at "rd"
    refine iteD (fun h => ?_) fun h => ?_
    · walk_at "rd"
      refine ⟨by show (0 : Int) < 2; decide, ?_⟩
      have hh : n / 2 ≥ 0 := by omega
      walk_at "rd"
      refine iteI (fun ho => ?_) fun ho => ?_
      · walk_at "rd"
        refine ⟨⟨by decide, by decide⟩, ⟨_, _, _, rfl, rfl, Int.emod_nonneg _ (by decide), Int.emod_lt_of_pos _ (by decide), Bd.mod _, hh, ?_⟩, ?_⟩
        · rw [pow_step, ← e]
          congr 3
          omega
        · show (n / 2).toNat < n.toNat
          omega
      · walk_at "rd"
        refine ⟨⟨by decide, by decide⟩, ⟨_, _, _, rfl, rfl, p0, p1, Bd.mod _, hh, ?_⟩, ?_⟩
        · rw [pow_step0, ← e]
          congr 3
          omega
        · show (n / 2).toNat < n.toNat
          omega
    · walk_at "rd"
      have en : n = 0 := by omega
      subst en
      have : pr = a ^ n0.toNat % 97 := by
        rw [← e]
        rw [show (0 : Int).toNat = 0 from rfl, Int.pow_zero, Int.mul_one]
        omega
      rw [this]
      exact q
def spOver : Sp := fun vs H Q _ => ∃ a b : Int, vs = [.int a, .int b] ∧ Bd a ∧ Bd b ∧ b % 97 ≠ 0 ∧ Q (.int (a * b ^ 95 % 97)) H
/-- a shape of g groups of s data places, m sums -/
def Mould (K : PySem.W.Frag) (H : Hp) (a : Addr) (g s m : Int) : Prop := SqT K H a [.int g, .int s, .int m] ∧ 1 ≤ g ∧ g ≤ 4 ∧ 1 ≤ s ∧ s ≤ 4 ∧ 0 ≤ m ∧ m ≤ 2
theorem Mould.same {K : PySem.W.Frag} {H H' : Hp} {a : Addr} {g s m : Int} (h : Mould K H a g s m) (e : Same H H') : Mould K H' a g s m := ⟨Same.sqt e h.1, h.2⟩
def manyZ (g s m : Int) : Int := g * (s + 1) + m
theorem many_le {g s m : Int} (g1 : 1 ≤ g) (g4 : g ≤ 4) (s1 : 1 ≤ s) (s4 : s ≤ 4) (m0 : 0 ≤ m) (m2 : m ≤ 2) : 2 ≤ manyZ g s m ∧ manyZ g s m ≤ 22 ∧ 2 ≤ g * (s + 1) ∧ g * (s + 1) ≤ 20 := by
  obtain rfl | rfl | rfl | rfl : g = 1 ∨ g = 2 ∨ g = 3 ∨ g = 4 := by omega
  all_goals (unfold manyZ; omega)
theorem Mould.le {K : PySem.W.Frag} {H : Hp} {a : Addr} {g s m : Int} (h : Mould K H a g s m) : 2 ≤ manyZ g s m ∧ manyZ g s m ≤ 22 ∧ 2 ≤ g * (s + 1) ∧ g * (s + 1) ≤ 20 := many_le h.2.1 h.2.2.1 h.2.2.2.1 h.2.2.2.2.1 h.2.2.2.2.2.1 h.2.2.2.2.2.2
theorem betw_t {i lo hi : Int} (h1 : lo ≤ i) (h2 : i ≤ hi) : betw (.int i) lo hi = true := by
  show (decide (lo ≤ i) && decide (i ≤ hi)) = true
  rw [decide_eq_true h1, decide_eq_true h2]; rfl
def spShape (K : PySem.W.Frag) : Sp := fun vs H Q _ => ∃ a g s m, vs = [.ref a] ∧ Mould K H a g s m ∧ Q (.bl true) H
theorem ok_is_shape (T : Txt K mg) (D_is_between : Dn P w K mg base CX0 2 "is_between" ["thing", "least", "most"] (spBetw K)) (F : At K mg "is_shape" s_is_shape ["thing"]) : Dn P w K mg base CX0 3 "is_shape" ["thing"] (spShape K) := by
  refine F.ok sc_is_shape (fun vs H Q E h => ?_) (fun f cdv A outer s H vs Q E hr h => ?_)
  · obtain ⟨a, g, s, m, rfl, _⟩ := h
    rfl
  · obtain ⟨a, g, z, m, rfl, M, q⟩ := h
    obtain ⟨ha, g1, g4, s1, s4, m0, m2⟩ := id M
    refine ⟨_, (pss_cons (ps_if (PW.pt (pw_or (pt_not (pt_val (pe_callB (r := rIsi K) call_isi (by rfl) T.n_isinstance (by decide +kernel) (pa_cons (pv 0) (pa_cons (pe_bltn (v := .ty "tuple") (u := .type "tuple") (by rfl) T.n_tuple (by decide +kernel) (by exact rfl)) pa_nil))))) (pw_or1 (pt_cmpR op_ne (pe_callB (r := rLen K) call_len (by rfl) T.n_len (by decide +kernel) (pa_cons (pv 0) pa_nil)) pe_int (nomark _))))) (pss_one (ps_ret pe_bl)) pss_nil)
  (pss_cons (ps_asg (pv 0) (pg_tup (by rfl) (pgs_cons (pg_name (i := 1) sc_is_shape.nd rfl (by first | exact Or.inl rfl | exact Or.inr rfl)) (pgs_cons (pg_name (i := 2) sc_is_shape.nd rfl (by first | exact Or.inl rfl | exact Or.inr rfl)) (pgs_cons (pg_name (i := 3) sc_is_shape.nd rfl (by first | exact Or.inl rfl | exact Or.inr rfl)) pgs_nil)))))
  (pss_one (ps_ret (pe_and (pe_callD D_is_between (by first | exact hr | exact hr.mono (by decide)) (pa_cons (pv 1) (pa_cons pe_int (pa_cons pe_int pa_nil)))) (pe_and (pe_callD D_is_between (by first | exact hr | exact hr.mono (by decide)) (pa_cons (pv 2) (pa_cons pe_int (pa_cons pe_int pa_nil)))) (pe_one (pe_callD D_is_between (by first | exact hr | exact hr.mono (by decide)) (pa_cons (pv 3) (pa_cons pe_int (pa_cons pe_int pa_nil))))))))))), ?_⟩
    have ty : Ty K H (.ref a) "tuple" := .tup ha
    refine ⟨_, rfl, _, _, _, _, _, rfl, .ty "tuple", ty.x, ty.kit "tuple", _, rfl, _, rfl, _, _, rfl, .inr ⟨_, ha, rfl⟩, rfl, _, rfl, iteIn (fun z => absurd rfl z) fun _ => ?_⟩
    refine ⟨_, rfl, _, _, rfl, ha, rfl, _, _, rfl, _, _, rfl, _, _, rfl, rfl, ?_⟩
    refine ⟨_, rfl, _, _, _, _, rfl, .int g, ?_⟩
    rw [betw_t g1 g4]
    refine ⟨_, rfl, _, rfl, _, _, _, _, rfl, .int z, ?_⟩
    rw [betw_t s1 s4]
    refine ⟨_, rfl, _, rfl, _, _, _, _, rfl, .int m, ?_⟩
    rw [betw_t m0 m2]
    exact q
def spChk (K : PySem.W.Frag) : Sp := fun vs H Q _ => ∃ a g s m, vs = [.ref a] ∧ Mould K H a g s m ∧ Q .non H
theorem ok_check_shape (D_is_shape : Dn P w K mg base CX0 3 "is_shape" ["thing"] (spShape K)) (F : At K mg "check_shape" s_check_shape ["shape"]) : Dn P w K mg base CX0 4 "check_shape" ["shape"] (spChk K) := by
  refine F.ok sc_check_shape (fun vs H Q E h => ?_) (fun f cdv A outer s H vs Q E hr h => ?_)
  · obtain ⟨a, g, s, m, rfl, _⟩ := h
    rfl
  · obtain ⟨a, g, z, m, rfl, M, q⟩ := h
    refine ⟨_, (pss_one (ps_if (pt_not (pt_val (pe_callD D_is_shape (by first | exact hr | exact hr.mono (by decide)) (pa_cons (pv 0) pa_nil)))) (pss_one ps_never) pss_nil)), ?_⟩
    exact ⟨_, rfl, a, g, z, m, rfl, M, _, rfl, q⟩
def spCount (K : PySem.W.Frag) : Sp := fun vs H Q _ => ∃ a g s m, vs = [.ref a] ∧ Mould K H a g s m ∧ Q (.int (manyZ g s m)) H
theorem ok_count (D_check_shape : Dn P w K mg base CX0 4 "check_shape" ["shape"] (spChk K)) {dv : V} (F : AtK K mg "count" s_count [] "shape" dv) : DnK P w K mg base CX0 5 "count" [] "shape" dv (spCount K) := by
  refine F.ok sc_count (fun vs H Q E h => ?_) (fun f cdv A outer s H vs Q E hr h => ?_)
  · obtain ⟨a, g, s, m, rfl, _⟩ := h
    rfl
  · obtain ⟨a, g, z, m, rfl, M, q⟩ := h
    obtain ⟨ha, g1, g4, s1, s4, m0, m2⟩ := id M
    refine ⟨_, (pss_cons (ps_expr (pe_callD D_check_shape (by first | exact hr | exact hr.mono (by decide)) (pa_cons (pv 0) pa_nil)))
  (pss_cons (ps_asg (pv 0) (pg_tup (by rfl) (pgs_cons (pg_name (i := 1) sc_count.nd rfl (by first | exact Or.inl rfl | exact Or.inr rfl)) (pgs_cons (pg_name (i := 2) sc_count.nd rfl (by first | exact Or.inl rfl | exact Or.inr rfl)) (pgs_cons (pg_name (i := 3) sc_count.nd rfl (by first | exact Or.inl rfl | exact Or.inr rfl)) pgs_nil)))))
  (pss_one (ps_ret (pe_op op_add (pe_op op_mul (pv 1) (pe_op op_add (pv 2) pe_int)) (pv 3)))))), ?_⟩
    refine ⟨_, rfl, a, g, z, m, rfl, M, ?_⟩
    refine ⟨_, rfl, _, _, rfl, ha, rfl, _, _, rfl, _, _, rfl, _, _, rfl, rfl, ?_⟩
    exact ⟨_, rfl, _, rfl, _, _, rfl, rfl, _, _, rfl, rfl, .inl ⟨by omega, by omega⟩, _, rfl, _, _, rfl, rfl, q⟩
def spPlace (K : PySem.W.Frag) : Sp := fun vs H Q _ => ∃ (v : V) (n : String) (a : Addr) (g s m : Int), vs = [v, .ref a] ∧ Ty K H v n ∧ Mould K H a g s m ∧ Q (.bl (betw v 0 (manyZ g s m - 1))) H
theorem ok_is_place (D_is_between : Dn P w K mg base CX0 2 "is_between" ["thing", "least", "most"] (spBetw K)) {dv : V} (D_count : DnK P w K mg base CX0 5 "count" [] "shape" dv (spCount K)) (F : AtK K mg "is_place" s_is_place ["thing"] "shape" dv) : DnK P w K mg base CX0 6 "is_place" ["thing"] "shape" dv (spPlace K) := by
  refine F.ok sc_is_place (fun vs H Q E h => ?_) (fun f cdv A outer s H vs Q E hr h => ?_)
  · obtain ⟨v, n, a, g, s, m, rfl, _⟩ := h
    rfl
  · obtain ⟨v, n, a, g, z, m, rfl, ty, M, q⟩ := h
    refine ⟨_, (pss_one (ps_ret (pe_callD D_is_between (by first | exact hr | exact hr.mono (by decide)) (pa_cons (pv 0) (pa_cons pe_int (pa_cons (pe_op op_sub (pe_callW0 D_count (by first | exact hr | exact hr.mono (by decide)) (pv 1)) pe_int) pa_nil)))))), ?_⟩
    refine ⟨_, rfl, _, rfl, rfl, a, g, z, m, rfl, M, _, _, rfl, rfl, ?_⟩
    exact ⟨v, n, _, _, rfl, ty, q⟩
def spChkP (K : PySem.W.Frag) : Sp := fun vs H Q _ => ∃ (p : Int) (a : Addr) (g s m : Int), vs = [.int p, .ref a] ∧ Mould K H a g s m ∧ 0 ≤ p ∧ p < manyZ g s m ∧ Q .non H
theorem ok_check_place {dv : V} (D_is_place : DnK P w K mg base CX0 6 "is_place" ["thing"] "shape" dv (spPlace K)) (F : At K mg "check_place" s_check_place ["thing", "shape"]) : Dn P w K mg base CX0 7 "check_place" ["thing", "shape"] (spChkP K) := by
  refine F.ok sc_check_place (fun vs H Q E h => ?_) (fun f cdv A outer s H vs Q E hr h => ?_)
  · obtain ⟨p, a, g, s, m, rfl, _⟩ := h
    rfl
  · obtain ⟨p, a, g, z, m, rfl, M, p0, p1, q⟩ := h
    refine ⟨_, (pss_one (ps_if (pt_not (pt_val (pe_callW D_is_place (by first | exact hr | exact hr.mono (by decide)) (pa_cons (pv 0) pa_nil) (pv 1)))) (pss_one ps_never) pss_nil)), ?_⟩
    refine ⟨_, rfl, _, rfl, rfl, rfl, .int p, "int", a, g, z, m, rfl, .int p, M, ?_⟩
    rw [betw_t p0 (by omega)]
    exact ⟨_, rfl, q⟩
/-- what a place is -/
def kindV (g s p : Int) : List V := if p / (s + 1) ≥ g then [.str "over", .int (p - g * (s + 1) + 1)] else if p % (s + 1) = s then [.str "local", .int (p / (s + 1))] else [.str "data", .int (p / (s + 1)), .int (p % (s + 1))]
def spKind (K : PySem.W.Frag) : Sp := fun vs H Q _ => ∃ (p : Int) (a : Addr) (g s m : Int), vs = [.int p, .ref a] ∧ Mould K H a g s m ∧ 0 ≤ p ∧ p < manyZ g s m ∧ ∀ r H', Same H H' → H' r = some (.tup (kindV g s p)) → Q (.ref r) H'
theorem ok_kind_of (T : Txt K mg) (D_check_place : Dn P w K mg base CX0 7 "check_place" ["thing", "shape"] (spChkP K)) {dv : V} (F : AtK K mg "kind_of" s_kind_of ["place"] "shape" dv) : DnK P w K mg base CX0 8 "kind_of" ["place"] "shape" dv (spKind K) := by
  refine F.ok sc_kind_of (fun vs H Q E h => ?_) (fun f cdv A outer s H vs Q E hr h => ?_)
  · obtain ⟨p, a, g, s, m, rfl, _⟩ := h
    rfl
  · obtain ⟨p, a, g, z, m, rfl, M, p0, p1, q⟩ := h
    obtain ⟨ha, g1, g4, s1, s4, m0, m2⟩ := id M
    refine ⟨_, (pss_cons (ps_expr (pe_callD D_check_place (by first | exact hr | exact hr.mono (by decide)) (pa_cons (pv 0) (pa_cons (pv 1) pa_nil))))
  (pss_cons (ps_asg (pv 1) (pg_tup (by rfl) (pgs_cons (pg_name (i := 2) sc_kind_of.nd rfl (by first | exact Or.inl rfl | exact Or.inr rfl)) (pgs_cons (pg_name (i := 3) sc_kind_of.nd rfl (by first | exact Or.inl rfl | exact Or.inr rfl)) (pgs_cons (pg_name (i := 4) sc_kind_of.nd rfl (by first | exact Or.inl rfl | exact Or.inr rfl)) pgs_nil)))))
  (pss_cons (ps_asg (pe_callB call_divmod (by rfl) T.n_divmod (by decide +kernel) (pa_cons (pv 0) (pa_cons (pe_op op_add (pv 3) pe_int) pa_nil))) (pg_tup (by rfl) (pgs_cons (pg_name (i := 5) sc_kind_of.nd rfl (by first | exact Or.inl rfl | exact Or.inr rfl)) (pgs_cons (pg_name (i := 6) sc_kind_of.nd rfl (by first | exact Or.inl rfl | exact Or.inr rfl)) pgs_nil))))
  (pss_cons (ps_if (pt_cmpR op_ge (pv 5) (pv 2) (nomark _)) (pss_one (ps_ret (pe_tup (pa_cons pe_str (pa_cons (pe_op op_add (pe_op op_sub (pv 0) (pe_op op_mul (pv 2) (pe_op op_add (pv 3) pe_int))) pe_int) pa_nil))))) pss_nil)
  (pss_cons (ps_if (pt_cmpR op_eq (pv 6) (pv 3) (nomark _)) (pss_one (ps_ret (pe_tup (pa_cons pe_str (pa_cons (pv 5) pa_nil))))) pss_nil)
  (pss_one (ps_ret (pe_tup (pa_cons pe_str (pa_cons (pv 5) (pa_cons (pv 6) pa_nil))))))))))), ?_⟩
    refine ⟨_, rfl, _, rfl, p, a, g, z, m, rfl, M, p0, p1, ?_⟩
    refine ⟨_, rfl, _, _, rfl, ha, rfl, _, _, rfl, _, _, rfl, _, _, rfl, rfl, ?_⟩
    refine ⟨_, rfl, _, rfl, _, _, rfl, rfl, _, _, rfl, ⟨?_, ?_⟩, fun r nr => ?_⟩
    · omega
    · omega
    have s1' := Same.new (o := .tup [.int (p / (z + 1)), .int (p % (z + 1))]) nr
    refine ⟨_, _, rfl, SqT.of upd_same, rfl, _, _, rfl, _, _, rfl, rfl, ?_⟩
    refine ⟨_, rfl, _, rfl, _, _, rfl, rfl, _, rfl, iteD (fun h1 => ?_) fun h1 => ?_⟩
    · have e : kindV g z p = [.str "over", .int (p - g * (z + 1) + 1)] := if_pos h1
      refine ⟨_, rfl, _, rfl, _, rfl, _, _, rfl, rfl, _, _, rfl, rfl, .inl ⟨by omega, by omega⟩, _, _, rfl, rfl, _, _, rfl, rfl, (by show 2 ≤ sizeLine; decide), fun t nt => ?_⟩
      exact q t _ (Same.trans s1' (Same.new nt)) (by rw [e]; exact upd_same)
    refine ⟨_, rfl, _, rfl, rfl, _, rfl, iteI (fun h2 => ?_) fun h2 => ?_⟩
    · have e : kindV g z p = [.str "local", .int (p / (z + 1))] := by unfold kindV; rw [if_neg h1, if_pos h2]
      refine ⟨_, rfl, (by show 2 ≤ sizeLine; decide), fun t nt => ?_⟩
      exact q t _ (Same.trans s1' (Same.new nt)) (by rw [e]; exact upd_same)
    · have e : kindV g z p = [.str "data", .int (p / (z + 1)), .int (p % (z + 1))] := by unfold kindV; rw [if_neg h1, if_neg h2]
      refine ⟨_, rfl, _, rfl, (by show 3 ≤ sizeLine; decide), fun t nt => ?_⟩
      exact q t _ (Same.trans s1' (Same.new nt)) (by rw [e]; exact upd_same)
theorem eqK2 (u v : Str) (a b : Int) : PyData.eqv (.tuple [.str u, .int a]) (.tuple [.str v, .int b]) = (u == v && a == b) := by
  simp [PyData.eqv, PyData.eqvAll]
theorem eqK3 (u v : Str) (a b c : Int) : PyData.eqv (.tuple [.str u, .int a, .int c]) (.tuple [.str v, .int b]) = false := by
  simp [PyData.eqv, PyData.eqvAll]
theorem shKo (a : Int) : SeqAt.shaped (.tuple [.str "over", .int a]) = true := by
  simp only [SeqAt.shaped, PyData.canLay0, PyData.canLayAll0, PyData.depth, PyData.depthAll]
  have h1 : PyData.strOk (Str.ofString "over") = true := by decide +kernel
  rw [h1]
  rfl
theorem shKl (a : Int) : SeqAt.shaped (.tuple [.str "local", .int a]) = true := by
  simp only [SeqAt.shaped, PyData.canLay0, PyData.canLayAll0, PyData.depth, PyData.depthAll]
  have h1 : PyData.strOk (Str.ofString "local") = true := by decide +kernel
  rw [h1]
  rfl
theorem shKd (a b : Int) : SeqAt.shaped (.tuple [.str "data", .int a, .int b]) = true := by
  simp only [SeqAt.shaped, PyData.canLay0, PyData.canLayAll0, PyData.depth, PyData.depthAll]
  have h1 : PyData.strOk (Str.ofString "data") = true := by decide +kernel
  rw [h1]
  rfl
def markZ (s p : Int) : Int := ([1, 11, 40, 30] : List Int).getD (p / (s + 1)).toNat 0 + p % (s + 1)
/-- a data place -/
def isData (g s p : Int) : Bool := decide (p / (s + 1) < g) && decide (p % (s + 1) ≠ s)
theorem kind_data {g s p : Int} (h : isData g s p = true) : kindV g s p = [.str "data", .int (p / (s + 1)), .int (p % (s + 1))] := by
  unfold isData at h
  simp only [Bool.and_eq_true, decide_eq_true_eq] at h
  unfold kindV
  rw [if_neg (by omega), if_neg h.2]
def localZ (g s p gr : Int) : Int := if p / (s + 1) ≥ g then 0 else if p / (s + 1) = gr then (if p % (s + 1) = s then 96 else 1) else 0
def overZ (g s p n : Int) : Int := if p / (s + 1) ≥ g then (if p - g * (s + 1) + 1 = n then 96 else 0) else if p % (s + 1) = s then 0 else markZ s p ^ n.toNat % 97
def spMark (K : PySem.W.Frag) : Sp := fun vs H Q _ => ∃ (p : Int) (a : Addr) (g s m : Int), vs = [.int p, .ref a] ∧ Mould K H a g s m ∧ 0 ≤ p ∧ p < manyZ g s m ∧ isData g s p = true ∧ ∀ H', Same H H' → Q (.int (markZ s p)) H'
theorem ok_mark (T : Txt K mg) {dv : V} (D_kind_of : DnK P w K mg base CX0 8 "kind_of" ["place"] "shape" dv (spKind K)) (F : AtK K mg "mark" s_mark ["place"] "shape" dv) : DnK P w K mg base CX0 9 "mark" ["place"] "shape" dv (spMark K) := by
  refine F.ok sc_mark (fun vs H Q E h => ?_) (fun f cdv A outer s H vs Q E hr h => ?_)
  · obtain ⟨p, a, g, s, m, rfl, _⟩ := h
    rfl
  · obtain ⟨p, a, g, z, m, rfl, M, p0, p1, hd, q⟩ := h
    obtain ⟨ha, g1, g4, s1, s4, m0, m2⟩ := id M
    refine ⟨_, (pss_cons (ps_set (i := 2) sc_mark.nd rfl (by first | exact Or.inl rfl | exact Or.inr rfl) (pe_callW D_kind_of (by first | exact hr | exact hr.mono (by decide)) (pa_cons (pv 0) pa_nil) (pv 1)))
  (pss_cons (ps_if (pt_cmpR op_ne (pe_ix (r := rIxT K) ix_tup (pv 2) pe_int (fun _ _ => rfl)) pe_str (nomark _)) (pss_one ps_never) pss_nil)
  (pss_one (ps_ret (pe_op op_add (pe_ix (r := rIxT K) ix_tup (pe_glob (v := .ref (He.ga K "MARKS")) rfl T.g_MARKS (by exact rfl)) (pe_ix (r := rIxT K) ix_tup (pv 2) pe_int (fun _ _ => rfl)) (fun _ _ => rfl)) (pe_ix (r := rIxT K) ix_tup (pv 2) pe_int (fun _ _ => rfl))))))), ?_⟩
    refine ⟨_, rfl, _, rfl, rfl, rfl, p, a, g, z, m, rfl, M, p0, p1, fun r H1 s1' er => ?_⟩
    rw [kind_data hd] at er
    refine ⟨_, rfl, _, _, _, _, rfl, rfl, SqT.of er, rfl, rfl, _, rfl, iteDn (fun z => absurd rfl z) fun _ => ?_⟩
    unfold isData at hd
    simp only [Bool.and_eq_true, decide_eq_true_eq] at hd
    have k0 : 0 ≤ p / (z + 1) := Int.ediv_nonneg p0 (by omega)
    have hm : atI ([.int 1, .int 11, .int 40, .int 30] : List V) (p / (z + 1)) = some (.int (([1, 11, 40, 30] : List Int).getD (p / (z + 1)).toNat 0)) := by
      obtain h | h | h | h : p / (z + 1) = 0 ∨ p / (z + 1) = 1 ∨ p / (z + 1) = 2 ∨ p / (z + 1) = 3 := by omega
      all_goals (rw [h]; rfl)
    refine ⟨_, rfl, _, _, _, _, rfl, rfl, SqT.of er, rfl, _, _, _, _, rfl, rfl, T.q_MARKS _, hm, ?_⟩
    exact ⟨_, rfl, _, _, _, _, rfl, rfl, SqT.of er, rfl, _, _, rfl, rfl, q _ s1'⟩
def spLocal (K : PySem.W.Frag) : Sp := fun vs H Q _ => ∃ (p gr : Int) (a : Addr) (g s m : Int), vs = [.int p, .int gr, .ref a] ∧ Mould K H a g s m ∧ 0 ≤ p ∧ p < manyZ g s m ∧ ∀ H', Same H H' → Q (.int (localZ g s p gr)) H'
theorem ok_local (T : Txt K mg) {dv : V} (D_kind_of : DnK P w K mg base CX0 8 "kind_of" ["place"] "shape" dv (spKind K)) (F : At K mg "local_factor" s_local_factor ["place", "group", "shape"]) : Dn P w K mg base CX0 9 "local_factor" ["place", "group", "shape"] (spLocal K) := by
  refine F.ok sc_local_factor (fun vs H Q E h => ?_) (fun f cdv A outer s H vs Q E hr h => ?_)
  · obtain ⟨p, gr, a, g, s, m, rfl, _⟩ := h
    rfl
  · obtain ⟨p, gr, a, g, z, m, rfl, M, p0, p1, q⟩ := h
    refine ⟨_, (pss_cons (ps_set (i := 3) sc_local_factor.nd rfl (by first | exact Or.inl rfl | exact Or.inr rfl) (pe_callW D_kind_of (by first | exact hr | exact hr.mono (by decide)) (pa_cons (pv 0) pa_nil) (pv 2)))
  (pss_cons (ps_if (pt_cmpR (r := rEqD K) (op_eqD hr.units) (pv 3) (pe_tup (pa_cons pe_str (pa_cons (pv 1) pa_nil))) (nomark _)) (pss_one (ps_ret (pe_op op_sub (pe_glob rfl T.g_PRIME (by exact T.v_PRIME)) pe_int))) pss_nil)
  (pss_cons (ps_if (PW.pt (pw_and (pt_cmpR op_eq (pe_ix (r := rIxT K) ix_tup (pv 3) pe_int (fun _ _ => rfl)) pe_str (nomark _)) (pw_and1 (pt_cmpR op_eq (pe_ix (r := rIxT K) ix_tup (pv 3) pe_int (fun _ _ => rfl)) (pv 1) (nomark _))))) (pss_one (ps_ret pe_int)) pss_nil)
  (pss_one (ps_ret pe_int))))), ?_⟩
    refine ⟨_, rfl, _, rfl, rfl, rfl, p, a, g, z, m, rfl, M, p0, p1, fun r H1 s1' er => ?_⟩
    refine ⟨_, rfl, _, rfl, (by show 2 ≤ sizeLine; decide), fun t nt => ?_⟩
    have s2 := Same.trans s1' (Same.new (o := .tup [.str "local", .int gr]) nt)
    have er2 : upd H1 t (.tup [.str "local", .int gr]) r = some (.tup (kindV g z p)) := old er nt
    have et2 : upd H1 t (.tup [.str "local", .int gr]) t = some (.tup [.str "local", .int gr]) := upd_same
    generalize upd H1 t (.tup [.str "local", .int gr]) = H2 at *
    unfold kindV at er2
    unfold localZ at q
    by_cases h1 : p / (z + 1) ≥ g
    · rw [if_pos h1] at er2 q
      refine ⟨_, _, .tup (SqT.of er2) (.cons (.str _) (.cons (.int _) .nil)), .tup (SqT.of et2) (.cons (.str _) (.cons (.int _) .nil)), shKo _, shKl _, ?_⟩
      rw [eqK2]
      refine ⟨_, rfl, ?_⟩
      refine ⟨_, rfl, _, _, _, _, rfl, rfl, SqT.of er2, rfl, rfl, _, rfl, iteD (fun z => absurd z (by decide)) fun _ => ?_⟩
      exact q _ s2
    rw [if_neg h1] at er2 q
    by_cases h2 : p % (z + 1) = z
    · rw [if_pos h2] at er2 q
      refine ⟨_, _, .tup (SqT.of er2) (.cons (.str _) (.cons (.int _) .nil)), .tup (SqT.of et2) (.cons (.str _) (.cons (.int _) .nil)), shKl _, shKl _, ?_⟩
      rw [eqK2]
      by_cases h3 : p / (z + 1) = gr
      · rw [if_pos h3] at q
        refine ⟨_, rfl, ?_⟩
        rw [show (Str.ofString "local" == Str.ofString "local" && p / (z + 1) == gr) = true by rw [h3]; simp]
        refine iteT ⟨_, _, rfl, rfl, ?_⟩
        exact q _ s2
      · rw [if_neg h3] at q
        refine ⟨_, rfl, ?_⟩
        rw [show (Str.ofString "local" == Str.ofString "local" && p / (z + 1) == gr) = false by simp [h3]]
        refine iteF ⟨_, rfl, _, _, _, _, rfl, rfl, SqT.of er2, rfl, rfl, _, rfl, iteD (fun z => absurd z (by decide)) fun _ => ?_⟩
        exact q _ s2
    · rw [if_neg h2] at er2
      refine ⟨_, _, .tup (SqT.of er2) (.cons (.str _) (.cons (.int _) (.cons (.int _) .nil))), .tup (SqT.of et2) (.cons (.str _) (.cons (.int _) .nil)), shKd _ _, shKl _, ?_⟩
      rw [eqK3]
      refine ⟨_, rfl, ?_⟩
      refine ⟨_, rfl, _, _, _, _, rfl, rfl, SqT.of er2, rfl, rfl, _, rfl, iteD (fun _ => ?_) fun z => absurd rfl z⟩
      refine ⟨_, rfl, _, _, _, _, rfl, rfl, SqT.of er2, rfl, _, rfl, rfl, _, rfl, iteI (fun h3 => ?_) fun h3 => ?_⟩
      · rw [if_pos h3, if_neg h2] at q
        exact q _ s2
      · rw [if_neg h3] at q
        exact q _ s2
def spOverF (K : PySem.W.Frag) : Sp := fun vs H Q _ => ∃ (p n : Int) (a : Addr) (g s m : Int), vs = [.int p, .int n, .ref a] ∧ Mould K H a g s m ∧ 0 ≤ p ∧ p < manyZ g s m ∧ 0 ≤ n ∧ ∀ H', Same H H' → Q (.int (overZ g s p n)) H'
theorem ok_over_factor (T : Txt K mg) {dv : V} (D_power : Dn P w K mg base CX0 2 "power" ["one", "many"] spPower) (D_kind_of : DnK P w K mg base CX0 8 "kind_of" ["place"] "shape" dv (spKind K)) (D_mark : DnK P w K mg base CX0 9 "mark" ["place"] "shape" dv (spMark K)) (F : At K mg "over_factor" s_over_factor ["place", "number", "shape"]) : Dn P w K mg base CX0 10 "over_factor" ["place", "number", "shape"] (spOverF K) := by
  refine F.ok sc_over_factor (fun vs H Q E h => ?_) (fun f cdv A outer s H vs Q E hr h => ?_)
  · obtain ⟨p, n, a, g, s, m, rfl, _⟩ := h
    rfl
  · obtain ⟨p, gr, a, g, z, m, rfl, M, p0, p1, n0, q⟩ := h
    obtain ⟨ha, g1, g4, s1, s4, m0, m2⟩ := id M
    refine ⟨_, (pss_cons (ps_set (i := 3) sc_over_factor.nd rfl (by first | exact Or.inl rfl | exact Or.inr rfl) (pe_callW D_kind_of (by first | exact hr | exact hr.mono (by decide)) (pa_cons (pv 0) pa_nil) (pv 2)))
  (pss_cons (ps_if (pt_cmpR (r := rEqD K) (op_eqD hr.units) (pv 3) (pe_tup (pa_cons pe_str (pa_cons (pv 1) pa_nil))) (nomark _)) (pss_one (ps_ret (pe_op op_sub (pe_glob rfl T.g_PRIME (by exact T.v_PRIME)) pe_int))) pss_nil)
  (pss_cons (ps_if (pt_cmpR op_eq (pe_ix (r := rIxT K) ix_tup (pv 3) pe_int (fun _ _ => rfl)) pe_str (nomark _)) (pss_one (ps_ret (pe_callD D_power (by first | exact hr | exact hr.mono (by decide)) (pa_cons (pe_callW D_mark (by first | exact hr | exact hr.mono (by decide)) (pa_cons (pv 0) pa_nil) (pv 2)) (pa_cons (pv 1) pa_nil))))) pss_nil)
  (pss_one (ps_ret pe_int))))), ?_⟩
    refine ⟨_, rfl, _, rfl, rfl, rfl, p, a, g, z, m, rfl, M, p0, p1, fun r H1 s1' er => ?_⟩
    refine ⟨_, rfl, _, rfl, (by show 2 ≤ sizeLine; decide), fun t nt => ?_⟩
    have s2 := Same.trans s1' (Same.new (o := .tup [.str "over", .int gr]) nt)
    have er2 : upd H1 t (.tup [.str "over", .int gr]) r = some (.tup (kindV g z p)) := old er nt
    have et2 : upd H1 t (.tup [.str "over", .int gr]) t = some (.tup [.str "over", .int gr]) := upd_same
    generalize upd H1 t (.tup [.str "over", .int gr]) = H2 at *
    unfold kindV at er2
    unfold overZ at q
    by_cases h1 : p / (z + 1) ≥ g
    · rw [if_pos h1] at er2 q
      refine ⟨_, _, .tup (SqT.of er2) (.cons (.str _) (.cons (.int _) .nil)), .tup (SqT.of et2) (.cons (.str _) (.cons (.int _) .nil)), shKo _, shKo _, ?_⟩
      rw [eqK2]
      by_cases h3 : p - g * (z + 1) + 1 = gr
      · rw [if_pos h3] at q
        refine ⟨_, rfl, ?_⟩
        rw [show (Str.ofString "over" == Str.ofString "over" && p - g * (z + 1) + 1 == gr) = true by rw [h3]; simp]
        refine iteT ⟨_, _, rfl, rfl, ?_⟩
        exact q _ s2
      · rw [if_neg h3] at q
        refine ⟨_, rfl, ?_⟩
        rw [show (Str.ofString "over" == Str.ofString "over" && p - g * (z + 1) + 1 == gr) = false by simp [h3]]
        refine iteF ⟨_, rfl, _, _, _, _, rfl, rfl, SqT.of er2, rfl, rfl, _, rfl, iteD (fun z => absurd z (by decide)) fun _ => ?_⟩
        exact q _ s2
    rw [if_neg h1] at er2 q
    by_cases h2 : p % (z + 1) = z
    · rw [if_pos h2] at er2 q
      refine ⟨_, _, .tup (SqT.of er2) (.cons (.str _) (.cons (.int _) .nil)), .tup (SqT.of et2) (.cons (.str _) (.cons (.int _) .nil)), shKl _, shKo _, ?_⟩
      rw [eqK2]
      refine ⟨_, rfl, ?_⟩
      refine ⟨_, rfl, _, _, _, _, rfl, rfl, SqT.of er2, rfl, rfl, _, rfl, iteD (fun z => absurd z (by decide)) fun _ => ?_⟩
      exact q _ s2
    · rw [if_neg h2] at er2 q
      refine ⟨_, _, .tup (SqT.of er2) (.cons (.str _) (.cons (.int _) (.cons (.int _) .nil))), .tup (SqT.of et2) (.cons (.str _) (.cons (.int _) .nil)), shKd _ _, shKo _, ?_⟩
      rw [eqK3]
      refine ⟨_, rfl, ?_⟩
      refine ⟨_, rfl, _, _, _, _, rfl, rfl, SqT.of er2, rfl, rfl, _, rfl, iteD (fun _ => ?_) fun z => absurd rfl z⟩
      have hd : isData g z p = true := by
        unfold isData
        rw [decide_eq_true (by omega), decide_eq_true h2]
        rfl
      refine ⟨_, rfl, _, rfl, rfl, rfl, p, a, g, z, m, rfl, M.same s2, p0, p1, hd, fun H3 s3 => ?_⟩
      refine ⟨_, rfl, _, _, rfl, ?_, n0, q _ (Same.trans s2 s3)⟩
      have k0 : 0 ≤ p % (z + 1) := Int.emod_nonneg _ (by omega)
      have k1 : p % (z + 1) < z + 1 := Int.emod_lt_of_pos _ (by omega)
      have k2 : ∀ i : Nat, 0 ≤ ([1, 11, 40, 30] : List Int).getD i 0 ∧ ([1, 11, 40, 30] : List Int).getD i 0 ≤ 40
        | 0 | 1 | 2 | 3 => by decide
        | n + 4 => ⟨Int.le_refl 0, by show (0 : Int) ≤ 40; decide⟩
      have := k2 (p / (z + 1)).toNat
      have h9 : 100 < 2 ^ 250 := by decide
      unfold Bd markZ
      omega
/-- a list of lists of ints, each a list of its own -/
structure Mat (H : Hp) (r : Addr) (as : List Addr) (rows : List (List Int)) : Prop where
  hd : H r = some (.lst (as.map V.ref))
  nd : (r :: as).Nodup
  len : as.length = rows.length
  get : ∀ (i : Nat) (a : Addr) (row : List Int), as[i]? = some a → rows[i]? = some row → H a = some (.lst (row.map V.int))
theorem Mat.nil {H : Hp} {r : Addr} (h : H r = some (.lst [])) : Mat H r [] [] := ⟨h, by simp, rfl, fun i a row e => by simp at e⟩
theorem Mat.in {H : Hp} {r : Addr} {as : List Addr} {rows : List (List Int)} (M : Mat H r as rows) {a : Addr} (h : a ∈ as) : ∃ o, H a = some o := by
  obtain ⟨i, hi, e⟩ := List.mem_iff_getElem.mp h
  have hi2 : i < rows.length := by rw [← M.len]; exact hi
  exact ⟨_, M.get i a rows[i] (by rw [List.getElem?_eq_getElem hi, e]) (by rw [List.getElem?_eq_getElem hi2])⟩
theorem Mat.same {H H' : Hp} {r : Addr} {as : List Addr} {rows : List (List Int)} (M : Mat H r as rows) (s : Same H H') : Mat H' r as rows := ⟨s _ _ M.hd, M.nd, M.len, fun i a row e1 e2 => s _ _ (M.get i a row e1 e2)⟩
theorem Mat.snoc {H H4 : Hp} {r d : Addr} {as : List Addr} {rows : List (List Int)} {row : List Int} (M : Mat H r as rows) (s : Same H H4) (nd : H d = none) (ed : H4 d = some (.lst (row.map V.int))) :
    Mat (upd H4 r (.lst (as.map V.ref ++ [V.ref d]))) r (as ++ [d]) (rows ++ [row]) := by
  have dr : d ≠ r := fun e => by rw [e] at nd; rw [M.hd] at nd; cases nd
  have da : d ∉ as := fun h => by obtain ⟨o, e⟩ := M.in h; rw [nd] at e; cases e
  have hn := List.nodup_cons.mp M.nd
  refine ⟨by rw [upd_same, List.map_append]; rfl, ?_, by rw [List.length_append, List.length_append, M.len]; rfl, fun i a rw' e1 e2 => ?_⟩
  · refine List.nodup_cons.mpr ⟨fun h => ?_, ?_⟩
    · rcases List.mem_append.mp h with h | h
      · exact hn.1 h
      · exact dr (List.mem_singleton.mp h).symm
    · refine List.nodup_append.mpr ⟨hn.2, by simp, fun x hx y hy e => ?_⟩
      rw [List.mem_singleton.mp hy] at e
      exact da (e ▸ hx)
  · by_cases hi : i < as.length
    · rw [List.getElem?_append_left hi] at e1
      rw [List.getElem?_append_left (by rw [← M.len]; exact hi)] at e2
      have ha : a ∈ as := List.mem_of_getElem? e1
      have : a ≠ r := fun e => hn.1 (e ▸ ha)
      rw [upd_ne this]
      exact s _ _ (M.get i a rw' e1 e2)
    · have hi' : as.length ≤ i := by omega
      rw [List.getElem?_append_right hi'] at e1
      rw [List.getElem?_append_right (by rw [← M.len]; exact hi'), ← M.len] at e2
      have i0 : i - as.length = 0 := by
        cases h : i - as.length with
        | zero => rfl
        | succ n => rw [h] at e1; simp at e1
      rw [i0] at e1 e2
      simp at e1 e2
      rw [← e1, ← e2, upd_ne dr]
      exact ed
def rowL (g s m : Int) (i : Nat) : List Int := (List.range (manyZ g s m).toNat).map fun (p : Nat) => localZ g s p i
def rowO (g s m : Int) (n : Nat) : List Int := (List.range (manyZ g s m).toNat).map fun (p : Nat) => overZ g s p (1 + n)
def checksM (g s m : Int) : List (List Int) := (List.range g.toNat).map (rowL g s m) ++ (List.range m.toNat).map (rowO g s m)
def spChecks (K : PySem.W.Frag) : Sp := fun vs H Q _ => ∃ (a : Addr) (g s m : Int), vs = [.ref a] ∧ Mould K H a g s m ∧ ∀ r as H', Same H H' → Mat H' r as (checksM g s m) → (∀ b ∈ r :: as, H b = none) → Q (.ref r) H'
theorem ok_checks (T : Txt K mg) {dv : V} (D_count : DnK P w K mg base CX0 5 "count" [] "shape" dv (spCount K)) (D_local_factor : Dn P w K mg base CX0 9 "local_factor" ["place", "group", "shape"] (spLocal K)) (D_over_factor : Dn P w K mg base CX0 10 "over_factor" ["place", "number", "shape"] (spOverF K)) (F : AtK K mg "checks" s_checks [] "shape" dv) : DnK P w K mg base CX0 11 "checks" [] "shape" dv (spChecks K) := by
  refine F.ok sc_checks (fun vs H Q E h => ?_) (fun f cdv A outer s H vs Q E hr h => ?_)
  · obtain ⟨a, g, s, m, rfl, _⟩ := h
    rfl
  · obtain ⟨a, g, z, m, rfl, M, q⟩ := h
    obtain ⟨ha, g1, g4, s1, s4, m0, m2⟩ := id M
    obtain ⟨l1, l2, l3, l4⟩ := M.le
    refine ⟨_, (pss_cons (ps_set (i := 1) sc_checks.nd rfl (by first | exact Or.inl rfl | exact Or.inr rfl) (pe_callTy cr_range1 (by rfl) T.n_range (by decide +kernel) (pa_cons (pe_callW0 D_count (by first | exact hr | exact hr.mono (by decide)) (pv 0)) pa_nil)))
  (pss_cons (ps_asg (pv 0) (pg_tup (by rfl) (pgs_cons (pg_name (i := 2) sc_checks.nd rfl (by first | exact Or.inl rfl | exact Or.inr rfl)) (pgs_cons (pg_name (i := 3) sc_checks.nd rfl (by first | exact Or.inl rfl | exact Or.inr rfl)) (pgs_cons (pg_name (i := 4) sc_checks.nd rfl (by first | exact Or.inl rfl | exact Or.inr rfl)) pgs_nil)))))
  (pss_cons (ps_setLc (i := 7) (own := [("group", 5)]) (g := (gName 5)) (by rfl) sc_checks.nd rfl rfl (sw_true rfl rfl rfl (by decide +kernel)) (pi_range1 (by rfl) T.n_range (pa_cons (pv 2) pa_nil)) (blkOk_by (own := [("group", 5)]) (N := ["shape", "places", "groups", "_", "sums", "group", "place", "rows", "number"]) (sc := defScope s_checks) (by decide +kernel)) (fun _ _ _ _ _ => (pg_name (i := 5) sc_checks.nd rfl (by first | exact Or.inl rfl | exact Or.inr rfl) (by first | exact Or.inr rfl | exact Or.inl rfl))) (fun _ _ _ _ _ => pts_nil) (fun _ _ _ _ _ => (pe_lc (own := [("place", 6)]) (g := (gName 6)) (by rfl) sc_checks.nd (pi_rng (pv 1)) (blkOk_by (own := [("place", 6)]) (by kernel_rfl)) (fun _ _ _ _ _ => (pg_name (i := 6) sc_checks.nd rfl (by first | exact Or.inl rfl | exact Or.inr rfl) (by first | exact Or.inr rfl | exact Or.inl rfl))) (fun _ _ _ _ _ => pts_nil) (fun _ _ _ _ _ => (pe_callD D_local_factor (by first | exact hr | exact hr.mono (by decide)) (pa_cons (pv 6) (pa_cons (pv 5) (pa_cons (pv 0) pa_nil))))))))
  (pss_cons (ps_for PassesOwn.never rfl (pi_range2 (by rfl) T.n_range (pa_cons pe_int (pa_cons (pe_op op_add (pv 4) pe_int) pa_nil))) (pg_name (i := 8) sc_checks.nd rfl (by first | exact Or.inl rfl | exact Or.inr rfl))
  (pss_one (ps_expr (pe_bmK K PySem.F.plainAttrs_list PySem.F.slot_list_append PySem.F.type_list_append mt_append (pv 7) (pa_cons (pe_lc (own := [("place", 6)]) (g := (gName 6)) (by rfl) sc_checks.nd (pi_rng (pv 1)) (blkOk_by (own := [("place", 6)]) (N := ["shape", "places", "groups", "_", "sums", "group", "place", "rows", "number"]) (sc := defScope s_checks) (by decide +kernel)) (fun _ _ _ _ _ => (pg_name (i := 6) sc_checks.nd rfl (by first | exact Or.inl rfl | exact Or.inr rfl) (by first | exact Or.inr rfl | exact Or.inl rfl))) (fun _ _ _ _ _ => pts_nil) (fun _ _ _ _ _ => (pe_callD D_over_factor (by first | exact hr | exact hr.mono (by decide)) (pa_cons (pv 6) (pa_cons (pv 8) (pa_cons (pv 0) pa_nil)))))) pa_nil)))))
  (pss_one (ps_ret (pv 7))))))), ?_⟩
    refine ⟨_, rfl, rfl, a, g, z, m, rfl, M, _, rfl, fun r nr => ?_⟩
    have sr := Same.new (o := .rng 0 (manyZ g z m)) nr
    have er : upd H r (.rng 0 (manyZ g z m)) r = some (.rng 0 (manyZ g z m)) := upd_same
    have M1 := M.same sr
    generalize upd H r (.rng 0 (manyZ g z m)) = H1 at *
    refine ⟨_, rfl, _, _, rfl, M1.1, rfl, _, _, rfl, _, _, rfl, _, _, rfl, rfl, ?_⟩
    refine ⟨_, rfl, _, rfl, by omega, by omega, fun D nD => ?_⟩
    refine lc_it walk_range (fun i H' => Same H1 H' ∧ ∃ as, Mat H' D as ((List.range i).map (rowL g z m)) ∧ ∀ b ∈ as, H1 b = none) ⟨Same.new nD, [], Mat.nil upd_same, fun _ h => by cases h⟩ (fun _ _ _ _ => trivial) ?_ ?_
    · intro i x H' H2 hi p y
      obtain ⟨rfl, rfl⟩ := y
      obtain ⟨p1, as, p2, p3⟩ := p
      refine ⟨rfl, _, rfl, r, 0, _, rfl, p1 _ _ er, ⟨by omega, by omega, by omega, by omega⟩, fun d nd => ?_⟩
      refine lc_ints walk_range (fun j => localZ g z (0 + (j : Int)) (0 + (i : Int))) nd (small1000' (by omega)) (fun _ _ => trivial) ?_ ?_
      · intro j x H4 H5 R R' hj s4 y k
        obtain ⟨rfl, rfl⟩ := y
        exact ⟨rfl, _, rfl, _, rfl, _, rfl, _, _, a, g, z, m, rfl, (M1.same p1).same s4, by omega, by omega, k⟩
      · intro H4 s4 e4
        have e5 : (List.range (manyZ g z m - 0).toNat).map (fun (j : Nat) => localZ g z (0 + (j : Int)) (0 + (i : Int))) = rowL g z m i := by
          unfold rowL
          simp only [Int.sub_zero, Int.zero_add]
        rw [e5] at e4
        refine ⟨_, s4 _ _ p2.hd, ?_, ?_, as ++ [d], ?_, ?_⟩
        · rw [List.length_map, p2.len, List.length_map, List.length_range]
          exact Nat.lt_of_lt_of_le (m := 1000000) (by omega) (by decide)
        · intro b o e
          rw [upd_ne (ne_of_none e nD)]
          exact s4 _ _ (p1 _ _ e)
        · rw [List.range_succ, List.map_append]
          exact p2.snoc s4 nd e4
        · intro b hb
          rcases List.mem_append.mp hb with hb | hb
          · exact p3 b hb
          · rw [List.mem_singleton.mp hb]
            cases h : H1 d with
            | none => rfl
            | some o => rw [p1 _ _ h] at nd; cases nd
    · intro H2 p
      obtain ⟨p1, as, p2, p3⟩ := p
      refine ⟨_, rfl, _, _, rfl, rfl, _, _, rfl, ⟨by omega, by omega, by omega, by omega⟩, ?_⟩
      refine for_range (fun i σ H' => ∃ v5 v6 v8, σ = [some (.ref a), some (.ref r), some (.int g), some (.int z), some (.int m), v5, v6, some (.ref D), v8] ∧ Same H1 H' ∧ ∃ as, Mat H' D as ((List.range g.toNat).map (rowL g z m) ++ (List.range i).map (rowO g z m)) ∧ ∀ b ∈ as, H1 b = none) ⟨none, none, none, rfl, p1, as, by rw [List.range_zero, List.map_nil, List.append_nil]; exact p2, p3⟩ ?_ ?_
      · rintro i σ H3 hi ⟨v5, v6, v8, rfl, p1, as, p2, p3⟩
        refine ⟨_, rfl, .inl ⟨rfl, _, SqL.of p2.hd⟩, ?_⟩
        refine ⟨_, rfl, r, 0, _, rfl, p1 _ _ er, ⟨by omega, by omega, by omega, by omega⟩, fun d nd => ?_⟩
        refine lc_ints walk_range (fun j => overZ g z (0 + (j : Int)) (1 + (i : Int))) nd (small1000' (by omega)) (fun _ _ => trivial) ?_ ?_
        · intro j x H4 H5 R R' hj s4 y k
          obtain ⟨rfl, rfl⟩ := y
          exact ⟨rfl, _, rfl, _, rfl, _, rfl, _, _, a, g, z, m, rfl, (M1.same p1).same s4, by omega, by omega, by omega, k⟩
        · intro H4 s4 e4
          have e5 : (List.range (manyZ g z m - 0).toNat).map (fun (j : Nat) => overZ g z (0 + (j : Int)) (1 + (i : Int))) = rowO g z m i := by
            unfold rowO
            simp only [Int.sub_zero, Int.zero_add]
          rw [e5] at e4
          refine ⟨_, _, _, rfl, rfl, s4 _ _ p2.hd, ?_, v5, v6, _, rfl, fun b o e => ?_, as ++ [d], ?_, ?_⟩
          · rw [List.length_map, p2.len, List.length_append, List.length_map, List.length_range, List.length_map, List.length_range]
            exact Nat.lt_of_lt_of_le (m := 1000000) (by omega) (by decide)
          · rw [upd_ne (ne_of_none e nD)]
            exact s4 _ _ (p1 _ _ e)
          · rw [List.range_succ, List.map_append, ← List.append_assoc]
            exact p2.snoc s4 nd e4
          · intro b hb
            rcases List.mem_append.mp hb with hb | hb
            · exact p3 b hb
            · rw [List.mem_singleton.mp hb]
              cases h : H1 d with
              | none => rfl
              | some o => rw [p1 _ _ h] at nd; cases nd
      · rintro σ H3 ⟨v5, v6, v8, rfl, p1, as, p2, p3⟩
        refine ⟨_, rfl, q D as H3 (Same.trans sr p1) ?_ ?_⟩
        · rw [show (m + 1 - 1).toNat = m.toNat by omega] at p2
          exact p2
        · have low : ∀ b, H1 b = none → H b = none := fun b n => by
            cases h : H b with
            | none => rfl
            | some o => rw [sr _ _ h] at n; cases n
          intro b hb
          rcases List.mem_cons.mp hb with rfl | hb
          · exact low _ nD
          · exact low _ (p3 b hb)
theorem ixN_n {n j : Nat} (hj : j < n) : ixN n (j : Int) = some j := by
  unfold ixN
  rw [if_pos (by omega), if_pos (by omega), Int.toNat_natCast]
theorem ixN_z {n : Nat} {k : Int} (h0 : 0 ≤ k) (h1 : k < n) : ixN n k = some k.toNat := by
  unfold ixN
  rw [if_pos h0, if_pos h1]
theorem rep0 (n : Nat) : (List.replicate n [V.int 0]).flatten = (List.replicate n (0 : Int)).map V.int := by
  induction n with
  | zero => rfl
  | succ n ih => rw [List.replicate_succ, List.flatten_cons, ih, List.replicate_succ]; rfl
def lawRL (g z m : Int) (i : Nat) : List Int := ((List.range (manyZ g z m).toNat).map fun (p : Nat) => if (i : Int) * (z + 1) ≤ (p : Int) then (if (p : Int) < (i : Int) * (z + 1) + z then (1 : Int) else 0) else 0).set ((i : Int) * (z + 1) + z).toNat 96
theorem lawRL_eq {g z m : Int} (g1 : 1 ≤ g) (g4 : g ≤ 4) (z1 : 1 ≤ z) (z4 : z ≤ 4) (m0 : 0 ≤ m) (m2 : m ≤ 2) {i : Nat} (hi : i < g.toNat) : lawRL g z m i = rowL g z m i := by
  obtain ⟨G, rfl⟩ : ∃ n : Nat, g = (n : Int) := ⟨g.toNat, by omega⟩
  obtain ⟨Z, rfl⟩ : ∃ n : Nat, z = (n : Int) := ⟨z.toNat, by omega⟩
  obtain ⟨M, rfl⟩ : ∃ n : Nat, m = (n : Int) := ⟨m.toNat, by omega⟩
  have key : ∀ G : Fin 5, ∀ Z : Fin 5, ∀ M : Fin 3, ∀ i : Fin 4, 1 ≤ G.val → 1 ≤ Z.val → i.val < G.val → lawRL (G.val : Int) (Z.val : Int) (M.val : Int) i.val = rowL (G.val : Int) (Z.val : Int) (M.val : Int) i.val := by decide +kernel
  exact key ⟨G, by omega⟩ ⟨Z, by omega⟩ ⟨M, by omega⟩ ⟨i, by omega⟩ (by show 1 ≤ G; omega) (by show 1 ≤ Z; omega) (by show i < G; omega)
def signZ (i j : Nat) : Int := ([1, 11, 40, 30] : List Int).getD i 0 + (j : Int)
def valZ (n i j : Nat) : Int := ([signZ i j, signZ i j * signZ i j] : List Int).getD n 0 % 97
def rIn (z : Int) (n i : Nat) (L : List Int) : Nat → List Int
  | 0 => L
  | j + 1 => (rIn z n i L j).set ((i : Int) * (z + 1) + (j : Int)).toNat (valZ n i j)
def rOut (g z m : Int) (n : Nat) : Nat → List Int
  | 0 => List.replicate (manyZ g z m).toNat 0
  | i + 1 => rIn z n i (rOut g z m n i) z.toNat
theorem rIn_len (z : Int) (n i : Nat) (L : List Int) : ∀ j, (rIn z n i L j).length = L.length
  | 0 => rfl
  | j + 1 => by rw [rIn, List.length_set, rIn_len z n i L j]
theorem rOut_len (g z m : Int) (n : Nat) : ∀ i, (rOut g z m n i).length = (manyZ g z m).toNat
  | 0 => by rw [rOut, List.length_replicate]
  | i + 1 => by rw [rOut, rIn_len, rOut_len g z m n i]
def lawRO (g z m : Int) (n : Nat) : List Int := (rOut g z m n g.toNat).set (manyZ g z m - m + (n : Int)).toNat 96
theorem lawRO_eq {g z m : Int} (g1 : 1 ≤ g) (g4 : g ≤ 4) (z1 : 1 ≤ z) (z4 : z ≤ 4) (m0 : 0 ≤ m) (m2 : m ≤ 2) {n : Nat} (hn : n < m.toNat) : lawRO g z m n = rowO g z m n := by
  obtain ⟨G, rfl⟩ : ∃ n : Nat, g = (n : Int) := ⟨g.toNat, by omega⟩
  obtain ⟨Z, rfl⟩ : ∃ n : Nat, z = (n : Int) := ⟨z.toNat, by omega⟩
  obtain ⟨M, rfl⟩ : ∃ n : Nat, m = (n : Int) := ⟨m.toNat, by omega⟩
  have key : ∀ G : Fin 5, ∀ Z : Fin 5, ∀ M : Fin 3, ∀ n : Fin 2, 1 ≤ G.val → 1 ≤ Z.val → n.val < M.val → lawRO (G.val : Int) (Z.val : Int) (M.val : Int) n.val = rowO (G.val : Int) (Z.val : Int) (M.val : Int) n.val := by decide +kernel
  exact key ⟨G, by omega⟩ ⟨Z, by omega⟩ ⟨M, by omega⟩ ⟨n, by omega⟩ (by show 1 ≤ G; omega) (by show 1 ≤ Z; omega) (by show n < M; omega)
theorem ok_law_checks (T : Txt K mg) (F : At K mg "_law_checks" s__law_checks ["mould"]) : Dn P w K mg base CX0 1 "_law_checks" ["mould"] (spChecks K) := by
  refine F.ok sc__law_checks (fun vs H Q E h => ?_) (fun f cdv A outer s H vs Q E hr h => ?_)
  · obtain ⟨a, g, s, m, rfl, _⟩ := h
    rfl
  · obtain ⟨a, g, z, m, rfl, M, q⟩ := h
    obtain ⟨ha, g1, g4, z1, z4, m0, m2⟩ := id M
    obtain ⟨l1, l2, l3, l4⟩ := M.le
    refine ⟨_, (pss_cons (ps_asg (pv 0) (pg_tup (by rfl) (pgs_cons (pg_name (i := 1) sc__law_checks.nd rfl (by first | exact Or.inl rfl | exact Or.inr rfl)) (pgs_cons (pg_name (i := 2) sc__law_checks.nd rfl (by first | exact Or.inl rfl | exact Or.inr rfl)) (pgs_cons (pg_name (i := 3) sc__law_checks.nd rfl (by first | exact Or.inl rfl | exact Or.inr rfl)) pgs_nil)))))
  (pss_cons (ps_set (i := 4) sc__law_checks.nd rfl (by first | exact Or.inl rfl | exact Or.inr rfl) (pe_op op_add (pe_op op_mul (pv 1) (pe_op op_add (pv 2) pe_int)) (pv 3)))
  (pss_cons (ps_set (i := 5) sc__law_checks.nd rfl (by first | exact Or.inl rfl | exact Or.inr rfl) (pe_lst pa_nil))
  (pss_cons (ps_for PassesOwn.never rfl (pi_range1 (by rfl) T.n_range (pa_cons (pv 1) pa_nil)) (pg_name (i := 6) sc__law_checks.nd rfl (by first | exact Or.inl rfl | exact Or.inr rfl))
  (pss_cons (ps_set (i := 7) sc__law_checks.nd rfl (by first | exact Or.inl rfl | exact Or.inr rfl) (pe_op op_mul (pv 6) (pe_op op_add (pv 2) pe_int)))
  (pss_cons (ps_setLc (i := 9) (own := [("place", 8)]) (g := (gName 8)) (by rfl) sc__law_checks.nd rfl rfl (sw_true rfl rfl rfl (by decide +kernel)) (pi_range1 (by rfl) T.n_range (pa_cons (pv 4) pa_nil)) (blkOk_by (own := [("place", 8)]) (N := ["mould", "groups", "size", "sums", "many", "found", "group", "first", "place", "row", "number", "at", "sign"]) (sc := defScope s__law_checks) (by decide +kernel)) (fun _ _ _ _ _ => (pg_name (i := 8) sc__law_checks.nd rfl (by first | exact Or.inl rfl | exact Or.inr rfl) (by first | exact Or.inr rfl | exact Or.inl rfl))) (fun _ _ _ _ _ => pts_nil) (fun _ _ _ _ _ => (pe_callTy call_int1 (by rfl) T.n_int (by decide +kernel) (pa_cons (pe_chain op_le op_lt (pv 7) (pv 8) (pe_op op_add (pv 7) (pv 2))) pa_nil))))
  (pss_cons (ps_asg pe_int (pg_sub (pv 9) (pe_op op_add (pe_op op_mul (pv 6) (pe_op op_add (pv 2) pe_int)) (pv 2)) set_list))
  (pss_one (ps_expr (pe_bmK K PySem.F.plainAttrs_list PySem.F.slot_list_append PySem.F.type_list_append mt_append (pv 5) (pa_cons (pv 9) pa_nil))))))))
  (pss_cons (ps_for PassesOwn.never rfl (pi_range1 (by rfl) T.n_range (pa_cons (pv 3) pa_nil)) (pg_name (i := 10) sc__law_checks.nd rfl (by first | exact Or.inl rfl | exact Or.inr rfl))
  (pss_cons (ps_set (i := 9) sc__law_checks.nd rfl (by first | exact Or.inl rfl | exact Or.inr rfl) (pe_op op_rep (pe_lst (pa_cons pe_int pa_nil)) (pv 4)))
  (pss_cons (ps_for PassesOwn.never rfl (pi_range1 (by rfl) T.n_range (pa_cons (pv 1) pa_nil)) (pg_name (i := 6) sc__law_checks.nd rfl (by first | exact Or.inl rfl | exact Or.inr rfl))
  (pss_one (ps_for PassesOwn.never rfl (pi_range1 (by rfl) T.n_range (pa_cons (pv 2) pa_nil)) (pg_name (i := 11) sc__law_checks.nd rfl (by first | exact Or.inl rfl | exact Or.inr rfl))
  (pss_cons (ps_set (i := 12) sc__law_checks.nd rfl (by first | exact Or.inl rfl | exact Or.inr rfl) (pe_op op_add (pe_ix (r := rIxL K) ix_list (pe_lst (pa_cons pe_int (pa_cons pe_int (pa_cons pe_int (pa_cons pe_int pa_nil))))) (pv 6) (fun _ _ => rfl)) (pv 11)))
  (pss_one (ps_asg (pe_op op_mod (pe_ix (r := rIxL K) ix_list (pe_lst (pa_cons (pv 12) (pa_cons (pe_op op_mul (pv 12) (pv 12)) pa_nil))) (pv 10) (fun _ _ => rfl)) pe_int) (pg_sub (pv 9) (pe_op op_add (pe_op op_mul (pv 6) (pe_op op_add (pv 2) pe_int)) (pv 11)) set_list)))))))
  (pss_cons (ps_asg pe_int (pg_sub (pv 9) (pe_op op_add (pe_op op_sub (pv 4) (pv 3)) (pv 10)) set_list))
  (pss_one (ps_expr (pe_bmK K PySem.F.plainAttrs_list PySem.F.slot_list_append PySem.F.type_list_append mt_append (pv 5) (pa_cons (pv 9) pa_nil))))))))
  (pss_one (ps_ret (pv 5)))))))), ?_⟩
    refine ⟨_, rfl, _, _, rfl, ha, rfl, _, _, rfl, _, _, rfl, _, _, rfl, rfl, ?_⟩
    refine ⟨_, rfl, _, rfl, _, _, rfl, rfl, _, _, rfl, rfl, .inl ⟨by omega, by omega⟩, _, rfl, _, _, rfl, rfl, ?_⟩
    refine ⟨(by show 0 ≤ sizeLine; decide), fun D nD => ?_⟩
    refine ⟨_, rfl, _, rfl, by omega, by omega, ?_⟩
    refine for_range (fun i σ H' => ∃ v6 v7 v8 v9 v10 v11 v12, σ = [some (.ref a), some (.int g), some (.int z), some (.int m), some (.int (manyZ g z m)), some (.ref D), v6, v7, v8, v9, v10, v11, v12] ∧ Same H H' ∧ ∃ as, Mat H' D as ((List.range i).map (rowL g z m)) ∧ ∀ b ∈ as, H b = none) ⟨none, none, none, none, none, none, none, rfl, Same.new nD, [], Mat.nil upd_same, fun _ h => by cases h⟩ ?_ ?_
    · rintro i σ H1 hi ⟨v6, v7, v8, v9, v10, v11, v12, rfl, p1, as, p2, p3⟩
      refine ⟨_, rfl, _, rfl, _, _, rfl, rfl, _, _, rfl, rfl, .inl ⟨by omega, by omega⟩, ?_⟩
      refine ⟨_, rfl, _, rfl, by omega, by omega, fun d nd => ?_⟩
      refine lc_ints walk_range (fun (j : Nat) => if (0 + (i : Int)) * (z + 1) ≤ 0 + (j : Int) then (if decide (0 + (j : Int) < (0 + (i : Int)) * (z + 1) + z) = true then (1 : Int) else 0) else 0) nd (small1000' (by omega)) (fun _ _ => trivial) ?_ ?_
      · intro j x H4 H5 R R' hj s4 y k
        obtain ⟨rfl, rfl⟩ := y
        refine ⟨rfl, _, rfl, _, rfl, _, _, rfl, rfl, _, rfl, iteD (fun h1 => ?_) fun h1 => ?_⟩
        · rw [if_pos h1] at k
          exact ⟨_, rfl, _, rfl, _, _, rfl, rfl, _, _, rfl, rfl, .inr ⟨_, rfl, k _ (Same.refl _)⟩⟩
        · rw [if_neg h1] at k
          exact .inr ⟨_, rfl, k _ (Same.refl _)⟩
      · intro H4 s4 e4
        have gz : g * (z + 1) + m = manyZ g z m := rfl
        have bi : ((i : Int) + 1) * (z + 1) ≤ g * (z + 1) := Int.mul_le_mul_of_nonneg_right (by omega) (by omega)
        have bi2 : ((i : Int) + 1) * (z + 1) = (i : Int) * (z + 1) + z + 1 := by rw [Int.add_mul, Int.one_mul]; omega
        have bi0 : 0 ≤ (i : Int) * (z + 1) := Int.mul_nonneg (by omega) (by omega)
        have hix : ixN (((List.range (manyZ g z m).toNat).map (fun (j : Nat) => if (0 + (i : Int)) * (z + 1) ≤ 0 + (j : Int) then (if decide (0 + (j : Int) < (0 + (i : Int)) * (z + 1) + z) = true then (1 : Int) else 0) else 0)).map V.int).length ((0 + (i : Int)) * (z + 1) + z) = some ((i : Int) * (z + 1) + z).toNat := by
          rw [List.length_map, List.length_map, List.length_range, Int.zero_add]
          obtain ⟨n, hn⟩ : ∃ n : Nat, (i : Int) * (z + 1) + z = (n : Int) := ⟨((i : Int) * (z + 1) + z).toNat, by omega⟩
          rw [hn, Int.toNat_natCast]
          exact ixN_n (by omega)
        refine ⟨_, rfl, _, rfl, _, rfl, _, _, rfl, rfl, _, _, rfl, rfl, .inl ⟨by omega, by omega⟩, _, rfl, _, _, rfl, rfl, _, _, _, _, rfl, rfl, e4, hix, ?_⟩
        rw [← List.map_set]
        have e5 : (((List.range (manyZ g z m).toNat).map (fun (j : Nat) => if (0 + (i : Int)) * (z + 1) ≤ 0 + (j : Int) then (if decide (0 + (j : Int) < (0 + (i : Int)) * (z + 1) + z) = true then (1 : Int) else 0) else 0)).set ((i : Int) * (z + 1) + z).toNat 96) = rowL g z m i := by
          rw [← lawRL_eq g1 g4 z1 z4 m0 m2 hi]
          unfold lawRL
          simp only [Int.zero_add, decide_eq_true_eq]
        rw [e5]
        have dD : D ≠ d := fun e => by rw [← e, p2.hd] at nd; cases nd
        have s5 : Same H1 (upd H4 d (.lst ((rowL g z m i).map V.int))) := fun b o e => by
          rw [upd_ne (ne_of_none e nd)]
          exact s4 _ _ e
        have e6 : upd H4 d (.lst ((rowL g z m i).map V.int)) d = some (.lst ((rowL g z m i).map V.int)) := upd_same
        generalize upd H4 d (.lst ((rowL g z m i).map V.int)) = H5 at *
        refine ⟨_, rfl, .inl ⟨rfl, _, SqL.of (s5 _ _ p2.hd)⟩, _, rfl, _, _, _, rfl, rfl, s5 _ _ p2.hd, ?_, ?_⟩
        · rw [List.length_map, p2.len, List.length_map, List.length_range]
          exact Nat.lt_of_lt_of_le (m := 1000000) (by omega) (by decide)
        · refine ⟨_, _, v8, _, v10, v11, v12, rfl, fun b o e => ?_, as ++ [d], ?_, ?_⟩
          · rw [upd_ne (ne_of_none e nD)]
            exact s5 _ _ (p1 _ _ e)
          · rw [List.range_succ, List.map_append]
            exact p2.snoc s5 nd e6
          · intro b hb
            rcases List.mem_append.mp hb with hb | hb
            · exact p3 b hb
            · rw [List.mem_singleton.mp hb]
              cases h : H d with
              | none => rfl
              | some o => rw [p1 _ _ h] at nd; cases nd
    · rintro σ H1 ⟨v6, v7, v8, v9, v10, v11, v12, rfl, p1, as, p2, p3⟩
      refine ⟨_, rfl, _, rfl, by omega, by omega, ?_⟩
      refine for_range (fun n σ H' => ∃ v6 v7 v8 v9 v10 v11 v12, σ = [some (.ref a), some (.int g), some (.int z), some (.int m), some (.int (manyZ g z m)), some (.ref D), v6, v7, v8, v9, v10, v11, v12] ∧ Same H H' ∧ ∃ as, Mat H' D as ((List.range g.toNat).map (rowL g z m) ++ (List.range n).map (rowO g z m)) ∧ ∀ b ∈ as, H b = none) ⟨v6, v7, v8, v9, v10, v11, v12, rfl, p1, as, by rw [List.range_zero, List.map_nil, List.append_nil]; exact p2, p3⟩ ?_ ?_
      · rintro n σ H1 hn ⟨v6, v7, v8, v9, v10, v11, v12, rfl, p1, as, p2, p3⟩
        refine ⟨(by show 1 ≤ sizeLine; decide), fun t nt => ?_⟩
        have s2 := Same.new (o := .lst [.int 0]) nt
        refine ⟨_, rfl, _, _, _, rfl, rfl, upd_same, by omega, by omega, ?_, fun d nd => ?_⟩
        · show 1 * _ ≤ sizeLine
          rw [Nat.one_mul]
          exact small1000' (by omega)
        rw [rep0]
        have dD : D ≠ d := fun e => by rw [← e] at nd; rw [s2 _ _ p2.hd] at nd; cases nd
        have nd1 : H1 d = none := by
          cases h : H1 d with
          | none => rfl
          | some o => rw [s2 _ _ h] at nd; cases nd
        have s3 := Same.trans s2 (Same.new (o := .lst ((List.replicate (manyZ g z m).toNat (0 : Int)).map V.int)) nd)
        have e3 : upd (upd H1 t (.lst [.int 0])) d (.lst ((List.replicate (manyZ g z m).toNat (0 : Int)).map V.int)) d = some (.lst ((List.replicate (manyZ g z m).toNat (0 : Int)).map V.int)) := upd_same
        generalize upd (upd H1 t (.lst [.int 0])) d (.lst ((List.replicate (manyZ g z m).toNat (0 : Int)).map V.int)) = H2 at *
        refine ⟨_, rfl, _, rfl, by omega, by omega, ?_⟩
        refine for_range (fun i σ H' => ∃ v6 v7 v8 v11 v12, σ = [some (.ref a), some (.int g), some (.int z), some (.int m), some (.int (manyZ g z m)), some (.ref D), v6, v7, v8, some (.ref d), some (.int (0 + (n : Int))), v11, v12] ∧ Kp d H2 H' ∧ H' d = some (.lst ((rOut g z m n i).map V.int))) ⟨v6, v7, v8, v11, v12, rfl, Kp.refl _ _, e3⟩ ?_ ?_
        · rintro i σ H3 hi ⟨v6, v7, v8, v11, v12, rfl, k3, e4⟩
          refine ⟨_, rfl, _, rfl, by omega, by omega, ?_⟩
          refine for_range (fun j σ H' => ∃ v7 v8 v11 v12, σ = [some (.ref a), some (.int g), some (.int z), some (.int m), some (.int (manyZ g z m)), some (.ref D), some (.int (0 + (i : Int))), v7, v8, some (.ref d), some (.int (0 + (n : Int))), v11, v12] ∧ Kp d H2 H' ∧ H' d = some (.lst ((rIn z n i (rOut g z m n i) j).map V.int))) ⟨v7, v8, v11, v12, rfl, k3, e4⟩ ?_ ?_
          · rintro j σ H4 hj ⟨v7, v8, v11, v12, rfl, k4, e5⟩
            have bi : ((i : Int) + 1) * (z + 1) ≤ g * (z + 1) := Int.mul_le_mul_of_nonneg_right (by omega) (by omega)
            have bi2 : ((i : Int) + 1) * (z + 1) = (i : Int) * (z + 1) + z + 1 := by rw [Int.add_mul, Int.one_mul]; omega
            have bi0 : 0 ≤ (i : Int) * (z + 1) := Int.mul_nonneg (by omega) (by omega)
            have gz : g * (z + 1) + m = manyZ g z m := rfl
            have hat1 : atI ([.int 1, .int 11, .int 40, .int 30] : List V) (0 + (i : Int)) = some (.int (([1, 11, 40, 30] : List Int).getD i 0)) := by
              obtain rfl | rfl | rfl | rfl : i = 0 ∨ i = 1 ∨ i = 2 ∨ i = 3 := by omega
              all_goals rfl
            have bs : 0 ≤ ([1, 11, 40, 30] : List Int).getD i 0 ∧ ([1, 11, 40, 30] : List Int).getD i 0 ≤ 40 := by
              obtain rfl | rfl | rfl | rfl : i = 0 ∨ i = 1 ∨ i = 2 ∨ i = 3 := by omega
              all_goals decide
            have hat2 : ∀ S : Int, atI ([.int S, .int (S * S)] : List V) (0 + (n : Int)) = some (.int (([S, S * S] : List Int).getD n 0)) := fun S => by
              obtain rfl | rfl : n = 0 ∨ n = 1 := by omega
              all_goals rfl
            have hix : ixN ((rIn z n i (rOut g z m n i) j).map V.int).length ((0 + (i : Int)) * (z + 1) + (0 + (j : Int))) = some ((i : Int) * (z + 1) + (j : Int)).toNat := by
              rw [List.length_map, rIn_len, rOut_len, Int.zero_add, Int.zero_add]
              exact ixN_z (by omega) (by omega)
            refine ⟨(by show 4 ≤ sizeLine; decide), fun t1 nt1 => ?_⟩
            refine ⟨_, rfl, _, _, _, _, rfl, rfl, SqL.of upd_same, hat1, _, rfl, _, _, rfl, rfl, ?_⟩
            refine ⟨_, rfl, _, rfl, _, rfl, _, _, rfl, rfl, .inl ⟨by omega, by omega⟩, (by show 2 ≤ sizeLine; decide), fun t2 nt2 => ?_⟩
            refine ⟨_, rfl, _, _, _, _, rfl, rfl, SqL.of upd_same, hat2 _, _, _, rfl, rfl, (by show (0 : Int) < 97; decide), ?_⟩
            refine ⟨_, rfl, _, rfl, _, rfl, _, _, rfl, rfl, _, _, rfl, rfl, .inl ⟨by omega, by omega⟩, _, rfl, _, _, rfl, rfl, _, _, _, _, rfl, rfl, old (old e5 nt1) nt2, hix, ?_⟩
            refine ⟨_, _, _, _, rfl, ((k4.trans (Kp.new nt1)).trans (Kp.new nt2)).trans Kp.put, ?_⟩
            rw [upd_same, ← List.map_set]
            rw [show rIn z n i (rOut g z m n i) (j + 1) = (rIn z n i (rOut g z m n i) j).set ((i : Int) * (z + 1) + (j : Int)).toNat (valZ n i j) from rfl]
            unfold valZ signZ
            simp only [Int.zero_add]
          · rintro σ H4 ⟨v7, v8, v11, v12, rfl, k4, e5⟩
            exact ⟨_, _, _, _, _, rfl, k4, e5⟩
        · rintro σ H3 ⟨v6, v7, v8, v11, v12, rfl, k3, e4⟩
          have gz : g * (z + 1) + m = manyZ g z m := rfl
          have hix : ixN ((rOut g z m n g.toNat).map V.int).length (manyZ g z m - m + (0 + (n : Int))) = some (manyZ g z m - m + (n : Int)).toNat := by
            rw [List.length_map, rOut_len, Int.zero_add]
            exact ixN_z (by omega) (by omega)
          refine ⟨_, rfl, _, rfl, _, rfl, _, _, rfl, rfl, _, rfl, _, _, rfl, rfl, _, _, _, _, rfl, rfl, e4, hix, ?_⟩
          rw [← List.map_set]
          have e9 : (rOut g z m n g.toNat).set (manyZ g z m - m + (n : Int)).toNat 96 = rowO g z m n := lawRO_eq g1 g4 z1 z4 m0 m2 hn
          rw [e9]
          have s5 : Same H1 (upd H3 d (.lst ((rowO g z m n).map V.int))) := fun b o e => by
            rw [upd_ne (ne_of_none e nd1)]
            exact k3 _ _ (s3 _ _ e) (ne_of_none e nd1)
          have e6 : upd H3 d (.lst ((rowO g z m n).map V.int)) d = some (.lst ((rowO g z m n).map V.int)) := upd_same
          generalize upd H3 d (.lst ((rowO g z m n).map V.int)) = H5 at *
          refine ⟨_, rfl, .inl ⟨rfl, _, SqL.of (s5 _ _ p2.hd)⟩, _, rfl, _, _, _, rfl, rfl, s5 _ _ p2.hd, ?_, ?_⟩
          · rw [List.length_map, p2.len, List.length_append, List.length_map, List.length_range, List.length_map, List.length_range]
            exact Nat.lt_of_lt_of_le (m := 1000000) (by omega) (by decide)
          · refine ⟨_, _, _, _, _, _, _, rfl, fun b o e => ?_, as ++ [d], ?_, ?_⟩
            · rw [upd_ne (ne_of_none e nD)]
              exact s5 _ _ (p1 _ _ e)
            · rw [List.range_succ, List.map_append, ← List.append_assoc]
              exact p2.snoc s5 nd1 e6
            · intro b hb
              rcases List.mem_append.mp hb with hb | hb
              · exact p3 b hb
              · rw [List.mem_singleton.mp hb]
                cases h : H d with
                | none => rfl
                | some o => rw [p1 _ _ h] at nd1; cases nd1
      · rintro σ H1 ⟨v6, v7, v8, v9, v10, v11, v12, rfl, p1, as, p2, p3⟩
        refine ⟨_, rfl, q D as H1 p1 p2 ?_⟩
        intro b hb
        rcases List.mem_cons.mp hb with rfl | hb
        · exact nD
        · exact p3 b hb
/-- a purse at p, of which at most c turns are taken -/
def Purse (H : Hp) (p : Addr) (c : Int) : Prop := ∃ x y z : Int, H p = some (.lst [.int x, .int y, .int z]) ∧ 0 ≤ x ∧ 0 ≤ y ∧ y < 2 ^ 210 ∧ 0 ≤ z ∧ z ≤ c
theorem Purse.mono {H : Hp} {p : Addr} {c d : Int} (h : Purse H p c) (l : c ≤ d) : Purse H p d := by
  obtain ⟨x, y, z, h1, h2, h3, h4, h5, h6⟩ := h
  exact ⟨x, y, z, h1, h2, h3, h4, h5, by omega⟩
theorem Purse.same {H H' : Hp} {p : Addr} {c : Int} (h : Purse H p c) (s : Same H H') : Purse H' p c := by
  obtain ⟨x, y, z, h1, h2⟩ := h
  exact ⟨x, y, z, s _ _ h1, h2⟩
/-- a draw: any number below many -/
def spDrawn : Sp := fun vs H Q _ => ∃ (p : Addr) (c many : Int), vs = [.ref p, .int many] ∧ Purse H p c ∧ c ≤ 100000 ∧ 0 < many ∧ many < 2 ^ 200 ∧
  ∀ v H', 0 ≤ v → v < many → Purse H' p (c + 1) → Kp p H H' → Q (.int v) H'
theorem ok_drawn (F : At K mg "_law_drawn" s__law_drawn ["purse", "many"]) : Dn P w K mg base CX0 1 "_law_drawn" ["purse", "many"] spDrawn := by
  refine F.ok sc__law_drawn (fun vs H Q E h => ?_) (fun f cdv A outer s H vs Q E hr h => ?_)
  · obtain ⟨p, c, many, rfl, _⟩ := h
    rfl
  · obtain ⟨p, c, many, rfl, ⟨x, y, z, hp, x0, y0, y1, z0, zc⟩, c1, m0, m1, q⟩ := h
    refine ⟨_, (pss_cons (ps_if (pt_cmpR op_gt (pe_ix (r := rIxL K) ix_list (pv 0) pe_int (fun _ _ => rfl)) pe_int (nomark _)) (pss_cons (ps_set (i := 2) sc__law_drawn.nd rfl (by first | exact Or.inl rfl | exact Or.inr rfl) (pe_op op_mod (pe_ix (r := rIxL K) ix_list (pv 0) pe_int (fun _ _ => rfl)) (pv 1)))
  (pss_cons (ps_asg (pe_op op_fdivW (pe_ix (r := rIxL K) ix_list (pv 0) pe_int (fun _ _ => rfl)) (pv 1)) (pg_sub (pv 0) pe_int set_list))
  (pss_one (ps_ret (pv 2))))) pss_nil)
  (pss_cons (ps_set (i := 3) sc__law_drawn.nd rfl (by first | exact Or.inl rfl | exact Or.inr rfl) (pe_op op_add (pe_ix (r := rIxL K) ix_list (pv 0) pe_int (fun _ _ => rfl)) pe_int))
  (pss_cons (ps_asg (pv 3) (pg_sub (pv 0) pe_int set_list))
  (pss_cons (ps_set (i := 4) sc__law_drawn.nd rfl (by first | exact Or.inl rfl | exact Or.inr rfl) (pe_op op_mod (pe_op op_powW (pe_op op_add (pe_op op_add (pe_ix (r := rIxL K) ix_list (pv 0) pe_int (fun _ _ => rfl)) (pe_op op_mul (pe_op op_mul pe_int (pv 3)) (pv 3))) (pe_op op_mul pe_int (pv 3))) pe_int) (pe_op op_add (pe_op op_pow pe_int pe_int) pe_int)))
  (pss_cons (ps_set (i := 4) sc__law_drawn.nd rfl (by first | exact Or.inl rfl | exact Or.inr rfl) (pe_op op_mod (pe_op op_powW (pe_op op_add (pv 4) (pe_op op_mul pe_int (pv 3))) pe_int) (pe_op op_add (pe_op op_pow pe_int pe_int) pe_int)))
  (pss_one (ps_ret (pe_op op_mod (pe_op op_fdiv (pv 4) pe_int) (pv 1))))))))), ?_⟩
    refine ⟨_, rfl, _, _, _, _, rfl, rfl, SqL.of hp, rfl, _, _, rfl, rfl, _, rfl, iteD (fun hx => ?_) fun hx => ?_⟩
    · refine ⟨_, rfl, _, _, _, _, rfl, rfl, SqL.of hp, rfl, _, rfl, _, _, rfl, rfl, m0, ?_⟩
      refine ⟨_, rfl, _, _, _, _, rfl, rfl, SqL.of hp, rfl, _, rfl, _, _, rfl, rfl, wide_div m0 (b := 200) (by omega) (by decide) (by decide), ?_⟩
      refine ⟨_, rfl, _, _, _, 0, rfl, rfl, hp, rfl, _, rfl, ?_⟩
      refine q _ _ (Int.emod_nonneg _ (by omega)) (Int.emod_lt_of_pos _ m0) ⟨_, y, z, upd_same, Int.ediv_nonneg x0 (by omega), y0, y1, z0, by omega⟩ Kp.put
    · have t0 : 0 ≤ z + 1 := by omega
      have t1 : z + 1 ≤ 100001 := by omega
      refine ⟨_, rfl, _, _, _, _, rfl, rfl, SqL.of hp, rfl, _, _, rfl, rfl, _, rfl, _, rfl, _, _, _, 2, rfl, rfl, hp, rfl, ?_⟩
      refine ⟨_, rfl, _, _, _, _, rfl, rfl, SqL.of upd_same, rfl, _, rfl, _, _, rfl, rfl, .inl ⟨by decide, by decide⟩, _, rfl, _, _, rfl, rfl, .inl ⟨by omega, by omega⟩, _, _, rfl, rfl, _, rfl, _, _, rfl, rfl, .inl ⟨by decide, by decide⟩, _, _, rfl, rfl, ?_⟩
      have b1 : (15485863 * (z + 1)) * (z + 1) ≤ 15485863 * 100001 * 100001 := Int.mul_le_mul (by omega) t1 t0 (by omega)
      have b0 : 0 ≤ (15485863 * (z + 1)) * (z + 1) := Int.mul_nonneg (by omega) t0
      refine ⟨_, _, rfl, rfl, CPowW.mk (a := 220) (n := 5) ?_ (by decide) (by decide), _, _, rfl, rfl, ⟨by decide, by decide, by decide⟩, _, _, rfl, rfl, _, _, rfl, rfl, (by show (0 : Int) < _; decide), ?_⟩
      · have e : (2 : Int) ^ 210 + 15485863 * 100001 * 100001 + 32452843 * 100001 < 2 ^ 220 := by decide
        have e2 : ((2 : Nat) ^ 220 : Nat) = (2 ^ 220 : Nat) := rfl
        omega
      generalize hm : ((y + 15485863 * (z + 1) * (z + 1) + 32452843 * (z + 1)) ^ (5 : Int).toNat % (10 ^ (18 : Int).toNat + 9) : Int) = m
      have m2 : 0 ≤ m := by rw [← hm]; exact Int.emod_nonneg _ (by decide)
      have m3 : m < 10 ^ (18 : Int).toNat + 9 := by rw [← hm]; exact Int.emod_lt_of_pos _ (by decide)
      refine ⟨_, rfl, _, rfl, _, _, rfl, rfl, .inl ⟨by decide, by decide⟩, _, _, rfl, rfl, _, _, rfl, rfl, CPowW.mk (a := 220) (n := 5) ?_ (by decide) (by decide), _, _, rfl, rfl, ⟨by decide, by decide, by decide⟩, _, _, rfl, rfl, _, _, rfl, rfl, (by show (0 : Int) < _; decide), ?_⟩
      · have e : (10 : Int) ^ (18 : Int).toNat + 9 + 49979687 * 100001 < 2 ^ 220 := by decide
        omega
      refine ⟨_, rfl, _, _, rfl, rfl, ⟨by decide, by decide⟩, _, rfl, _, _, rfl, rfl, m0, ?_⟩
      refine q _ _ (Int.emod_nonneg _ (by omega)) (Int.emod_lt_of_pos _ m0) ⟨x, y, z + 1, upd_same, x0, y0, y1, by omega, by omega⟩ Kp.put
def spPurse (K : PySem.W.Frag) : Sp := fun vs H Q _ => ∃ (a : Addr) (ns : List Int) (k : Int), vs = [.ref a, .int k] ∧ SqL K H a (ns.map V.int) ∧ ns.length ≤ 1000 ∧ 0 ≤ k ∧ k ≤ 1000 ∧
  ∀ p x y, H p = none → 0 ≤ x → 0 ≤ y → y < 2 ^ 210 → Q (.ref p) (upd H p (.lst [.int x, .int y, .int 0]))
theorem ok_purse (T : Txt K mg) (F : At K mg "_law_purse" s__law_purse ["script", "k"]) : Dn P w K mg base CX0 1 "_law_purse" ["script", "k"] (spPurse K) := by
  refine F.ok sc__law_purse (fun vs H Q E h => ?_) (fun f cdv A outer s H vs Q E hr h => ?_)
  · obtain ⟨a, ns, k, rfl, _⟩ := h
    rfl
  · obtain ⟨a, ns, k, rfl, hS, hl, k0, k1, q⟩ := h
    have fin : ∀ cell : Int, ∀ p, H p = none → Q (.ref p) (upd H p (.lst [.int (if cell - 10 ^ (18 : Int).toNat > 0 then cell - 10 ^ (18 : Int).toNat else 0), .int (cell % (10 ^ (60 : Int).toNat + 7) + 611953 * k), .int 0])) := fun cell p hp => by
      have h1 : 0 ≤ cell % (10 ^ (60 : Int).toNat + 7) := Int.emod_nonneg _ (by decide)
      have h2 : cell % (10 ^ (60 : Int).toNat + 7) < 10 ^ (60 : Int).toNat + 7 := Int.emod_lt_of_pos _ (by decide)
      have h3 : (10 : Int) ^ (60 : Int).toNat + 7 + 611953 * 1000 < 2 ^ 210 := by decide
      refine q p _ _ hp ?_ ?_ ?_
      · split <;> omega
      · omega
      · omega
    refine ⟨_, (pss_cons (ps_set (i := 2) sc__law_purse.nd rfl (by first | exact Or.inl rfl | exact Or.inr rfl) pe_int)
  (pss_cons (ps_if (pt_cmpR op_lt (pv 1) (pe_callB (r := rLen K) call_len (by rfl) T.n_len (by decide +kernel) (pa_cons (pv 0) pa_nil)) (nomark _)) (pss_one (ps_set (i := 2) sc__law_purse.nd rfl (by first | exact Or.inl rfl | exact Or.inr rfl) (pe_ix (r := rIxL K) ix_list (pv 0) (pv 1) (fun _ _ => rfl)))) pss_nil)
  (pss_one (ps_ret (pe_lst (pa_cons (pe_callB (call_max2 rfl) (by rfl) T.n_max (by decide +kernel) (pa_cons pe_int (pa_cons (pe_op op_sub (pv 2) (pe_op op_pow pe_int pe_int)) pa_nil))) (pa_cons (pe_op op_add (pe_op op_mod (pv 2) (pe_op op_add (pe_op op_pow pe_int pe_int) pe_int)) (pe_op op_mul pe_int (pv 1))) (pa_cons pe_int pa_nil)))))))), ?_⟩
    walk_at "rd"
    refine ⟨_, _, rfl, .inl ⟨_, hS, rfl⟩, _, _, rfl, rfl, _, rfl, iteD (fun hk => ?_) fun _ => ?_⟩
    · obtain ⟨z, _, _, hz⟩ := at_ints (ns := ns) (k := k) k0 (by rw [List.length_map] at hk; exact hk)
      walk_at "rd"
      refine ⟨_, _, _, _, rfl, rfl, hS, hz, _, rfl, _, _, rfl, rfl, ⟨by decide, by decide, by decide⟩, _, _, rfl, rfl, _, _, rfl, _, rfl, _, _, rfl, rfl, ⟨by decide, by decide, by decide⟩, _, _, rfl, rfl, _, _, rfl, rfl, (by show (0 : Int) < _; decide), _, rfl, _, _, rfl, rfl, .inl ⟨by decide, by decide⟩, _, _, rfl, rfl, (by show 3 ≤ sizeLine; decide), fun p hp => fin z p hp⟩
    · refine ⟨_, rfl, _, _, rfl, rfl, ⟨by decide, by decide, by decide⟩, _, _, rfl, rfl, _, _, rfl, _, rfl, _, _, rfl, rfl, ⟨by decide, by decide, by decide⟩, _, _, rfl, rfl, _, _, rfl, rfl, (by show (0 : Int) < _; decide), _, rfl, _, _, rfl, rfl, .inl ⟨by decide, by decide⟩, _, _, rfl, rfl, (by show 3 ≤ sizeLine; decide), fun p hp => fin 0 p hp⟩
/-- a tuple that is a shape of at most most places -/
def Good (most : Int) (H : Hp) (a : Addr) : Prop := ∃ g s m : Int, H a = some (.tup [.int g, .int s, .int m]) ∧ 1 ≤ g ∧ g ≤ 4 ∧ 1 ≤ s ∧ s ≤ 4 ∧ 0 ≤ m ∧ m ≤ 2 ∧ manyZ g s m ≤ most
theorem Good.same {most : Int} {H H' : Hp} {a : Addr} (h : Good most H a) (e : Same H H') : Good most H' a := by
  obtain ⟨g, s, m, e1, r⟩ := h
  exact ⟨g, s, m, e _ _ e1, r⟩
theorem Good.put {most : Int} {H : Hp} {a D : Addr} {xs : List V} {o : HO} (h : Good most H a) (e : H D = some (.lst xs)) : Good most (upd H D o) a := by
  obtain ⟨g, s, m, e1, r⟩ := h
  refine ⟨g, s, m, ?_, r⟩
  rw [upd_ne fun z => by rw [z, e] at e1; cases e1]
  exact e1
def spMould (K : PySem.W.Frag) : Sp := fun vs H Q _ => ∃ (p : Addr) (c most : Int), vs = [.ref p, .int most] ∧ Purse H p c ∧ c ≤ 100000 ∧ 2 ≤ most ∧
  ∀ a g s m H', Mould K H' a g s m → manyZ g s m ≤ most → Purse H' p (c + 1) → Kp p H H' → H a = none → Q (.ref a) H'
theorem ok_law_shape (T : Txt K mg) (D__law_drawn : Dn P w K mg base CX0 1 "_law_drawn" ["purse", "many"] spDrawn) (F : At K mg "_law_shape" s__law_shape ["purse", "most"]) : Dn P w K mg base CX0 2 "_law_shape" ["purse", "most"] (spMould K) := by
  refine F.ok sc__law_shape (fun vs H Q E h => ?_) (fun f cdv A outer s H vs Q E hr h => ?_)
  · obtain ⟨p, c, most, rfl, _⟩ := h
    rfl
  · obtain ⟨p, c, most, rfl, hp, c1, l0, q⟩ := h
    refine ⟨_, (pss_cons (ps_set (i := 2) sc__law_shape.nd rfl (by first | exact Or.inl rfl | exact Or.inr rfl) (pe_lst pa_nil))
  (pss_cons (ps_for PassesOwn.never rfl (pi_range2 (by rfl) T.n_range (pa_cons pe_int (pa_cons pe_int pa_nil))) (pg_name (i := 3) sc__law_shape.nd rfl (by first | exact Or.inl rfl | exact Or.inr rfl))
  (pss_one (ps_for PassesOwn.never rfl (pi_range2 (by rfl) T.n_range (pa_cons pe_int (pa_cons pe_int pa_nil))) (pg_name (i := 4) sc__law_shape.nd rfl (by first | exact Or.inl rfl | exact Or.inr rfl))
  (pss_one (ps_expr (pe_bmK K PySem.F.plainAttrs_list PySem.F.slot_list_extend PySem.F.type_list_extend mt_extend (pv 2) (pa_cons (pe_lc (own := [("sums", 5)]) (g := (gName 5)) (by rfl) sc__law_shape.nd (pi_range1 (by rfl) T.n_range (pa_cons pe_int pa_nil)) (blkOk_by (own := [("sums", 5)]) (N := ["purse", "most", "found", "groups", "size", "sums"]) (sc := defScope s__law_shape) (by decide +kernel)) (fun _ _ _ _ _ => (pg_name (i := 5) sc__law_shape.nd rfl (by first | exact Or.inl rfl | exact Or.inr rfl) (by first | exact Or.inr rfl | exact Or.inl rfl))) (fun _ _ _ _ _ => (pts_one (pt_cmpR op_le (pe_op op_add (pe_op op_mul (pv 3) (pe_op op_add (pv 4) pe_int)) (pv 5)) (pv 1) (nomark _)))) (fun _ _ _ _ _ => (pe_tup (pa_cons (pv 3) (pa_cons (pv 4) (pa_cons (pv 5) pa_nil)))))) pa_nil)))))))
  (pss_one (ps_ret (pe_ix (r := rIxL K) ix_list (pv 2) (pe_callD D__law_drawn (by first | exact hr | exact hr.mono (by decide)) (pa_cons (pv 0) (pa_cons (pe_callB (r := rLen K) call_len (by rfl) T.n_len (by decide +kernel) (pa_cons (pv 2) pa_nil)) pa_nil))) (fun _ _ => rfl)))))), ?_⟩
    refine ⟨(by show 0 ≤ sizeLine; decide), fun D nD => ?_⟩
    have pD : p ≠ D := fun e => by
      obtain ⟨_, _, _, e1, _⟩ := hp
      rw [e, nD] at e1
      cases e1
    refine ⟨_, _, rfl, ⟨by decide, by decide, by decide, by decide⟩, ?_⟩
    refine for_range (fun i σ H' => ∃ v3 v4 v5, σ = [some (.ref p), some (.int most), some (.ref D), v3, v4, v5] ∧ Same H H' ∧ ∃ as : List Addr, H' D = some (.lst (as.map V.ref)) ∧ as.length ≤ 12 * i ∧ (0 < i → as ≠ []) ∧ ∀ a ∈ as, Good most H' a ∧ H a = none)
      ⟨none, none, none, rfl, Same.new nD, [], upd_same, by decide, fun h => absurd h (by decide), fun _ h => by cases h⟩ ?_ ?_
    · rintro i σ H1 hi ⟨v3, v4, v5, rfl, p1, as, p2, p3, p4, p5⟩
      refine ⟨_, _, rfl, ⟨by decide, by decide, by decide, by decide⟩, ?_⟩
      refine for_range (fun j σ H' => ∃ v4 v5, σ = [some (.ref p), some (.int most), some (.ref D), some (.int (1 + (i : Int))), v4, v5] ∧ Same H H' ∧ ∃ as : List Addr, H' D = some (.lst (as.map V.ref)) ∧ as.length ≤ 12 * i + 3 * j ∧ (0 < i ∨ 0 < j → as ≠ []) ∧ ∀ a ∈ as, Good most H' a ∧ H a = none)
        ⟨v4, v5, rfl, p1, as, p2, by omega, fun h => p4 (by omega), p5⟩ ?_ ?_
      · rintro j σ H2 hj ⟨v4, v5, rfl, p1, as, p2, p3, p4, p5⟩
        refine ⟨_, rfl, .inl ⟨rfl, _, SqL.of p2⟩, ?_⟩
        refine ⟨_, rfl, by decide, by decide, fun d nd => ?_⟩
        refine lc_it walk_range (fun k H' => Same H2 H' ∧ ∃ bs : List Addr, H' d = some (.lst (bs.map V.ref)) ∧ bs.length ≤ k ∧ (0 < k → i = 0 → j = 0 → bs ≠ []) ∧ ∀ a ∈ bs, Good most H' a ∧ H2 a = none) ⟨Same.new nd, [], upd_same, by decide, fun h => absurd h (by decide), fun _ h => by cases h⟩ (fun _ _ _ _ => trivial) ?_ ?_
        · intro k x H' H3 hk pp y
          obtain ⟨rfl, rfl⟩ := y
          obtain ⟨q1, bs, q2, q3, q4, q5⟩ := pp
          have nb : ∀ {t : Addr}, H3 t = none → H2 t = none := fun {t} n => by
            cases h : H2 t with
            | none => rfl
            | some o => rw [q1 _ _ h] at n; cases n
          refine ⟨rfl, _, rfl, _, rfl, _, _, rfl, rfl, _, _, rfl, rfl, .inl ⟨by omega, by omega⟩, _, rfl, _, _, rfl, rfl, _, rfl, _, _, rfl, rfl, _, rfl, iteD (fun hle => ?_) fun hgt => ?_⟩
          · refine ⟨_, rfl, _, rfl, _, rfl, (by show 3 ≤ sizeLine; decide), fun t nt => ?_⟩
            have s3 := Same.new (o := .tup [.int (1 + (i : Int)), .int (1 + (j : Int)), .int (0 + (k : Int))]) nt
            have td : d ≠ t := fun e => by rw [e] at q2; rw [q2] at nt; cases nt
            have ed : upd H3 t (.tup [.int (1 + (i : Int)), .int (1 + (j : Int)), .int (0 + (k : Int))]) d = some (.lst (bs.map V.ref)) := s3 _ _ q2
            refine ⟨_, ed, ?_, fun b o e => ?_, bs ++ [t], by rw [upd_same, List.map_append]; rfl, by rw [List.length_append, List.length_singleton]; omega, fun _ _ _ => by simp, fun a ha => ?_⟩
            · rw [List.length_map]
              exact Nat.lt_of_lt_of_le (m := 1000) (by omega) (by decide)
            · rw [upd_ne (ne_of_none e nd)]
              exact s3 _ _ (q1 _ _ e)
            · rcases List.mem_append.mp ha with ha | ha
              · exact ⟨((q5 a ha).1.same s3).put ed, (q5 a ha).2⟩
              · rw [List.mem_singleton.mp ha]
                refine ⟨⟨1 + (i : Int), 1 + (j : Int), 0 + (k : Int), ?_, by omega, by omega, by omega, by omega, by omega, by omega, hle⟩, nb nt⟩
                rw [upd_ne (Ne.symm td)]
                exact upd_same
          · refine ⟨q1, bs, q2, by omega, fun _ i0 j0 => ?_, q5⟩
            subst i0 j0
            by_cases k0 : k = 0
            · subst k0
              exfalso
              apply hgt
              show _ ≤ _
              omega
            · exact q4 (by omega) rfl rfl
        · intro H3 pp
          obtain ⟨q1, bs, q2, q3, q4, q5⟩ := pp
          have s2 : (3 : Int).toNat = 3 := rfl
          rw [s2] at q3
          refine ⟨_, _, _, _, rfl, rfl, q1 _ _ p2, q2, ?_, _, v5, rfl, fun b o e => ?_, as ++ bs, by rw [upd_same, List.map_append], ?_, fun _ => ?_, fun a ha => ?_⟩
          · rw [List.length_map, List.length_map]
            exact Nat.le_trans (m := 1000) (by omega) (by decide)
          · rw [upd_ne (ne_of_none e nD)]
            exact q1 _ _ (p1 _ _ e)
          · rw [List.length_append]
            omega
          · intro e
            obtain ⟨e1, e2⟩ := List.append_eq_nil_iff.mp e
            by_cases h : 0 < i ∨ 0 < j
            · exact p4 h e1
            · exact q4 (by decide) (by omega) (by omega) e2
          · rcases List.mem_append.mp ha with ha | ha
            · exact ⟨((p5 a ha).1.same q1).put (q1 _ _ p2), (p5 a ha).2⟩
            · refine ⟨(q5 a ha).1.put (q1 _ _ p2), ?_⟩
              cases h : H a with
              | none => rfl
              | some o => have z := (q5 a ha).2; rw [p1 _ _ h] at z; cases z
      · rintro σ H2 ⟨v4, v5, rfl, p1, as, p2, p3, p4, p5⟩
        exact ⟨_, _, _, rfl, p1, as, p2, by omega, fun _ => p4 (.inr (by decide)), p5⟩
    · rintro σ H1 ⟨v3, v4, v5, rfl, p1, as, p2, p3, p4, p5⟩
      have n0 : as ≠ [] := p4 (by decide)
      have l0' : 0 < as.length := by
        cases as with
        | nil => exact absurd rfl n0
        | cons x y => simp
      have lt200 : ((as.length : Nat) : Int) < 2 ^ 200 := by
        have h4 : (5 - 1 : Int).toNat = 4 := rfl
        rw [h4] at p3
        have : (48 : Int) < 2 ^ 200 := by decide
        omega
      refine ⟨_, rfl, _, rfl, _, rfl, _, _, rfl, .inl ⟨_, SqL.of p2, rfl⟩, p, c, _, rfl, hp.same p1, c1, by rw [List.length_map]; omega, by rw [List.length_map]; exact lt200, fun v H2 v0 v1 hp2 k2 => ?_⟩
      rw [List.length_map] at v1
      have hv : v.toNat < as.length := by omega
      have ha : as[v.toNat] ∈ as := List.getElem_mem _
      obtain ⟨g, z, m, e, g1, g4, s1, s4, m0, m2, hm⟩ := (p5 _ ha).1
      have eD := k2 _ _ p2 (Ne.symm pD)
      have ea : H2 as[v.toNat] = some (.tup [.int g, .int z, .int m]) := k2 _ _ e fun z => by
        obtain ⟨_, _, _, e1, _⟩ := hp
        have := (p5 _ ha).2
        rw [z] at this
        rw [this] at e1
        cases e1
      have hat : atI (as.map V.ref) v = some (.ref as[v.toNat]) := by
        obtain ⟨n, rfl⟩ : ∃ n : Nat, v = (n : Int) := ⟨v.toNat, by omega⟩
        refine atI_nat ?_
        rw [List.getElem?_map, List.getElem?_eq_getElem (by simpa using hv)]
        rfl
      refine ⟨_, _, _, _, rfl, rfl, SqL.of eD, hat, ?_⟩
      exact q _ g z m H2 ⟨SqT.of ea, g1, g4, s1, s4, m0, m2⟩ hm hp2 ((Kp.of p1).trans k2) (p5 _ ha).2
mutual
/-- lists and tuples of at most a million members -/
def wide : PyData → Bool
  | .list xs | .tuple xs => decide (xs.length ≤ 1000000) && wideAll xs
  | .dict _ => false
  | .none | .bool _ | .int _ | .str _ => true
def wideAll : List PyData → Bool
  | [] => true
  | x :: xs => wide x && wideAll xs
end
theorem wideAll_get : ∀ {ds : List PyData} {i : Nat} {d : PyData}, wideAll ds = true → ds[i]? = some d → wide d = true
  | [], _, _, _, e => by simp at e
  | x :: xs, 0, d, h, e => by
    rw [wideAll, Bool.and_eq_true] at h
    simp at e
    exact e ▸ h.1
  | x :: xs, i + 1, d, h, e => by
    rw [wideAll, Bool.and_eq_true] at h
    exact wideAll_get h.2 (by simpa using e)
theorem wide_ints (xs : List Int) : wideAll (xs.map PyData.int) = true := by
  induction xs with
  | nil => rfl
  | cons x xs ih => rw [List.map_cons, wideAll, ih]; rfl
theorem depth_get : ∀ {ds : List PyData} {i : Nat} {d : PyData}, ds[i]? = some d → PyData.depth d ≤ PyData.depthAll ds
  | [], _, _, e => by simp at e
  | x :: xs, 0, d, e => by
    simp at e
    rw [PyData.depthAll, e]
    exact Nat.le_max_left _ _
  | x :: xs, i + 1, d, e => by
    rw [PyData.depthAll]
    exact Nat.le_trans (depth_get (ds := xs) (i := i) (by simpa using e)) (Nat.le_max_right _ _)
theorem dpAll_len {K : PySem.W.Frag} {H : Hp} : ∀ {xs : List V} {ds : List PyData}, DpAll K H xs ds → xs.length = ds.length
  | [], [], .nil => rfl
  | _ :: _, _ :: _, .cons _ t => by rw [List.length_cons, List.length_cons, dpAll_len t]
theorem dpAll_get {K : PySem.W.Frag} {H : Hp} : ∀ {xs : List V} {ds : List PyData}, DpAll K H xs ds → ∀ {i : Nat} {v : V}, xs[i]? = some v → ∃ d, ds[i]? = some d ∧ Dp K H v d
  | [], [], .nil, i, v, e => by simp at e
  | x :: xs, d :: ds, .cons h t, 0, v, e => by
    simp at e
    exact ⟨d, by simp, e ▸ h⟩
  | x :: xs, d :: ds, .cons h t, i + 1, v, e => by
    obtain ⟨d', e1, e2⟩ := dpAll_get t (i := i) (v := v) (by simpa using e)
    exact ⟨d', by simpa using e1, e2⟩
mutual
theorem dp_same {K : PySem.W.Frag} {H H' : Hp} (s : Same H H') : ∀ {v : V} {d : PyData}, Dp K H v d → Dp K H' v d
  | _, _, .non => .non
  | _, _, .bl b => .bl b
  | _, _, .int i => .int i
  | _, _, .str x => .str x
  | _, _, .lst h a => .lst (s.seq h) (dpAll_same s a)
  | _, _, .tup h a => .tup (Same.sqt s h) (dpAll_same s a)
theorem dpAll_same {K : PySem.W.Frag} {H H' : Hp} (s : Same H H') : ∀ {xs : List V} {ds : List PyData}, DpAll K H xs ds → DpAll K H' xs ds
  | _, _, .nil => .nil
  | _, _, .cons h t => .cons (dp_same s h) (dpAll_same s t)
end
def tyD : PyData → String
  | .none => "NoneType"
  | .bool _ => "bool"
  | .int _ => "int"
  | .str _ => "str"
  | .list _ => "list"
  | .tuple _ => "tuple"
  | .dict _ => "dict"
theorem Dp.ty {K : PySem.W.Frag} {H : Hp} {v : V} {d : PyData} (h : Dp K H v d) : Ty K H v (tyD d) := by
  cases h with
  | non => exact .non
  | bl b => exact .bl b
  | int i => exact .int i
  | str x => exact .str x
  | lst h _ => exact .lst h
  | tup h _ => exact .tup h
theorem kitAnyLT {K : PySem.W.Frag} {n : String} (h : n ∈ ["NoneType", "bool", "int", "str", "list", "tuple", "dict"]) : PySem.W.kitAny K (.type n) [.type "list", .type "tuple"] = some (n == "list" || n == "tuple") := by
  unfold PySem.W.kitAny
  rw [kit_ty (K := K) (kit_names (c := "list") (by decide) h)]
  unfold PySem.W.kitAny
  rw [kit_ty (K := K) (kit_names (c := "tuple") (by decide) h)]
  unfold PySem.W.kitAny
  simp only [List.mem_cons, List.not_mem_nil, or_false] at h
  rcases h with rfl | rfl | rfl | rfl | rfl | rfl | rfl <;> rfl
/-- both are the same data, of depth below k -/
def spSame (K : PySem.W.Frag) : Nat → Sp
  | 0 => fun _ _ _ _ => False
  | k + 1 => fun vs H Q _ => ∃ (x y : V) (d : PyData), vs = [x, y] ∧ Dp K H x d ∧ Dp K H y d ∧ wide d = true ∧ PyData.depth d ≤ k ∧ ∀ H', Same H H' → Q (.bl true) H'
theorem ok_same (T : Txt K mg) (F : At K mg "_law_same" s__law_same ["found", "due"]) : ∀ k, Dn P w K mg base CX0 k "_law_same" ["found", "due"] (spSame K k)
  | 0 => F.none 0
  | k + 1 => by
    have D__law_same := ok_same T F k
    refine F.ok sc__law_same (fun vs H Q E h => ?_) (fun f cdv A outer s H vs Q E hr h => ?_)
    · obtain ⟨x, y, d, rfl, _⟩ := h
      rfl
    · obtain ⟨x, y, d, rfl, hx, hy, hw, hk, q⟩ := h
      refine ⟨_, (pss_cons (ps_if (pt_val (pe_callB (r := rIsiT K) call_isiT (by rfl) T.n_isinstance (by decide +kernel) (pa_cons (pv 1) (pa_cons (pe_tup (pa_cons (pe_bltn (v := .ty "list") (u := .type "list") (by rfl) T.n_list (by decide +kernel) (by exact rfl)) (pa_cons (pe_bltn (v := .ty "tuple") (u := .type "tuple") (by rfl) T.n_tuple (by decide +kernel) (by exact rfl)) pa_nil))) pa_nil)))) (pss_cons (ps_if (PW.pt (pw_or (pt_cmpR op_ne (pe_callB (r := rIsi K) call_isi (by rfl) T.n_isinstance (by decide +kernel) (pa_cons (pv 0) (pa_cons (pe_bltn (v := .ty "list") (u := .type "list") (by rfl) T.n_list (by decide +kernel) (by exact rfl)) pa_nil))) (pe_callB (r := rIsi K) call_isi (by rfl) T.n_isinstance (by decide +kernel) (pa_cons (pv 1) (pa_cons (pe_bltn (v := .ty "list") (u := .type "list") (by rfl) T.n_list (by decide +kernel) (by exact rfl)) pa_nil))) (nomark _)) (pw_or1 (pt_not (pt_val (pe_callB (r := rIsiT K) call_isiT (by rfl) T.n_isinstance (by decide +kernel) (pa_cons (pv 0) (pa_cons (pe_tup (pa_cons (pe_bltn (v := .ty "list") (u := .type "list") (by rfl) T.n_list (by decide +kernel) (by exact rfl)) (pa_cons (pe_bltn (v := .ty "tuple") (u := .type "tuple") (by rfl) T.n_tuple (by decide +kernel) (by exact rfl)) pa_nil))) pa_nil)))))))) (pss_one (ps_ret pe_bl)) pss_nil)
  (pss_one (ps_ret (pe_and (pe_cmpR op_eq (pe_callB (r := rLen K) call_len (by rfl) T.n_len (by decide +kernel) (pa_cons (pv 0) pa_nil)) (pe_callB (r := rLen K) call_len (by rfl) T.n_len (by decide +kernel) (pa_cons (pv 1) pa_nil)) (nomark _)) (pe_one (pe_callB (r := rAll K) (cr_all rfl) (by rfl) T.n_all (by decide +kernel) (pa_cons (pe_lc (own := [("k", 2)]) (g := (gName 2)) (by rfl) sc__law_same.nd (pi_range1 (by rfl) T.n_range (pa_cons (pe_callB (r := rLen K) call_len (by rfl) T.n_len (by decide +kernel) (pa_cons (pv 1) pa_nil)) pa_nil)) (blkOk_by (own := [("k", 2)]) (N := ["found", "due", "k"]) (sc := defScope s__law_same) (by decide +kernel)) (fun _ _ _ _ _ => (pg_name (i := 2) sc__law_same.nd rfl (by first | exact Or.inl rfl | exact Or.inr rfl) (by first | exact Or.inr rfl | exact Or.inl rfl))) (fun _ _ _ _ _ => pts_nil) (fun _ _ _ _ _ => (pe_callD D__law_same (by first | exact hr | exact hr.mono (by decide)) (pa_cons (pe_ix (r := rIx K) ix_seq (pv 0) (pv 2) (fun _ _ => rfl)) (pa_cons (pe_ix (r := rIx K) ix_seq (pv 1) (pv 2) (fun _ _ => rfl)) pa_nil))))) pa_nil))))))) pss_nil)
  (pss_one (ps_ret (pe_and (pe_cmpR op_eq (pv 0) (pv 1) (nomark _)) (pe_one (pe_cmpR op_eq (pe_callB (r := rIsi K) call_isi (by rfl) T.n_isinstance (by decide +kernel) (pa_cons (pv 0) (pa_cons (pe_bltn (v := .ty "bool") (u := .type "bool") (by rfl) T.n_bool (by decide +kernel) (by exact rfl)) pa_nil))) (pe_callB (r := rIsi K) call_isi (by rfl) T.n_isinstance (by decide +kernel) (pa_cons (pv 1) (pa_cons (pe_bltn (v := .ty "bool") (u := .type "bool") (by rfl) T.n_bool (by decide +kernel) (by exact rfl)) pa_nil))) (nomark _))))))), ?_⟩
      have tx := Dp.ty hx
      have ty := Dp.ty hy
      refine ⟨_, rfl, (by show 2 ≤ sizeLine; decide), fun t nt => ?_⟩
      have s1 := Same.new (o := .tup [.ty "list", .ty "tuple"]) nt
      refine ⟨_, _, _, _, _, _, rfl, upd_same, .cons (.ty _) (.cons (.ty _) .nil), (ty.same s1).x, kitAnyLT ty.names, ?_⟩
      have hx1 := dp_same s1 hx
      have hy1 := dp_same s1 hy
      generalize upd H t (.tup [.ty "list", .ty "tuple"]) = H1 at *
      cases d with
      | dict kv => cases hx
      | list ds =>
        have tx1 : Ty K H1 _ _ := Dp.ty hx1
        have ty1 : Ty K H1 _ _ := Dp.ty hy1
        obtain ⟨a, xs, rfl, sa, pa⟩ : ∃ a xs, x = .ref a ∧ SqL K H1 a xs ∧ DpAll K H1 xs ds := by
          cases hx1 with | lst h1 h2 => exact ⟨_, _, rfl, h1, h2⟩
        obtain ⟨b, ys, rfl, sb, pb⟩ : ∃ b ys, y = .ref b ∧ SqL K H1 b ys ∧ DpAll K H1 ys ds := by
          cases hy1 with | lst h1 h2 => exact ⟨_, _, rfl, h1, h2⟩
        have lx := dpAll_len pa
        have ly := dpAll_len pb
        rw [wide, Bool.and_eq_true, decide_eq_true_eq] at hw
        rw [PyData.depth] at hk
        refine ⟨_, rfl, ?_⟩
        refine ⟨_, rfl, _, _, _, _, _, rfl, .ty "list", tx1.x, tx1.kit "list", _, rfl, _, _, _, _, _, rfl, .ty "list", ty1.x, ty1.kit "list", rfl, _, rfl, iteDn (fun z => absurd rfl z) fun _ => ?_⟩
        refine ⟨_, rfl, (by show 2 ≤ sizeLine; decide), fun t2 nt2 => ?_⟩
        have s2 := Same.new (o := .tup [.ty "list", .ty "tuple"]) nt2
        refine ⟨_, _, _, _, _, _, rfl, upd_same, .cons (.ty _) (.cons (.ty _) .nil), (tx1.same s2).x, kitAnyLT tx1.names, _, rfl, ?_⟩
        have s3 := Same.trans s1 s2
        have sa := Same.seq s2 sa
        have sb := Same.seq s2 sb
        have pa := dpAll_same s2 pa
        have pb := dpAll_same s2 pb
        generalize upd H1 t2 (.tup [.ty "list", .ty "tuple"]) = H2 at *
        refine ⟨_, rfl, ?_⟩
        refine ⟨_, _, rfl, .inl ⟨_, sa, rfl⟩, ?_⟩
        refine ⟨_, rfl, _, _, rfl, .inl ⟨_, sb, rfl⟩, rfl, ?_⟩
        rw [lx, ly, decide_eq_true rfl]
        refine ⟨_, rfl, ?_⟩
        refine ⟨_, rfl, _, _, rfl, .inl ⟨_, sb, rfl⟩, ?_⟩
        rw [ly]
        obtain ⟨k, rfl⟩ : ∃ k', k = k' + 1 := ⟨k - 1, by omega⟩
        refine ⟨_, rfl, by omega, by omega, fun D nD => ?_⟩
        rw [Int.toNat_natCast]
        refine lc_bools walk_range (fun _ => true) nD (small1000' hw.1) (fun _ _ => trivial) ?_ ?_
        · intro i x H3 H4 R R' hi s4 y kk
          obtain ⟨rfl, rfl⟩ := y
          have hx' : i < xs.length := by omega
          have hy' : i < ys.length := by omega
          have e1 : xs[i]? = some xs[i] := List.getElem?_eq_getElem hx'
          have e2 : ys[i]? = some ys[i] := List.getElem?_eq_getElem hy'
          obtain ⟨d1, g1, p1⟩ := dpAll_get pa e1
          obtain ⟨d2, g2, p2⟩ := dpAll_get pb e2
          rw [g1] at g2
          cases g2
          have a1 : atI xs (0 + (i : Int)) = some xs[i] := by rw [Int.zero_add]; exact atI_nat e1
          have a2 : atI ys (0 + (i : Int)) = some ys[i] := by rw [Int.zero_add]; exact atI_nat e2
          refine ⟨rfl, _, rfl, _, rfl, .inl ⟨_, _, _, _, rfl, rfl, Same.seq s4 sa, a1, ?_⟩⟩
          refine ⟨_, rfl, _, rfl, .inl ⟨_, _, _, _, rfl, rfl, Same.seq s4 sb, a2, ?_⟩⟩
          exact ⟨_, _, d1, rfl, dp_same s4 p1, dp_same s4 p2, wideAll_get hw.2 g1, Nat.le_trans (depth_get g1) (by omega), kk⟩
        · intro H3 s4 e4
          refine ⟨_, _, rfl, SqL.of e4, ?_⟩
          rw [show ((List.range ds.length).map fun _ => true).all id = true by simp]
          exact q _ (Same.trans s3 s4)
      | tuple ds =>
        have tx1 : Ty K H1 _ _ := Dp.ty hx1
        have ty1 : Ty K H1 _ _ := Dp.ty hy1
        obtain ⟨a, xs, rfl, sa, pa⟩ : ∃ a xs, x = .ref a ∧ SqT K H1 a xs ∧ DpAll K H1 xs ds := by
          cases hx1 with | tup h1 h2 => exact ⟨_, _, rfl, h1, h2⟩
        obtain ⟨b, ys, rfl, sb, pb⟩ : ∃ b ys, y = .ref b ∧ SqT K H1 b ys ∧ DpAll K H1 ys ds := by
          cases hy1 with | tup h1 h2 => exact ⟨_, _, rfl, h1, h2⟩
        have lx := dpAll_len pa
        have ly := dpAll_len pb
        rw [wide, Bool.and_eq_true, decide_eq_true_eq] at hw
        rw [PyData.depth] at hk
        refine ⟨_, rfl, ?_⟩
        refine ⟨_, rfl, _, _, _, _, _, rfl, .ty "list", tx1.x, tx1.kit "list", _, rfl, _, _, _, _, _, rfl, .ty "list", ty1.x, ty1.kit "list", rfl, _, rfl, iteDn (fun z => absurd rfl z) fun _ => ?_⟩
        refine ⟨_, rfl, (by show 2 ≤ sizeLine; decide), fun t2 nt2 => ?_⟩
        have s2 := Same.new (o := .tup [.ty "list", .ty "tuple"]) nt2
        refine ⟨_, _, _, _, _, _, rfl, upd_same, .cons (.ty _) (.cons (.ty _) .nil), (tx1.same s2).x, kitAnyLT tx1.names, _, rfl, ?_⟩
        have s3 := Same.trans s1 s2
        have sa := Same.sqt s2 sa
        have sb := Same.sqt s2 sb
        have pa := dpAll_same s2 pa
        have pb := dpAll_same s2 pb
        generalize upd H1 t2 (.tup [.ty "list", .ty "tuple"]) = H2 at *
        refine ⟨_, rfl, ?_⟩
        refine ⟨_, _, rfl, .inr ⟨_, sa, rfl⟩, ?_⟩
        refine ⟨_, rfl, _, _, rfl, .inr ⟨_, sb, rfl⟩, rfl, ?_⟩
        rw [lx, ly, decide_eq_true rfl]
        refine ⟨_, rfl, ?_⟩
        refine ⟨_, rfl, _, _, rfl, .inr ⟨_, sb, rfl⟩, ?_⟩
        rw [ly]
        obtain ⟨k, rfl⟩ : ∃ k', k = k' + 1 := ⟨k - 1, by omega⟩
        refine ⟨_, rfl, by omega, by omega, fun D nD => ?_⟩
        rw [Int.toNat_natCast]
        refine lc_bools walk_range (fun _ => true) nD (small1000' hw.1) (fun _ _ => trivial) ?_ ?_
        · intro i x H3 H4 R R' hi s4 y kk
          obtain ⟨rfl, rfl⟩ := y
          have hx' : i < xs.length := by omega
          have hy' : i < ys.length := by omega
          have e1 : xs[i]? = some xs[i] := List.getElem?_eq_getElem hx'
          have e2 : ys[i]? = some ys[i] := List.getElem?_eq_getElem hy'
          obtain ⟨d1, g1, p1⟩ := dpAll_get pa e1
          obtain ⟨d2, g2, p2⟩ := dpAll_get pb e2
          rw [g1] at g2
          cases g2
          have a1 : atI xs (0 + (i : Int)) = some xs[i] := by rw [Int.zero_add]; exact atI_nat e1
          have a2 : atI ys (0 + (i : Int)) = some ys[i] := by rw [Int.zero_add]; exact atI_nat e2
          refine ⟨rfl, _, rfl, _, rfl, .inr (.inl ⟨_, _, _, _, rfl, rfl, Same.sqt s4 sa, a1, ?_⟩)⟩
          refine ⟨_, rfl, _, rfl, .inr (.inl ⟨_, _, _, _, rfl, rfl, Same.sqt s4 sb, a2, ?_⟩)⟩
          exact ⟨_, _, d1, rfl, dp_same s4 p1, dp_same s4 p2, wideAll_get hw.2 g1, Nat.le_trans (depth_get g1) (by omega), kk⟩
        · intro H3 s4 e4
          refine ⟨_, _, rfl, SqL.of e4, ?_⟩
          rw [show ((List.range ds.length).map fun _ => true).all id = true by simp]
          exact q _ (Same.trans s3 s4)
      | none =>
        have tx1 : Ty K H1 _ _ := Dp.ty hx1
        have ty1 : Ty K H1 _ _ := Dp.ty hy1
        cases hx1
        cases hy1
        refine ⟨_, rfl, ?_⟩
        refine ⟨_, rfl, _, rfl, rfl, ?_⟩
        rw [decide_eq_true rfl]
        refine ⟨_, rfl, _, rfl, _, _, _, _, _, rfl, .ty "bool", tx1.x, tx1.kit "bool", _, rfl, _, _, _, _, _, rfl, .ty "bool", ty1.x, ty1.kit "bool", rfl, ?_⟩
        rw [decide_eq_true rfl]
        exact q _ s1
      | bool b =>
        have tx1 : Ty K H1 _ _ := Dp.ty hx1
        have ty1 : Ty K H1 _ _ := Dp.ty hy1
        cases hx1
        cases hy1
        refine ⟨_, rfl, ?_⟩
        refine ⟨_, rfl, _, rfl, rfl, ?_⟩
        rw [decide_eq_true rfl]
        refine ⟨_, rfl, _, rfl, _, _, _, _, _, rfl, .ty "bool", tx1.x, tx1.kit "bool", _, rfl, _, _, _, _, _, rfl, .ty "bool", ty1.x, ty1.kit "bool", rfl, ?_⟩
        rw [decide_eq_true rfl]
        exact q _ s1
      | int i =>
        have tx1 : Ty K H1 _ _ := Dp.ty hx1
        have ty1 : Ty K H1 _ _ := Dp.ty hy1
        cases hx1
        cases hy1
        refine ⟨_, rfl, ?_⟩
        refine ⟨_, rfl, _, rfl, rfl, ?_⟩
        rw [decide_eq_true rfl]
        refine ⟨_, rfl, _, rfl, _, _, _, _, _, rfl, .ty "bool", tx1.x, tx1.kit "bool", _, rfl, _, _, _, _, _, rfl, .ty "bool", ty1.x, ty1.kit "bool", rfl, ?_⟩
        rw [decide_eq_true rfl]
        exact q _ s1
      | str u =>
        have tx1 : Ty K H1 _ _ := Dp.ty hx1
        have ty1 : Ty K H1 _ _ := Dp.ty hy1
        cases hx1
        cases hy1
        refine ⟨_, rfl, ?_⟩
        refine ⟨_, rfl, _, rfl, rfl, ?_⟩
        rw [decide_eq_true rfl]
        refine ⟨_, rfl, _, rfl, _, _, _, _, _, rfl, .ty "bool", tx1.x, tx1.kit "bool", _, rfl, _, _, _, _, _, rfl, .ty "bool", ty1.x, ty1.kit "bool", rfl, ?_⟩
        rw [decide_eq_true rfl]
        exact q _ s1
def dataM (rows : List (List Int)) : PyData := .list (rows.map fun row => .list (row.map PyData.int))
theorem Mat.dpAll {K : PySem.W.Frag} {H : Hp} : ∀ (as : List Addr) (rows : List (List Int)), as.length = rows.length → (∀ (i : Nat) (a : Addr) (row : List Int), as[i]? = some a → rows[i]? = some row → H a = some (.lst (row.map V.int))) →
    DpAll K H (as.map V.ref) (rows.map fun row => .list (row.map PyData.int))
  | [], [], _, _ => .nil
  | a :: as, row :: rows, hl, h => .cons (.lst (SqL.of (h 0 a row rfl rfl)) (dp_ints row)) (Mat.dpAll as rows (by simpa using hl) fun i b r e1 e2 => h (i + 1) b r (by simpa using e1) (by simpa using e2))
  | [], _ :: _, hl, _ => by simp at hl
  | _ :: _, [], hl, _ => by simp at hl
theorem Mat.dp {K : PySem.W.Frag} {H : Hp} {r : Addr} {as : List Addr} {rows : List (List Int)} (M : Mat H r as rows) : Dp K H (.ref r) (dataM rows) := .lst (SqL.of M.hd) (Mat.dpAll as rows M.len M.get)
theorem depth_ints : ∀ xs : List Int, PyData.depthAll (xs.map PyData.int) = 0
  | [] => rfl
  | x :: xs => by rw [List.map_cons, PyData.depthAll, depth_ints xs]; rfl
theorem depth_rows : ∀ rows : List (List Int), PyData.depthAll (rows.map fun row => PyData.list (row.map PyData.int)) ≤ 1
  | [] => by decide
  | r :: rows => by
    rw [List.map_cons, PyData.depthAll, PyData.depth, depth_ints]
    exact Nat.max_le.mpr ⟨Nat.le_refl _, depth_rows rows⟩
theorem depth_data (rows : List (List Int)) : PyData.depth (dataM rows) ≤ 2 := by
  unfold dataM
  rw [PyData.depth]
  have := depth_rows rows
  omega
theorem wide_rows : ∀ rows : List (List Int), (∀ row ∈ rows, row.length ≤ 1000000) → wideAll (rows.map fun row => PyData.list (row.map PyData.int)) = true
  | [], _ => rfl
  | r :: rows, h => by
    rw [List.map_cons, wideAll, wide, wide_ints, wide_rows rows fun row hr => h row (List.mem_cons_of_mem _ hr), List.length_map, decide_eq_true (h r (List.mem_cons_self ..))]
    rfl
theorem wide_data {rows : List (List Int)} (hl : rows.length ≤ 1000000) (h : ∀ row ∈ rows, row.length ≤ 1000000) : wide (dataM rows) = true := by
  unfold dataM
  rw [wide, wide_rows rows h, List.length_map, decide_eq_true hl]
  rfl
theorem checks_row {g z m : Int} {row : List Int} (h : row ∈ checksM g z m) : row.length = (manyZ g z m).toNat := by
  unfold checksM at h
  rcases List.mem_append.mp h with h | h
  · obtain ⟨i, _, rfl⟩ := List.mem_map.mp h
    unfold rowL
    rw [List.length_map, List.length_range]
  · obtain ⟨i, _, rfl⟩ := List.mem_map.mp h
    unfold rowO
    rw [List.length_map, List.length_range]
theorem checks_len (g z m : Int) : (checksM g z m).length = g.toNat + m.toNat := by
  unfold checksM
  rw [List.length_append, List.length_map, List.length_map, List.length_range, List.length_range]
theorem Mould.wide {K : PySem.W.Frag} {H : Hp} {a : Addr} {g z m : Int} (M : Mould K H a g z m) : wide (dataM (checksM g z m)) = true := by
  obtain ⟨l1, l2, _, _⟩ := M.le
  obtain ⟨_, g1, g4, z1, z4, m0, m2⟩ := M
  exact wide_data (by rw [checks_len]; omega) fun row h => by rw [checks_row h]; omega
theorem times_size8 (n : Nat) (h : n ≤ 63) : 0 ≤ (if (if (8 : Int) < (n : Int) then (8 : Int) else (n : Int)) > 1 then (if (8 : Int) < (n : Int) then (8 : Int) else (n : Int)) else 1) ∧ (if (if (8 : Int) < (n : Int) then (8 : Int) else (n : Int)) > 1 then (if (8 : Int) < (n : Int) then (8 : Int) else (n : Int)) else 1) ≤ 8 := by
  split <;> split <;> omega
def spLaw (K : PySem.W.Frag) : Sp := fun vs H Q _ => ∃ (a : Addr) (ns : List Int), vs = [.ref a] ∧ SqL K H a (ns.map V.int) ∧ ns.length ≤ 63 ∧ ∀ H', Q (.bl true) H'
theorem ok_law (T : Txt K mg) {dv : V} (hdv : dv = .ref (He.ga K "PLAIN")) (D__law_purse : Dn P w K mg base CX0 1 "_law_purse" ["script", "k"] (spPurse K)) (D__law_shape : Dn P w K mg base CX0 2 "_law_shape" ["purse", "most"] (spMould K)) (D__law_same : Dn P w K mg base CX0 3 "_law_same" ["found", "due"] (spSame K 3))
    (D__law_checks : Dn P w K mg base CX0 1 "_law_checks" ["mould"] (spChecks K)) (D_checks : DnK P w K mg base CX0 11 "checks" [] "shape" dv (spChecks K))
    {f : Addr} {fd : FuncData} (F : FunD K "law" "law" (defArgs s_law) (defBody s_law) (defScope s_law) [] [] f fd) : FnOk P w K mg base CX0 12 f fd ["script"] (spLaw K) := by
  refine ok0 F sc_law (fun vs H Q E h => ?_) (fun f cdv A outer s H vs Q E hr h => ?_)
  · obtain ⟨a, ns, rfl, _⟩ := h
    rfl
  · obtain ⟨a, ns, rfl, hS, hl, q⟩ := h
    refine ⟨_, (pss_cons (ps_for PassesOwn.never rfl (pi_range1 (by rfl) T.n_range (pa_cons (pe_callB (call_max2 rfl) (by rfl) T.n_max (by decide +kernel) (pa_cons pe_int (pa_cons (pe_callB (call_min2 rfl) (by rfl) T.n_min (by decide +kernel) (pa_cons pe_int (pa_cons (pe_callB (r := rLen K) call_len (by rfl) T.n_len (by decide +kernel) (pa_cons (pv 0) pa_nil)) pa_nil))) pa_nil))) pa_nil)) (pg_name (i := 1) sc_law.nd rfl (by first | exact Or.inl rfl | exact Or.inr rfl))
  (pss_cons (ps_set (i := 2) sc_law.nd rfl (by first | exact Or.inl rfl | exact Or.inr rfl) (pe_callD D__law_shape (by first | exact hr | exact hr.mono (by decide)) (pa_cons (pe_callD D__law_purse (by first | exact hr | exact hr.mono (by decide)) (pa_cons (pv 0) (pa_cons (pv 1) pa_nil))) (pa_cons pe_int pa_nil))))
  (pss_cons (ps_set (i := 3) sc_law.nd rfl (by first | exact Or.inl rfl | exact Or.inr rfl) (pe_callD D__law_checks (by first | exact hr | exact hr.mono (by decide)) (pa_cons (pv 2) pa_nil)))
  (pss_cons (ps_set (i := 4) sc_law.nd rfl (by first | exact Or.inl rfl | exact Or.inr rfl) (pe_callW0 D_checks (by first | exact hr | exact hr.mono (by decide)) (pv 2)))
  (pss_cons (ps_if (pt_not (pt_val (pe_callD D__law_same (by first | exact hr | exact hr.mono (by decide)) (pa_cons (pv 4) (pa_cons (pv 3) pa_nil))))) (pss_one (ps_ret pe_bl)) pss_nil)
  (pss_cons (ps_setLc (i := 6) (own := [("row", 5)]) (g := (gName 5)) (by rfl) sc_law.nd rfl rfl (sw_true rfl rfl rfl (by decide +kernel)) (pi_list (pv 4)) (blkOk_by (own := [("row", 5)]) (N := ["script", "k", "mould", "due", "found", "row", "sizes"]) (sc := defScope s_law) (by decide +kernel)) (fun _ _ _ _ _ => (pg_name (i := 5) sc_law.nd rfl (by first | exact Or.inl rfl | exact Or.inr rfl) (by first | exact Or.inr rfl | exact Or.inl rfl))) (fun _ _ _ _ _ => pts_nil) (fun _ _ _ _ _ => (pe_callB (r := rLen K) call_len (by rfl) T.n_len (by decide +kernel) (pa_cons (pv 5) pa_nil))))
  (pss_cons (ps_for PassesOwn.never rfl (pi_list (pv 4)) (pg_name (i := 5) sc_law.nd rfl (by first | exact Or.inl rfl | exact Or.inr rfl))
  (pss_one (ps_expr (pe_bmK K PySem.F.plainAttrs_list PySem.F.slot_list_append PySem.F.type_list_append mt_append (pv 5) (pa_cons pe_int pa_nil)))))
  (pss_cons (ps_expr (pe_bmK K PySem.F.plainAttrs_list PySem.F.slot_list_append PySem.F.type_list_append mt_append (pv 4) (pa_cons (pe_lst pa_nil) pa_nil)))
  (pss_one (ps_if (PW.pt (pw_or (pt_cmpR (r := rNeD K) (op_neD hr.units) (pe_lc (own := [("row", 5)]) (g := (gName 5)) (by rfl) sc_law.nd (pi_list (pe_slice (r := rSlL K) sl_list (pv 4) po_none (po_some (pe_un un_neg pe_int)))) (blkOk_by (own := [("row", 5)]) (N := ["script", "k", "mould", "due", "found", "row", "sizes"]) (sc := defScope s_law) (by decide +kernel)) (fun _ _ _ _ _ => (pg_name (i := 5) sc_law.nd rfl (by first | exact Or.inl rfl | exact Or.inr rfl) (by first | exact Or.inr rfl | exact Or.inl rfl))) (fun _ _ _ _ _ => pts_nil) (fun _ _ _ _ _ => (pe_op op_sub (pe_callB (r := rLen K) call_len (by rfl) T.n_len (by decide +kernel) (pa_cons (pv 5) pa_nil)) pe_int))) (pv 6) (nomark _)) (pw_or1 (pt_not (pt_val (pe_callD D__law_same (by first | exact hr | exact hr.mono (by decide)) (pa_cons (pe_callW0 D_checks (by first | exact hr | exact hr.mono (by decide)) (pv 2)) (pa_cons (pv 3) pa_nil)))))))) (pss_one (ps_ret pe_bl)) pss_nil))))))))))
  (pss_one (ps_ret (pe_callD D__law_same (by first | exact hr | exact hr.mono (by decide)) (pa_cons (pe_callWd0 D_checks (by first | exact hr | exact hr.mono (by decide))) (pa_cons (pe_callD D__law_checks (by first | exact hr | exact hr.mono (by decide)) (pa_cons (pe_tup (pa_cons pe_int (pa_cons pe_int (pa_cons pe_int pa_nil)))) pa_nil)) pa_nil)))))), ?_⟩
    obtain ⟨z0, z1⟩ := times_size8 (ns.map V.int).length (by rw [List.length_map]; exact hl)
    refine ⟨_, rfl, _, _, rfl, .inl ⟨_, hS, rfl⟩, _, _, rfl, _, _, rfl, _, rfl, by omega, by omega, ?_⟩
    refine for_range (lo := 0) (fun i σ H' => ∃ v1 v2 v3 v4 v5 v6, σ = [some (.ref a), v1, v2, v3, v4, v5, v6] ∧ SqL K H' a (ns.map V.int)) ⟨none, none, none, none, none, none, rfl, hS⟩ ?_ ?_
    · rintro i_ σ H0 hi ⟨v1, v2, v3, v4, v5, v6, rfl, hS0⟩
      refine ⟨_, rfl, _, rfl, a, ns, _, rfl, hS0, by omega, by omega, by omega, fun p x y np x0 y0 y1 => ?_⟩
      have hp0 : Purse (upd H0 p (.lst [.int x, .int y, .int 0])) p 0 := ⟨x, y, 0, upd_same, x0, y0, y1, by omega, by omega⟩
      refine ⟨p, 0, 22, rfl, hp0, by omega, by omega, fun b g z m H1 M1 _ _ k1 _ => ?_⟩
      have s1 : Same H0 H1 := Kp.same (Same.refl _) np ((Kp.new np).trans k1)
      refine ⟨_, rfl, b, g, z, m, rfl, M1, fun due ds H2 s2 MD fD => ?_⟩
      refine ⟨_, rfl, rfl, b, g, z, m, rfl, M1.same s2, fun fo as H3 s3 MF fF => ?_⟩
      have MD3 := MD.same s3
      refine ⟨_, rfl, _, rfl, _, _, _, rfl, MF.dp, MD3.dp, M1.wide, depth_data _, fun H4 s4 => ?_⟩
      refine ⟨_, rfl, ?_⟩
      obtain ⟨l1, l2, l3, l4⟩ := M1.le
      have MF4 := MF.same s4
      have rowlen : ∀ (i : Nat) (c : Addr) (row : List Int), (checksM g z m)[i]? = some row → row.length = (manyZ g z m).toNat := fun i c row e => checks_row (List.mem_of_getElem? e)
      have nn : as.length ≤ 6 := by
        obtain ⟨_, g1, g4, _, _, m0, m2⟩ := M1
        rw [MF.len, checks_len]
        omega
      have getF : ∀ (i : Nat) (c : Addr), as[i]? = some c → ∃ row : List Int, H4 c = some (.lst (row.map V.int)) ∧ row.length = (manyZ g z m).toNat := fun i c e => by
        have hi : i < as.length := (List.getElem?_eq_some_iff.mp e).1
        have hi2 : i < (checksM g z m).length := by rw [← MF.len]; exact hi
        exact ⟨_, MF4.get i c _ e (List.getElem?_eq_getElem hi2), rowlen i c _ (List.getElem?_eq_getElem hi2)⟩
      refine ⟨_, rfl, _, rfl, ⟨_, SqL.of MF4.hd⟩, fun sz nsz => ?_⟩
      refine lc_ints walk_list (fun _ => manyZ g z m) nsz (by rw [List.length_map]; exact small1000' (by omega)) (fun H s => s.seq (SqL.of MF4.hd)) ?_ ?_
      · intro i x H5 H6 R R' hi s5 y k
        obtain ⟨rfl, ex⟩ := y
        rw [List.getElem?_map] at ex
        obtain ⟨c, ec, rfl⟩ := Option.map_eq_some_iff.mp ex
        obtain ⟨row, er, lr⟩ := getF i c ec
        refine ⟨rfl, _, rfl, _, _, rfl, .inl ⟨_, SqL.of (s5 _ _ er), rfl⟩, ?_⟩
        rw [List.length_map, lr, show (((manyZ g z m).toNat : Nat) : Int) = manyZ g z m by omega]
        exact k _ (Same.refl _)
      · intro H5 s5 e5
        rw [List.length_map] at e5
        have MF5 := MF4.same s5
        have szas : sz ∉ as := fun h => by obtain ⟨o, e⟩ := MF4.in h; rw [nsz] at e; cases e
        have szfo : sz ≠ fo := fun e => by rw [e, MF4.hd] at nsz; cases nsz
        have foas : fo ∉ as := (List.nodup_cons.mp MF.nd).1
        refine ⟨_, rfl, _, rfl, ⟨_, SqL.of MF5.hd⟩, ?_⟩
        refine for_list (xs := as.map V.ref) (fun i σ H' => ∃ v5, σ = [some (.ref a), some (.int (0 + (i_ : Int))), some (.ref b), some (.ref due), some (.ref fo), v5, some (.ref sz)] ∧ (∀ b o, H5 b = some o → b ∉ as → H' b = some o) ∧
          (∀ j c, as[j]? = some c → ∃ L : List Int, H' c = some (.lst (L.map V.int)) ∧ L.length = (manyZ g z m).toNat + (if j < i then 1 else 0))) ⟨_, rfl, fun _ _ h _ => h, fun j c e => ?_⟩ (fun i σ H' _ p => ?_) ?_ ?_
        · obtain ⟨row, er, lr⟩ := getF j c e
          exact ⟨row, s5 _ _ er, by rw [lr, if_neg (by omega)]; rfl⟩
        · obtain ⟨v5, _, p1, _⟩ := p
          exact SqL.of (p1 _ _ MF5.hd foas)
        · rintro i x σ H6 ex ⟨v5, rfl, p1, p2⟩
          rw [List.getElem?_map] at ex
          obtain ⟨c, ec, rfl⟩ := Option.map_eq_some_iff.mp ex
          have hc : c ∈ as := List.mem_of_getElem? ec
          obtain ⟨L, eL, lL⟩ := p2 i c ec
          rw [if_neg (by omega)] at lL
          refine ⟨_, rfl, .inl ⟨rfl, _, SqL.of eL⟩, _, _, _, rfl, rfl, eL, ?_, _, rfl, fun b o e nb => ?_, fun j c' e => ?_⟩
          · rw [List.length_map, lL]
            exact Nat.lt_of_lt_of_le (m := 1000000) (by omega) (by decide)
          · rw [upd_ne (show b ≠ c from fun z => nb (z ▸ hc))]
            exact p1 b o e nb
          · by_cases hj : j = i
            · subst hj
              rw [ec] at e
              cases e
              exact ⟨L ++ [1], by rw [upd_same, List.map_append]; rfl, by rw [List.length_append, lL, if_pos (by omega)]; rfl⟩
            · obtain ⟨L', e', l'⟩ := p2 j c' e
              have cc : c' ≠ c := fun z => by
                rw [z] at e
                have hn := (List.nodup_cons.mp MF.nd).2
                have h1 := (List.getElem?_eq_some_iff.mp e)
                have h2 := (List.getElem?_eq_some_iff.mp ec)
                obtain ⟨q1, q2⟩ := h1
                obtain ⟨q3, q4⟩ := h2
                exact hj ((List.getElem_inj (h₀ := q1) (h₁ := q3) hn).mp (q2.trans q4.symm))
              refine ⟨L', by rw [upd_ne cc]; exact e', ?_⟩
              rw [l']
              by_cases h : j < i
              · rw [if_pos h, if_pos (by omega)]
              · rw [if_neg h, if_neg (by omega)]
        · rintro σ H6 ⟨v5, rfl, p1, p2⟩
          have efo := p1 _ _ MF5.hd foas
          have esz := p1 _ _ e5 szas
          refine ⟨_, rfl, .inl ⟨rfl, _, SqL.of efo⟩, (by show 0 ≤ sizeLine; decide), fun t nt => ?_⟩
          have fot : fo ≠ t := fun z => by rw [z, nt] at efo; cases efo
          have szt : sz ≠ t := fun z => by rw [z, nt] at esz; cases esz
          refine ⟨_, _, _, rfl, rfl, old efo nt, by rw [List.length_map]; exact Nat.lt_of_lt_of_le (m := 1000000) (by omega) (by decide), ?_⟩
          have s27 : Same H2 (upd (upd H6 t (.lst [])) fo (.lst (as.map V.ref ++ [V.ref t]))) := fun c o e => by
            have e6 := p1 c o (s5 _ _ (s4 _ _ (s3 _ _ e))) fun h => by have := fF c (List.mem_cons_of_mem _ h); rw [e] at this; cases this
            rw [upd_ne fun z => by have := fF fo (List.mem_cons_self ..); rw [← z, e] at this; cases this]
            exact old e6 nt
          have esz7 : upd (upd H6 t (.lst [])) fo (.lst (as.map V.ref ++ [V.ref t])) sz = some (.lst (((List.range as.length).map fun _ => manyZ g z m).map V.int)) := by
            rw [upd_ne szfo]
            exact old esz nt
          have efo7 : upd (upd H6 t (.lst [])) fo (.lst (as.map V.ref ++ [V.ref t])) fo = some (.lst (as.map V.ref ++ [V.ref t])) := upd_same
          have p27 : ∀ j c, as[j]? = some c → ∃ L : List Int, upd (upd H6 t (.lst [])) fo (.lst (as.map V.ref ++ [V.ref t])) c = some (.lst (L.map V.int)) ∧ L.length = (manyZ g z m).toNat + 1 := fun j c e => by
            obtain ⟨L, e1, e2⟩ := p2 j c e
            have hj := (List.getElem?_eq_some_iff.mp e).1
            rw [if_pos (by rw [List.length_map]; exact hj)] at e2
            refine ⟨L, ?_, e2⟩
            rw [upd_ne (show c ≠ fo from fun z => foas (z ▸ List.mem_of_getElem? e))]
            exact old e1 nt
          generalize upd (upd H6 t (.lst [])) fo (.lst (as.map V.ref ++ [V.ref t])) = H7 at *
          have ecut : cutV (as.map V.ref ++ [V.ref t]) none (some (-1)) = as.map V.ref := by
            unfold cutV
            simp [HT.sIx]
            rw [show (-1 + ((as.length : Int) + 1)).toNat = (as.map V.ref).length by rw [List.length_map]; omega]
            exact List.take_left
          refine ⟨_, rfl, _, rfl, _, rfl, _, _, rfl, SqL.of efo7, fun c nc => ?_⟩
          rw [ecut]
          have en : upd H7 c (.lst (as.map V.ref)) c = some (.lst (as.map V.ref)) := upd_same
          have s78 := Same.new (o := .lst (as.map V.ref)) nc
          generalize upd H7 c (.lst (as.map V.ref)) = H8 at *
          refine ⟨_, rfl, ⟨_, SqL.of en⟩, fun d nd => ?_⟩
          refine lc_ints walk_list (fun _ => manyZ g z m) nd (by rw [List.length_map]; exact small1000' (by omega)) (fun H s => s.seq (SqL.of en)) ?_ ?_
          · intro i x H9 H10 R R' hi s9 y k
            obtain ⟨rfl, ex⟩ := y
            rw [List.getElem?_map] at ex
            obtain ⟨c', ec, rfl⟩ := Option.map_eq_some_iff.mp ex
            obtain ⟨L, er, lr⟩ := p27 i c' ec
            refine ⟨rfl, _, rfl, _, _, rfl, .inl ⟨_, SqL.of (s9 _ _ (s78 _ _ er)), rfl⟩, _, _, rfl, rfl, ?_⟩
            rw [List.length_map, lr]
            show R (.int ((((manyZ g z m).toNat + 1 : Nat) : Int) - 1)) _
            rw [show ((((manyZ g z m).toNat + 1 : Nat) : Int) - 1) = manyZ g z m by omega]
            exact k _ (Same.refl _)
          · intro H9 s9 e9
            rw [List.length_map] at e9
            refine ⟨_, rfl, _, _, dpL (SqL.of e9), dpL (SqL.of (s9 _ _ (s78 _ _ esz7))), shL _, shL _, ?_⟩
            rw [eqvL]
            refine ⟨_, rfl, iteDn (fun z => absurd rfl z) fun _ => ?_⟩
            have s29 := Same.trans (Same.trans s27 s78) s9
            refine ⟨_, rfl, rfl, b, g, z, m, rfl, (M1.same s2).same s29, fun f2 as2 H10 s10 MF2 _ => ?_⟩
            refine ⟨_, rfl, _, _, _, rfl, MF2.dp, ((MD.same s29).same s10).dp, M1.wide, depth_data _, fun H11 s11 => ?_⟩
            refine ⟨_, rfl, ?_⟩
            exact ⟨_, _, _, _, _, _, rfl, s11.seq (s10.seq (s29.seq (s2.seq (s1.seq hS0))))⟩
    · rintro σ H' ⟨v1, v2, v3, v4, v5, v6, rfl, hS0⟩
      subst hdv
      refine ⟨_, 2, 3, 2, rfl, ⟨T.q_PLAIN _, by decide, by decide, by decide, by decide, by decide, by decide⟩, fun r as H1 s1 M1 _ => ?_⟩
      refine ⟨(by show 3 ≤ sizeLine; decide), fun t nt => ?_⟩
      refine ⟨t, 2, 3, 2, rfl, ⟨SqT.of upd_same, by decide, by decide, by decide, by decide, by decide, by decide⟩, fun due ds H2 s2 MD _ => ?_⟩
      have s12 := Same.trans (Same.new (o := .tup [.int 2, .int 3, .int 2]) nt) s2
      exact ⟨_, _, _, rfl, (M1.same s12).dp, MD.dp, wide_data (by rw [checks_len]; decide) (fun row h => by rw [checks_row h]; decide), depth_data _, fun H3 _ => q _⟩
end
def d_is_whole : He.DefD := ⟨("is_whole", none), "is_whole", "is_whole", defArgs s_is_whole, defBody s_is_whole, defScope s_is_whole, [], []⟩
def d_is_between : He.DefD := ⟨("is_between", none), "is_between", "is_between", defArgs s_is_between, defBody s_is_between, defScope s_is_between, [], []⟩
def d_times : He.DefD := ⟨("times", none), "times", "times", defArgs s_times, defBody s_times, defScope s_times, [], []⟩
def d_power : He.DefD := ⟨("power", none), "power", "power", defArgs s_power, defBody s_power, defScope s_power, [], []⟩
def d_is_shape : He.DefD := ⟨("is_shape", none), "is_shape", "is_shape", defArgs s_is_shape, defBody s_is_shape, defScope s_is_shape, [], []⟩
def d_check_shape : He.DefD := ⟨("check_shape", none), "check_shape", "check_shape", defArgs s_check_shape, defBody s_check_shape, defScope s_check_shape, [], []⟩
def d_count : He.DefD := ⟨("count", none), "count", "count", defArgs s_count, defBody s_count, defScope s_count, [], [("shape", .glo "PLAIN")]⟩
def d_is_place : He.DefD := ⟨("is_place", none), "is_place", "is_place", defArgs s_is_place, defBody s_is_place, defScope s_is_place, [], [("shape", .glo "PLAIN")]⟩
def d_check_place : He.DefD := ⟨("check_place", none), "check_place", "check_place", defArgs s_check_place, defBody s_check_place, defScope s_check_place, [], []⟩
def d_kind_of : He.DefD := ⟨("kind_of", none), "kind_of", "kind_of", defArgs s_kind_of, defBody s_kind_of, defScope s_kind_of, [], [("shape", .glo "PLAIN")]⟩
def d_mark : He.DefD := ⟨("mark", none), "mark", "mark", defArgs s_mark, defBody s_mark, defScope s_mark, [], [("shape", .glo "PLAIN")]⟩
def d_local_factor : He.DefD := ⟨("local_factor", none), "local_factor", "local_factor", defArgs s_local_factor, defBody s_local_factor, defScope s_local_factor, [], []⟩
def d_over_factor : He.DefD := ⟨("over_factor", none), "over_factor", "over_factor", defArgs s_over_factor, defBody s_over_factor, defScope s_over_factor, [], []⟩
def d_checks : He.DefD := ⟨("checks", none), "checks", "checks", defArgs s_checks, defBody s_checks, defScope s_checks, [], [("shape", .glo "PLAIN")]⟩
def d__law_purse : He.DefD := ⟨("_law_purse", none), "_law_purse", "_law_purse", defArgs s__law_purse, defBody s__law_purse, defScope s__law_purse, [], []⟩
def d__law_drawn : He.DefD := ⟨("_law_drawn", none), "_law_drawn", "_law_drawn", defArgs s__law_drawn, defBody s__law_drawn, defScope s__law_drawn, [], []⟩
def d__law_shape : He.DefD := ⟨("_law_shape", none), "_law_shape", "_law_shape", defArgs s__law_shape, defBody s__law_shape, defScope s__law_shape, [], []⟩
def d__law_same : He.DefD := ⟨("_law_same", none), "_law_same", "_law_same", defArgs s__law_same, defBody s__law_same, defScope s__law_same, [], []⟩
def d__law_checks : He.DefD := ⟨("_law_checks", none), "_law_checks", "_law_checks", defArgs s__law_checks, defBody s__law_checks, defScope s__law_checks, [], []⟩
def d_law : He.DefD := ⟨("law", none), "law", "law", defArgs s_law, defBody s_law, defScope s_law, [], []⟩
def fn : List He.DefD := [d_is_whole, d_is_between, d_times, d_power, d_is_shape, d_check_shape, d_count, d_is_place, d_check_place, d_kind_of, d_mark, d_local_factor, d_over_factor, d_checks, d__law_purse, d__law_drawn, d__law_shape, d__law_same, d__law_checks, d_law]
def fa : List He.Fa := [.glo "is_whole", .glo "is_between", .glo "times", .glo "power", .glo "is_shape", .glo "check_shape", .glo "count", .glo "is_place", .glo "check_place", .glo "kind_of", .glo "mark", .glo "local_factor", .glo "over_factor", .glo "checks", .glo "_law_purse", .glo "_law_drawn", .glo "_law_shape", .glo "_law_same", .glo "_law_checks", .glo "law", .free "len", .free "max", .free "min", .free "range", .free "isinstance", .free "int", .free "bool", .free "tuple", .free "list", .free "divmod", .free "all", .int "PRIME" 97, .glo "PLAIN", .glo "MARKS"]
abbrev R : PySem.W.OpenRow := PySem.W.OpenLaw.row PySem.Challenge.rw_sherdhall_k04_checks
def ex (K : PySem.W.Frag) : Bool := He.tupB K "PLAIN" [.int 2, .int 3, .int 2] && He.tupB K "MARKS" [.int 1, .int 11, .int 40, .int 30]
abbrev hk : PySem.W.Hook := hookB 4 fa fn ex
def ob (s : PySem.W.SharedT) : AlB := obsB 4 fa fn ex (HandSHeadRun.getT s)
theorem ob_eq (s : PySem.W.SharedT) : ob s = hk.obs s.abs := obsB_eq (HandSHeadRun.getT_eq s)
def loose0 : List Str := ["__name__", "SherdError", "NoShape", "NoPlace", "is_whole", "is_between", "times", "power", "is_shape", "check_shape", "count", "is_place", "check_place", "kind_of", "mark", "local_factor", "over_factor", "checks", "_law_purse", "_law_drawn", "_law_shape", "_law_same", "_law_checks", "PRIME", "PLAIN", "MARKS"]
def loose : List Str := loose0
theorem run (w : World) : HandSHeadRun.RunEq R (PySem.W.view R.prog [29]) hk ob 8000 loose w := by
  intro os
  kernel_rfl
theorem facts {P : Program} {w : World} {K : PySem.W.Frag} {h : Heap} {mg : Str → Option Value} {f : Addr} (X : K.In h) (G : h.Ns mainGlobals mg) (hfa : mg ("law" : Str) = some (.ref f)) (c : He.SaysD fa fn K) (cx : ex K = true) :
    ∃ fd : FuncData, (∀ (s : Shared) (v : Value), BindsTo s fd ⟨[v], []⟩ [("script", v)]) ∧ ∀ base : Heap, K.In base → base.Ns mainGlobals mg → FnOk P w K mg base CX0 12 f fd ["script"] (spLaw K) := by
  obtain ⟨fd_is_whole, F_is_whole⟩ := c.def_ 0 (d := d_is_whole) rfl
  have A_is_whole : At K mg "is_whole" s_is_whole ["thing"] := ⟨_, _, F_is_whole, He.glo_ok X G (c.fact 0 (f := .glo "is_whole") rfl), F_is_whole.bindsN fun _ _ _ _ _ _ us hl => match us, hl with | [_], _ => rfl⟩
  obtain ⟨fd_is_between, F_is_between⟩ := c.def_ 1 (d := d_is_between) rfl
  have A_is_between : At K mg "is_between" s_is_between ["thing", "least", "most"] := ⟨_, _, F_is_between, He.glo_ok X G (c.fact 1 (f := .glo "is_between") rfl), F_is_between.bindsN fun _ _ _ _ _ _ us hl => match us, hl with | [_, _, _], _ => rfl⟩
  obtain ⟨fd_times, F_times⟩ := c.def_ 2 (d := d_times) rfl
  have A_times : At K mg "times" s_times ["one", "other"] := ⟨_, _, F_times, He.glo_ok X G (c.fact 2 (f := .glo "times") rfl), F_times.bindsN fun _ _ _ _ _ _ us hl => match us, hl with | [_, _], _ => rfl⟩
  obtain ⟨fd_power, F_power⟩ := c.def_ 3 (d := d_power) rfl
  have A_power : At K mg "power" s_power ["one", "many"] := ⟨_, _, F_power, He.glo_ok X G (c.fact 3 (f := .glo "power") rfl), F_power.bindsN fun _ _ _ _ _ _ us hl => match us, hl with | [_, _], _ => rfl⟩
  obtain ⟨fd_is_shape, F_is_shape⟩ := c.def_ 4 (d := d_is_shape) rfl
  have A_is_shape : At K mg "is_shape" s_is_shape ["thing"] := ⟨_, _, F_is_shape, He.glo_ok X G (c.fact 4 (f := .glo "is_shape") rfl), F_is_shape.bindsN fun _ _ _ _ _ _ us hl => match us, hl with | [_], _ => rfl⟩
  obtain ⟨fd_check_shape, F_check_shape⟩ := c.def_ 5 (d := d_check_shape) rfl
  have A_check_shape : At K mg "check_shape" s_check_shape ["shape"] := ⟨_, _, F_check_shape, He.glo_ok X G (c.fact 5 (f := .glo "check_shape") rfl), F_check_shape.bindsN fun _ _ _ _ _ _ us hl => match us, hl with | [_], _ => rfl⟩
  obtain ⟨fd_count, F_count⟩ := c.def_ 6 (d := d_count) rfl
  have A_count : AtK K mg "count" s_count [] "shape" (.ref (He.ga K "PLAIN")) := atK_mk F_count (He.glo_ok X G (c.fact 6 (f := .glo "count") rfl)) (fun _ _ _ _ _ _ us ks l1 l2 => match us, ks, l1, l2 with | [], [_], _, _ => ⟨_, _, _, _, _, _, rfl, rfl, rfl⟩) (fun _ _ _ _ _ _ us ws l1 l2 => match us, ws, l1, l2 with | [], [_], _, _ => rfl)
  obtain ⟨fd_is_place, F_is_place⟩ := c.def_ 7 (d := d_is_place) rfl
  have A_is_place : AtK K mg "is_place" s_is_place ["thing"] "shape" (.ref (He.ga K "PLAIN")) := atK_mk F_is_place (He.glo_ok X G (c.fact 7 (f := .glo "is_place") rfl)) (fun _ _ _ _ _ _ us ks l1 l2 => match us, ks, l1, l2 with | [_], [_], _, _ => ⟨_, _, _, _, _, _, rfl, rfl, rfl⟩) (fun _ _ _ _ _ _ us ws l1 l2 => match us, ws, l1, l2 with | [_], [_], _, _ => rfl)
  obtain ⟨fd_check_place, F_check_place⟩ := c.def_ 8 (d := d_check_place) rfl
  have A_check_place : At K mg "check_place" s_check_place ["thing", "shape"] := ⟨_, _, F_check_place, He.glo_ok X G (c.fact 8 (f := .glo "check_place") rfl), F_check_place.bindsN fun _ _ _ _ _ _ us hl => match us, hl with | [_, _], _ => rfl⟩
  obtain ⟨fd_kind_of, F_kind_of⟩ := c.def_ 9 (d := d_kind_of) rfl
  have A_kind_of : AtK K mg "kind_of" s_kind_of ["place"] "shape" (.ref (He.ga K "PLAIN")) := atK_mk F_kind_of (He.glo_ok X G (c.fact 9 (f := .glo "kind_of") rfl)) (fun _ _ _ _ _ _ us ks l1 l2 => match us, ks, l1, l2 with | [_], [_], _, _ => ⟨_, _, _, _, _, _, rfl, rfl, rfl⟩) (fun _ _ _ _ _ _ us ws l1 l2 => match us, ws, l1, l2 with | [_], [_], _, _ => rfl)
  obtain ⟨fd_mark, F_mark⟩ := c.def_ 10 (d := d_mark) rfl
  have A_mark : AtK K mg "mark" s_mark ["place"] "shape" (.ref (He.ga K "PLAIN")) := atK_mk F_mark (He.glo_ok X G (c.fact 10 (f := .glo "mark") rfl)) (fun _ _ _ _ _ _ us ks l1 l2 => match us, ks, l1, l2 with | [_], [_], _, _ => ⟨_, _, _, _, _, _, rfl, rfl, rfl⟩) (fun _ _ _ _ _ _ us ws l1 l2 => match us, ws, l1, l2 with | [_], [_], _, _ => rfl)
  obtain ⟨fd_local_factor, F_local_factor⟩ := c.def_ 11 (d := d_local_factor) rfl
  have A_local_factor : At K mg "local_factor" s_local_factor ["place", "group", "shape"] := ⟨_, _, F_local_factor, He.glo_ok X G (c.fact 11 (f := .glo "local_factor") rfl), F_local_factor.bindsN fun _ _ _ _ _ _ us hl => match us, hl with | [_, _, _], _ => rfl⟩
  obtain ⟨fd_over_factor, F_over_factor⟩ := c.def_ 12 (d := d_over_factor) rfl
  have A_over_factor : At K mg "over_factor" s_over_factor ["place", "number", "shape"] := ⟨_, _, F_over_factor, He.glo_ok X G (c.fact 12 (f := .glo "over_factor") rfl), F_over_factor.bindsN fun _ _ _ _ _ _ us hl => match us, hl with | [_, _, _], _ => rfl⟩
  obtain ⟨fd_checks, F_checks⟩ := c.def_ 13 (d := d_checks) rfl
  have A_checks : AtK K mg "checks" s_checks [] "shape" (.ref (He.ga K "PLAIN")) := atK_mk F_checks (He.glo_ok X G (c.fact 13 (f := .glo "checks") rfl)) (fun _ _ _ _ _ _ us ks l1 l2 => match us, ks, l1, l2 with | [], [_], _, _ => ⟨_, _, _, _, _, _, rfl, rfl, rfl⟩) (fun _ _ _ _ _ _ us ws l1 l2 => match us, ws, l1, l2 with | [], [_], _, _ => rfl)
  obtain ⟨fd__law_purse, F__law_purse⟩ := c.def_ 14 (d := d__law_purse) rfl
  have A__law_purse : At K mg "_law_purse" s__law_purse ["script", "k"] := ⟨_, _, F__law_purse, He.glo_ok X G (c.fact 14 (f := .glo "_law_purse") rfl), F__law_purse.bindsN fun _ _ _ _ _ _ us hl => match us, hl with | [_, _], _ => rfl⟩
  obtain ⟨fd__law_drawn, F__law_drawn⟩ := c.def_ 15 (d := d__law_drawn) rfl
  have A__law_drawn : At K mg "_law_drawn" s__law_drawn ["purse", "many"] := ⟨_, _, F__law_drawn, He.glo_ok X G (c.fact 15 (f := .glo "_law_drawn") rfl), F__law_drawn.bindsN fun _ _ _ _ _ _ us hl => match us, hl with | [_, _], _ => rfl⟩
  obtain ⟨fd__law_shape, F__law_shape⟩ := c.def_ 16 (d := d__law_shape) rfl
  have A__law_shape : At K mg "_law_shape" s__law_shape ["purse", "most"] := ⟨_, _, F__law_shape, He.glo_ok X G (c.fact 16 (f := .glo "_law_shape") rfl), F__law_shape.bindsN fun _ _ _ _ _ _ us hl => match us, hl with | [_, _], _ => rfl⟩
  obtain ⟨fd__law_same, F__law_same⟩ := c.def_ 17 (d := d__law_same) rfl
  have A__law_same : At K mg "_law_same" s__law_same ["found", "due"] := ⟨_, _, F__law_same, He.glo_ok X G (c.fact 17 (f := .glo "_law_same") rfl), F__law_same.bindsN fun _ _ _ _ _ _ us hl => match us, hl with | [_, _], _ => rfl⟩
  obtain ⟨fd__law_checks, F__law_checks⟩ := c.def_ 18 (d := d__law_checks) rfl
  have A__law_checks : At K mg "_law_checks" s__law_checks ["mould"] := ⟨_, _, F__law_checks, He.glo_ok X G (c.fact 18 (f := .glo "_law_checks") rfl), F__law_checks.bindsN fun _ _ _ _ _ _ us hl => match us, hl with | [_], _ => rfl⟩
  obtain ⟨fd_law, F_law⟩ := c.def_ 19 (d := d_law) rfl
  obtain ⟨t_PRIME, g_PRIME⟩ := He.int_ok X G (c.fact 31 (f := .int "PRIME" 97) rfl)
  have T : Txt K mg := ⟨He.free_ok X G (c.fact 20 (f := .free "len") rfl), He.free_ok X G (c.fact 21 (f := .free "max") rfl), He.free_ok X G (c.fact 22 (f := .free "min") rfl), He.free_ok X G (c.fact 23 (f := .free "range") rfl), He.free_ok X G (c.fact 24 (f := .free "isinstance") rfl), He.free_ok X G (c.fact 25 (f := .free "int") rfl), He.free_ok X G (c.fact 26 (f := .free "bool") rfl), He.free_ok X G (c.fact 27 (f := .free "tuple") rfl), He.free_ok X G (c.fact 28 (f := .free "list") rfl), He.free_ok X G (c.fact 29 (f := .free "divmod") rfl), He.free_ok X G (c.fact 30 (f := .free "all") rfl), _, g_PRIME, ⟨_, rfl⟩, He.glo_ok X G (c.fact 32 (f := .glo "PLAIN") rfl), fun H => He.tupB_ok (He.ba cx).1 H, He.glo_ok X G (c.fact 33 (f := .glo "MARKS") rfl), fun H => He.tupB_ok (He.ba cx).2 H⟩
  have e := hfa.symm.trans (He.glo_ok X G (c.fact 19 (f := .glo "law") rfl))
  cases e
  have b := FunD.bindsA (ps := ["script"]) F_law fun _ _ _ _ _ _ us hl => match us, hl with | [_], _ => rfl
  refine ⟨fd_law, fun s v => b s [v] rfl, fun base _ _ => ?_⟩
  have D_is_whole := ok_whole (P := P) (w := w) (base := base) T A_is_whole
  have D_is_between := ok_between D_is_whole A_is_between
  have D_times := ok_times (P := P) (w := w) (base := base) T A_times
  have D_power := ok_power D_times A_power
  have D_is_shape := ok_is_shape T D_is_between A_is_shape
  have D_check_shape := ok_check_shape D_is_shape A_check_shape
  have D_count := ok_count D_check_shape A_count
  have D_is_place := ok_is_place D_is_between D_count A_is_place
  have D_check_place := ok_check_place D_is_place A_check_place
  have D_kind_of := ok_kind_of T D_check_place A_kind_of
  have D_mark := ok_mark T D_kind_of A_mark
  have D_local := ok_local T D_kind_of A_local_factor
  have D_over := ok_over_factor T D_power D_kind_of D_mark A_over_factor
  have D_checks := ok_checks T D_count D_local D_over A_checks
  have D_purse := ok_purse (P := P) (w := w) (base := base) T A__law_purse
  have D_drawn := ok_drawn (P := P) (w := w) (base := base) A__law_drawn
  have D_shape := ok_law_shape T D_drawn A__law_shape
  have D_same := ok_same (P := P) (w := w) (base := base) T A__law_same 3
  have D_lchecks := ok_law_checks (P := P) (w := w) (base := base) T A__law_checks
  exact ok_law T rfl D_purse D_shape D_same D_lchecks D_checks F_law
end Hx
open PySem PySem.W PySem.Calls PyProof.Rows in
set_option maxRecDepth 100000 in
set_option maxHeartbeats 0 in
theorem PySem.Challenge.cw_sherdhall_k04_checks_holds : PySem.Challenge.rw_sherdhall_k04_checks.Holds := by
  w_on; o_law
  refine HandSHeadRun.head_any (r := OpenLaw.row PySem.Challenge.rw_sherdhall_k04_checks) (q := view (OpenLaw.row PySem.Challenge.rw_sherdhall_k04_checks).prog [29]) (H := Hx.hk) (ob := Hx.ob) (M := 8000) (loose := Hx.loose) (d := HandSHeadRun.topDef (OpenLaw.row PySem.Challenge.rw_sherdhall_k04_checks).prog 29) (kwd := []) Hx.ob_eq
    (by kernel_rfl) (fun s => by kernel_rfl) Hx.run (by kernel_rfl) (by kernel_rfl) (by kernel_rfl) (by rfl) (by first | assumption | decide +kernel) (by decide +kernel) ⟨rfl, rfl, rfl, rfl, rfl, by decide +kernel⟩ ?hw ?hc
  case hw => w_witness2
  case hc =>
    refine L2.walk_ofE (l := PySem.Challenge.rw_sherdhall_k04_checks) (n := 63) (k := 12) (x := "script") (CX := L2.CX0) rfl (by decide) (by kernel_rfl) ⟨rfl, by decide, by decide⟩ ?F (fun _ _ _ _ z => z)
    intro w mg fa h Y G hmg0
    obtain ⟨K, KX, c, cx⟩ := Y
    have hmg : mg ("law" : PySem.Str) = some (.ref fa) := by
      have e : (HandSHeadRun.topDef (OpenLaw.row PySem.Challenge.rw_sherdhall_k04_checks).prog 29).name = ("law" : PySem.Str) := by kernel_rfl
      rw [← e]
      exact hmg0
    obtain ⟨fd, hb, hF⟩ := Hx.facts (P := (PySem.Challenge.rw_sherdhall_k04_checks).prog) (w := w) KX G hmg c cx
    exact ⟨K, fd, Hx.spLaw K, KX, hb, fun H a ns hl _ hS => ⟨a, ns, rfl, hS, hl, fun _ => rfl⟩, hF⟩
