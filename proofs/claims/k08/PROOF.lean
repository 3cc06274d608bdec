import PyProof.Rows.All
import Wide.All
import OpenK.AllK
import Wide.FinOn
import KE.KStateDown
import HandS.Base
import HandS.Call
import HandS.Ends
import HandS.List
import HandS.Comp
import HandS.Iter
import HandS.More
import HandS.Words
import HandS.WordsList
import HandS.WordsExc
import HandS.Defaults
import HandS.Wide
import HandS.IsInst
import HandS.Walk
import HandS.Star
import HandS.Conv
import HandS.Zip
import HandS.TupAny
import KE.KEqSeq
import KE.KEqDeep
import KE.KRevSl
import HandS.Head0
import HandS.Head1
import HandS.Head2
import HandS.HeadEnd
import HandS.HeadHook1
import HandS.HeadHook2
import HandS.Sort
import HandS.Dict
import HandS.Style
import HandS.Finally
import HandS.DictComp
import PySem.Challenge.RW_sherdhall_k08_rows_laid
set_option Elab.async false
set_option linter.all false
set_option maxRecDepth 100000
set_option maxHeartbeats 4000000
namespace Cm
open PySem PySem.Spec PyProof.Rows L2
/-! ### a def, known by its name -/
def Dn (P : Program) (w : World) (K : PySem.W.Frag) (mg : Str → Option Value) (base : Heap) (CX : CXT) (k : Nat) (x : Str) (ps : List Str) (sp : Sp) : Prop :=
  ∃ (f : Addr) (fd : FuncData), FnOk P w K mg base CX k f fd ps sp ∧ mg x = some (.ref f) ∧ PySem.W.keepIn K (.ref f) = true ∧ Binds K fd ps [] ∧ ∃ oc od osl, K.lookup f = some ⟨oc, od, .func fd, osl⟩
/-- where a def without defaults stands -/
def At (K : PySem.W.Frag) (mg : Str → Option Value) (x : Str) (st : Stmt) (ps : List Str) : Prop :=
  ∃ (f : Addr) (fd : FuncData), FunD K x x (defArgs st) (defBody st) (defScope st) [] [] f fd ∧ mg x = some (.ref f) ∧ Binds K fd ps []
theorem _root_.L2.FunD.look {K : PySem.W.Frag} {x qual : Str} {params : Arguments} {body : List Stmt} {scope : Scope} {dvs : List V} {kws : List (Str × V)} {f : Addr} {fd : FuncData} (F : FunD K x qual params body scope dvs kws f fd) : ∃ oc od osl, K.lookup f = some ⟨oc, od, .func fd, osl⟩ := by
  obtain ⟨oc, od, dV, kV, doc, pm, an, cdv, ct, osl, rfl, lk, _⟩ := F.ex
  exact ⟨_, _, _, lk⟩
section
variable {P : Program} {w : World} {K : PySem.W.Frag} {mg : Str → Option Value} {base : Heap}
theorem ok0 {x : Str} {st : Stmt} {N ps : List Str} {k : Nat} {sp : Sp} {f : Addr} {fd : FuncData} (F : FunD K x x (defArgs st) (defBody st) (defScope st) [] [] f fd) (S : FnScope N ps (defScope st)) (len : ∀ vs H Q E, sp vs H Q E → vs.length = ps.length)
    (hbody : ∀ (f : Addr) (cdv : Value) (A : Around) (outer : List Env) (s : Shared) (H : Hp) (vs : List V) (Q : VK) (E : XK), Room k (A.deeper (envOfC x (defScope st) s.heap.objs.size f cdv)) → sp vs H Q E →
      ∃ t, PSs (cxOf CX0 P w K mg base N x (defScope st) f cdv A outer s H E).nox (defBody st) t ∧ t { nx := fun _ H' => Q .non H', rt := Q } (start N vs) H) : FnOk P w K mg base CX0 (k + 1) f fd ps sp := by
  refine F.ok S len fun cdv A outer s H vs Q E hr h => ?_
  obtain ⟨t, h1, h2⟩ := hbody f cdv A outer s H vs Q E hr h
  exact ⟨t, h1.nox, h2⟩
theorem At.ok {x : Str} {st : Stmt} {N ps : List Str} {k : Nat} {sp : Sp} (F : At K mg x st ps) (S : FnScope N ps (defScope st)) (len : ∀ vs H Q E, sp vs H Q E → vs.length = ps.length)
    (hbody : ∀ (f : Addr) (cdv : Value) (A : Around) (outer : List Env) (s : Shared) (H : Hp) (vs : List V) (Q : VK) (E : XK), Room k (A.deeper (envOfC x (defScope st) s.heap.objs.size f cdv)) → sp vs H Q E →
      ∃ t, PSs (cxOf CX0 P w K mg base N x (defScope st) f cdv A outer s H E).nox (defBody st) t ∧ t { nx := fun _ H' => Q .non H', rt := Q } (start N vs) H) : Dn P w K mg base CX0 (k + 1) x ps sp := by
  obtain ⟨f, fd, F, hm, hb⟩ := F
  refine ⟨f, fd, F.ok S len fun cdv A outer s H vs Q E hr h => ?_, hm, F.kp, hb, F.look⟩
  obtain ⟨t, h1, h2⟩ := hbody f cdv A outer s H vs Q E hr h
  exact ⟨t, h1.nox, h2⟩
end
section
variable {X : Cx} {k : Nat} {x : Str} {ps : List Str} {sp : Sp} {p pos : Pos} {e : Expr} {es : List Expr} {t : TA}
theorem pe_callD (D : Dn X.prog X.w X.K X.mg X.base CX0 k x ps sp) (hr : Room k X.A) (ha : PA X (e :: es) t) (hg : Gl X x := by rfl) (hdb : (x == ("__debug__" : Str)) = false := by decide)
    (he : starEach (e :: es) X.env = (false, eval e X.env) :: starEach es X.env := by rfl) (hpl : (backTo pos (starEach es X.env)).any (·.1) = false := by rfl) :
    PE X (.Call (.Name x p) (e :: es) [] pos) (tCall sp [] E0 t) := by
  obtain ⟨f, fd, F, hm, hk, hb, _⟩ := D
  exact pe_call F hr hg hm hk hb .nil pass0 ha hdb he hpl
end
/-! ### powers of ints of any size -/
def CPowW (i j : Int) : Prop := 0 ≤ j ∧ (Builtin.Int.intBits i : Int) * j ≤ 2 ^ 27
theorem CPowW.mk {i : Int} {n a : Nat} (ha : i.natAbs < 2 ^ a) (h0 : 0 < a) (h : a * n ≤ 100000000) : CPowW i n := by
  refine ⟨Int.natCast_nonneg _, ?_⟩
  have b : Builtin.Int.intBits i ≤ i.natAbs.log2 + 1 := by
    unfold Builtin.Int.intBits
    split <;> omega
  have x := PySem.Flt.log2_lt_of h0 ha
  have c : Builtin.Int.intBits i ≤ a := by omega
  have d : Builtin.Int.intBits i * n ≤ a * n := Nat.mul_le_mul_right _ c
  have e : ((Builtin.Int.intBits i * n : Nat) : Int) ≤ ((100000000 : Nat) : Int) := Int.ofNat_le.mpr (Nat.le_trans d h)
  rw [Int.natCast_mul] at e
  have e2 : ((100000000 : Nat) : Int) ≤ 2 ^ 27 := by decide
  exact Int.le_trans e e2
theorem op_powW {X : Cx} : OpR X (binaryOp .Pow) (rI CPowW fun i j => .int (i ^ j.toNat)) := opI fun _ _ _ _ _ _ _ hc q => pow_int hc.1 hc.2 q
/-! ### tests -/
theorem iteD {c A B : Prop} [Decidable c] (h1 : c → A) (h2 : ¬ c → B) : if decide c = true then A else B := by
  by_cases h : c
  · rw [decide_eq_true h]; exact iteT (h1 h)
  · rw [decide_eq_false h]; exact iteF (h2 h)
theorem iteDn {c A B : Prop} [Decidable c] (h1 : ¬ c → A) (h2 : c → B) : if (!decide c) = true then A else B := by
  by_cases h : c
  · rw [decide_eq_true h]; exact iteF (h2 h)
  · rw [decide_eq_false h]; exact iteT (h1 h)
theorem iteI {x y : Int} {A B : Prop} (h1 : x = y → A) (h2 : ¬ x = y → B) : if decide (V.int x = V.int y) = true then A else B :=
  iteD (fun h => h1 (V.int.inj h)) (fun h => h2 fun e => h (congrArg V.int e))
theorem iteIn {x y : Int} {A B : Prop} (h1 : ¬ x = y → A) (h2 : x = y → B) : if (!decide (V.int x = V.int y)) = true then A else B :=
  iteDn (fun h => h1 fun e => h (congrArg V.int e)) (fun h => h2 (V.int.inj h))
theorem iteB {b : Bool} {A B : Prop} (h1 : b = true → A) (h2 : b = false → B) : if b = true then A else B := by
  cases b with
  | true => exact iteT (h1 rfl)
  | false => exact iteF (h2 rfl)
theorem iteBn {b : Bool} {A B : Prop} (h1 : b = false → A) (h2 : b = true → B) : if (!b) = true then A else B := by
  cases b with
  | true => exact iteF (h2 rfl)
  | false => exact iteT (h1 rfl)
/-! ### heaps -/
/-- all that was tracked, but p, is as it was -/
def Kp (p : Addr) (H H' : Hp) : Prop := ∀ b o, H b = some o → b ≠ p → H' b = some o
theorem Kp.refl (p : Addr) (H : Hp) : Kp p H H := fun _ _ h _ => h
theorem Kp.trans {p : Addr} {H H1 H2 : Hp} (a : Kp p H H1) (b : Kp p H1 H2) : Kp p H H2 := fun c o h n => b c o (a c o h n) n
theorem Kp.of {p : Addr} {H H1 : Hp} (a : Same H H1) : Kp p H H1 := fun c o h _ => a c o h
theorem Kp.new {p a : Addr} {H : Hp} {o : HO} (n : H a = none) : Kp p H (upd H a o) := fun c u h _ => by rw [upd_ne (ne_of_none h n)]; exact h
theorem Kp.put {p : Addr} {H : Hp} {o : HO} : Kp p H (upd H p o) := fun c u h n => by rw [upd_ne n]; exact h
theorem Same.new {a : Addr} {H : Hp} {o : HO} (n : H a = none) : Same H (upd H a o) := fun c u h => by rw [upd_ne (ne_of_none h n)]; exact h
theorem old {H : Hp} {a p : Addr} {o u : HO} (h : H a = some u) (n : H p = none) : upd H p o a = some u := by rw [upd_ne (ne_of_none h n)]; exact h
/-- p was free ahead: what is kept but p is kept -/
theorem Kp.same {p : Addr} {H0 H H' : Hp} (s : Same H0 H) (n : H0 p = none) (k : Kp p H H') : Same H0 H' := fun b o h => k b o (s b o h) (ne_of_none h n)
end Cm
namespace Cm
open PySem PySem.Spec PyProof.Rows L2
theorem at_ints {ns : List Int} {k : Int} (h0 : 0 ≤ k) (h : k < ns.length) : ∃ z, z ∈ ns ∧ ns[k.toNat]? = some z ∧ atI (ns.map V.int) k = some (.int z) := by
  have hk : k.toNat < ns.length := by omega
  refine ⟨ns[k.toNat], List.getElem_mem _, List.getElem?_eq_getElem hk, ?_⟩
  obtain ⟨j, rfl⟩ : ∃ j : Nat, k = (j : Int) := ⟨k.toNat, by omega⟩
  refine atI_nat ?_
  rw [List.getElem?_map, List.getElem?_eq_getElem (by omega)]
  rfl
theorem p10_18 : (10 : Int) ^ (18 : Int).toNat = 1000000000000000000 := by decide
end Cm
namespace Cm
open PySem PySem.Spec PyProof.Rows L2
/-! ### comprehensions that leave what stood -/
section
variable {J : It} {n : Nat} {G : Hp → Prop} {Y : Nat → Hp → V → Hp → Prop}
theorem lc_map (w : Walk J n G Y) {g : TG} {tt : TT} {te : TE} {vs : List Nat} {σ : L2.St} {H1 : Hp} {D : Addr} {Qd : Hp → Prop} (f : Nat → V) (hD : H1 D = none) (hn : n ≤ sizeLine) (hG : ∀ H, Same H1 H → G H)
    (hs : ∀ i x H H' (R : V → Hp → Prop) (R' : Hp → Prop), i < n → Same H1 H → Y i H x H' → (∀ H4, Same H H4 → R (f i) H4) → g x (wipe σ vs) H' fun σ2 H2 => wipe σ2 vs = wipe σ vs ∧ tt σ2 H2 fun b H3 => if b = true then te σ2 H3 R else R' H3)
    (hd : ∀ H, Same H1 H → H D = some (.lst ((List.range n).map f)) → Qd H) :
    ∃ W : Nat → Nat → Hp → Prop, (∃ m, W 0 m (upd H1 D (.lst []))) ∧ ∀ i m H, W i m H →
      (J.stop i H ∧ Qd H) ∨ (J.go i H ∧ ∃ Nx : Hp → Prop, (∀ H', Nx H' → ∃ m', m' < m ∧ W (i + 1) m' H') ∧ ∀ x H', J.yld i H x H' → g x (wipe σ vs) H' fun σ2 H2 => wipe σ2 vs = wipe σ vs ∧ tt σ2 H2 fun b H3 =>
        if b = true then te σ2 H3 fun y H4 => ∃ acc, H4 D = some (.lst acc) ∧ acc.length < sizeLine ∧ Nx (upd H4 D (.lst (acc ++ [y]))) else Nx H3) := by
  refine lc_it w (fun i H => Same H1 H ∧ H D = some (.lst ((List.range i).map f))) ⟨Same.new hD, upd_same⟩ (fun i H _ p => hG H p.1) ?_ (fun H p => hd H p.1 p.2)
  intro i x H H' hi p y
  refine hs i x H H' _ _ hi p.1 y fun H4 s4 => ?_
  refine ⟨_, s4 _ _ p.2, by rw [List.length_map, List.length_range]; omega, fun b o e => ?_, ?_⟩
  · rw [upd_ne (ne_of_none e hD)]
    exact s4 _ _ (p.1 _ _ e)
  · rw [upd_same, List.range_succ, List.map_append]
    rfl
theorem lc_ints (w : Walk J n G Y) {g : TG} {tt : TT} {te : TE} {vs : List Nat} {σ : L2.St} {H1 : Hp} {D : Addr} {Qd : Hp → Prop} (f : Nat → Int) (hD : H1 D = none) (hn : n ≤ sizeLine) (hG : ∀ H, Same H1 H → G H)
    (hs : ∀ i x H H' (R : V → Hp → Prop) (R' : Hp → Prop), i < n → Same H1 H → Y i H x H' → (∀ H4, Same H H4 → R (.int (f i)) H4) → g x (wipe σ vs) H' fun σ2 H2 => wipe σ2 vs = wipe σ vs ∧ tt σ2 H2 fun b H3 => if b = true then te σ2 H3 R else R' H3)
    (hd : ∀ H, Same H1 H → H D = some (.lst (((List.range n).map f).map V.int)) → Qd H) :
    ∃ W : Nat → Nat → Hp → Prop, (∃ m, W 0 m (upd H1 D (.lst []))) ∧ ∀ i m H, W i m H →
      (J.stop i H ∧ Qd H) ∨ (J.go i H ∧ ∃ Nx : Hp → Prop, (∀ H', Nx H' → ∃ m', m' < m ∧ W (i + 1) m' H') ∧ ∀ x H', J.yld i H x H' → g x (wipe σ vs) H' fun σ2 H2 => wipe σ2 vs = wipe σ vs ∧ tt σ2 H2 fun b H3 =>
        if b = true then te σ2 H3 fun y H4 => ∃ acc, H4 D = some (.lst acc) ∧ acc.length < sizeLine ∧ Nx (upd H4 D (.lst (acc ++ [y]))) else Nx H3) :=
  lc_map w (fun i => .int (f i)) hD hn hG hs fun H s e => hd H s (by rw [e, List.map_map]; rfl)
theorem lc_bools (w : Walk J n G Y) {g : TG} {tt : TT} {te : TE} {vs : List Nat} {σ : L2.St} {H1 : Hp} {D : Addr} {Qd : Hp → Prop} (f : Nat → Bool) (hD : H1 D = none) (hn : n ≤ sizeLine) (hG : ∀ H, Same H1 H → G H)
    (hs : ∀ i x H H' (R : V → Hp → Prop) (R' : Hp → Prop), i < n → Same H1 H → Y i H x H' → (∀ H4, Same H H4 → R (.bl (f i)) H4) → g x (wipe σ vs) H' fun σ2 H2 => wipe σ2 vs = wipe σ vs ∧ tt σ2 H2 fun b H3 => if b = true then te σ2 H3 R else R' H3)
    (hd : ∀ H, Same H1 H → H D = some (.lst (((List.range n).map f).map V.bl)) → Qd H) :
    ∃ W : Nat → Nat → Hp → Prop, (∃ m, W 0 m (upd H1 D (.lst []))) ∧ ∀ i m H, W i m H →
      (J.stop i H ∧ Qd H) ∨ (J.go i H ∧ ∃ Nx : Hp → Prop, (∀ H', Nx H' → ∃ m', m' < m ∧ W (i + 1) m' H') ∧ ∀ x H', J.yld i H x H' → g x (wipe σ vs) H' fun σ2 H2 => wipe σ2 vs = wipe σ vs ∧ tt σ2 H2 fun b H3 =>
        if b = true then te σ2 H3 fun y H4 => ∃ acc, H4 D = some (.lst acc) ∧ acc.length < sizeLine ∧ Nx (upd H4 D (.lst (acc ++ [y]))) else Nx H3) :=
  lc_map w (fun i => .bl (f i)) hD hn hG hs fun H s e => hd H s (by rw [e, List.map_map]; rfl)
end
/-! ### plain values and their built-in types -/
inductive Ty (K : PySem.W.Frag) (H : Hp) : V → String → Prop where
  | non : Ty K H .non "NoneType"
  | bl (x : Bool) : Ty K H (.bl x) "bool"
  | int (i : Int) : Ty K H (.int i) "int"
  | str (x : Str) : Ty K H (.str x) "str"
  | lst {a : Addr} {xs : List V} (e : SqL K H a xs) : Ty K H (.ref a) "list"
  | tup {a : Addr} {xs : List V} (e : SqT K H a xs) : Ty K H (.ref a) "tuple"
  | dK {a : Addr} {kvs : List (Key × V)} (e : H a = some (.dK kvs)) : Ty K H (.ref a) "dict"
theorem Ty.x {K : PySem.W.Frag} {H : Hp} {v : V} {n : String} (h : Ty K H v n) : TyX K H v (.type n) := by
  cases h with
  | non => exact .base .non
  | bl x => exact .base (.bl x)
  | int i => exact .base (.int i)
  | str x => exact .base (.str x)
  | lst e =>
    rcases e with (e | ⟨o, e⟩) | ⟨o, its, n, hk, hc, _⟩
    · exact .base (.lst e)
    · exact .base (.frz e)
    · exact .kList hk hc
  | tup e =>
    rcases e with (e | ⟨o, e⟩) | ⟨o, its, n, hk, hc, _⟩
    · exact .base (.tup e)
    · exact .fTuple e
    · exact .kTuple hk hc
  | dK e => exact .base (.dK e)
theorem Same.sqt {K : PySem.W.Frag} {H H' : Hp} {a : Addr} {xs : List V} (e : Same H H') (h : SqT K H a xs) : SqT K H' a xs := by
  rcases h with (h | ⟨o, h⟩) | h
  · exact .inl (.inl (e _ _ h))
  · exact .inl (.inr ⟨o, e _ _ h⟩)
  · exact .inr h
theorem Ty.same {K : PySem.W.Frag} {H H' : Hp} {v : V} {n : String} (s : Same H H') (h : Ty K H v n) : Ty K H' v n := by
  cases h with
  | non => exact .non
  | bl x => exact .bl x
  | int i => exact .int i
  | str x => exact .str x
  | lst e => exact .lst (s.seq e)
  | tup e => exact .tup (Same.sqt s e)
  | dK e => exact .dK (s _ _ e)
theorem Ty.names {K : PySem.W.Frag} {H : Hp} {v : V} {n : String} (h : Ty K H v n) : n ∈ ["NoneType", "bool", "int", "str", "list", "tuple", "dict"] := by
  cases h <;> decide
theorem kit_names {c : String} (hc : c ∈ ["bool", "int", "str", "list", "tuple", "dict"]) {n : String} (h : n ∈ ["NoneType", "bool", "int", "str", "list", "tuple", "dict"]) : kitB n c = some (n == c || (n == "bool" && c == "int")) := by
  have key : ∀ c ∈ ["bool", "int", "str", "list", "tuple", "dict"], ∀ n ∈ ["NoneType", "bool", "int", "str", "list", "tuple", "dict"], kitB n c = some (n == c || (n == "bool" && c == "int")) := by decide +kernel
  exact key c hc n h
theorem Ty.kit {K : PySem.W.Frag} {H : Hp} {v : V} {n : String} (h : Ty K H v n) (c : String) (hc : c ∈ ["bool", "int", "str", "list", "tuple", "dict"] := by decide) : PySem.W.kitOne K (.type n) (.type c) = some (n == c || (n == "bool" && c == "int")) := kit_ty (kit_names hc h.names)
end Cm
namespace Cm
open L2
theorem small1000' {n : Nat} (h : n ≤ 1000000) : n ≤ PySem.sizeLine := Nat.le_trans h (by decide)
end Cm
namespace Cm
open L2
theorem map_get {α : Type} [Inhabited α] {c : α → V} {xs : List α} {i : Nat} {x : V} (h : i < xs.length) (e : (xs.map c)[i]? = some x) : x = c (xs.getD i default) := by
  rw [List.getElem?_map, List.getElem?_eq_getElem h] at e
  simp [List.getD, h]
  exact (Option.some.inj e).symm
theorem getD_in {α : Type} [Inhabited α] {xs : List α} {i : Nat} (h : i < xs.length) : xs.getD i default ∈ xs := by
  simp [List.getD, h]
end Cm
namespace Cm
open PySem PySem.Spec PyProof.Rows L2
/-! ### == of lists and tuples of ints -/
theorem dp_ints {K : PySem.W.Frag} {H : Hp} : ∀ xs : List Int, DpAll K H (xs.map V.int) (xs.map PyData.int)
  | [] => .nil
  | x :: xs => .cons (.int x) (dp_ints xs)
theorem dpL {K : PySem.W.Frag} {H : Hp} {a : Addr} {xs : List Int} (h : SqL K H a (xs.map V.int)) : Dp K H (.ref a) (.list (xs.map PyData.int)) := .lst h (dp_ints xs)
theorem dpT {K : PySem.W.Frag} {H : Hp} {a : Addr} {xs : List Int} (h : SqT K H a (xs.map V.int)) : Dp K H (.ref a) (.tuple (xs.map PyData.int)) := .tup h (dp_ints xs)
theorem shL (ns : List Int) : SeqAt.shaped (.list (ns.map PyData.int)) = true := PySem.W.ke_shaped_ints ns
theorem shT (ns : List Int) : SeqAt.shaped (.tuple (ns.map PyData.int)) = true := by
  have h := shL ns
  unfold SeqAt.shaped at h ⊢
  simp only [PyData.canLay0, PyData.depth] at h ⊢
  exact h
theorem eqvL (xs ys : List Int) : PyData.eqv (.list (xs.map PyData.int)) (.list (ys.map PyData.int)) = decide (xs = ys) := by rw [PyData.eqv, PySem.W.ked_eqvAll]
theorem eqvT (xs ys : List Int) : PyData.eqv (.tuple (xs.map PyData.int)) (.tuple (ys.map PyData.int)) = decide (xs = ys) := by rw [PyData.eqv, PySem.W.ked_eqvAll]
end Cm
namespace Cm
theorem range_map {α β : Type} [Inhabited α] (g : α → β) (xs : List α) : (List.range xs.length).map (fun i => g (xs.getD i default)) = xs.map g := by
  apply List.ext_getElem?
  intro i
  by_cases h : i < xs.length
  · simp [List.getD, h]
  · have h2 : xs.length ≤ i := by omega
    rw [List.getElem?_eq_none (by simpa using h2), List.getElem?_eq_none (by simpa using h2)]
end Cm
namespace Cm
open PySem PySem.Spec PyProof.Rows L2
/-- zip of two tuples, as a walk -/
theorem walk_zipT {K : PySem.W.Frag} {a b : Addr} {xs ys : List V} {n : Nat} (hn : n = min xs.length ys.length) : Walk (RZ.ItzT K a b) n (fun H => SqT K H a xs ∧ SqT K H b ys) (YPair (fun i => xs[i]?) (fun i => ys[i]?)) := by
  subst hn
  refine ⟨fun i _ hi q => ?_, fun _ q => ⟨xs, ys, q.1, q.2, by omega⟩, fun i H v H' _ q y => ?_⟩
  · have h1 : i < xs.length := by omega
    have h2 : i < ys.length := by omega
    exact ⟨xs, ys, xs[i], ys[i], q.1, q.2, by simp [h1], by simp [h2]⟩
  · obtain ⟨T, x, z, h1, h2, h3, h4, h5⟩ := y
    exact ⟨T, x, z, h1, h2, h3, h4 xs q.1, h5 ys q.2⟩
/-- a def that is never called so -/
theorem At.none {P : Program} {w : World} {K : PySem.W.Frag} {mg : Str → Option Value} {base : Heap} {x : Str} {st : Stmt} {ps : List Str} (F : At K mg x st ps) (k : Nat) : Dn P w K mg base CX0 k x ps (fun _ _ _ _ => False) := by
  obtain ⟨f, fd, F, hm, hb⟩ := F
  exact ⟨f, fd, ⟨fun _ _ _ _ h => h.elim, fun _ _ _ _ _ _ _ _ _ _ _ _ _ h => h.elim⟩, hm, F.kp, hb, F.look⟩
end Cm
namespace Cm
open PySem PySem.Spec PyProof.Rows L2
theorem Dn.mono {P : Program} {w : World} {K : PySem.W.Frag} {mg : Str → Option Value} {base : Heap} {j k : Nat} {x : Str} {ps : List Str} {sp : Sp} (D : Dn P w K mg base CX0 j x ps sp) (h : j ≤ k) : Dn P w K mg base CX0 k x ps sp := by
  obtain ⟨f, fd, F, r⟩ := D
  exact ⟨f, fd, F.mono h, r⟩
theorem Dn.imp {P : Program} {w : World} {K : PySem.W.Frag} {mg : Str → Option Value} {base : Heap} {k : Nat} {x : Str} {ps : List Str} {sp sp' : Sp} (D : Dn P w K mg base CX0 k x ps sp) (h : ∀ vs H Q E, sp' vs H Q E → sp vs H Q E) : Dn P w K mg base CX0 k x ps sp' := by
  obtain ⟨f, fd, F, r⟩ := D
  exact ⟨f, fd, F.imp h, r⟩
/-- two promises of one def -/
theorem Dn.or {P : Program} {w : World} {K : PySem.W.Frag} {mg : Str → Option Value} {base : Heap} {k : Nat} {x : Str} {ps : List Str} {sp1 sp2 : Sp} (D : Dn P w K mg base CX0 k x ps sp1) (D' : Dn P w K mg base CX0 k x ps sp2) :
    Dn P w K mg base CX0 k x ps (fun vs H Q E => sp1 vs H Q E ∨ sp2 vs H Q E) := by
  obtain ⟨f, fd, F, hm, hk, hb, oc, od, osl, lk⟩ := D
  obtain ⟨f', fd', F', hm', _, _, oc', od', osl', lk'⟩ := D'
  rw [hm] at hm'
  cases hm'
  rw [lk] at lk'
  cases lk'
  refine ⟨f, fd, ⟨fun vs H Q E h => ?_, fun A outer s H args us vs Q E hr e b v h => ?_⟩, hm, hk, hb, oc, od, osl, lk⟩
  · rcases h with h | h
    · exact F.len _ _ _ _ h
    · exact F'.len _ _ _ _ h
  · rcases h with h | h
    · exact F.run A outer s H args us vs Q E hr e b v h
    · exact F'.run A outer s H args us vs Q E hr e b v h
end Cm
namespace Cm
open PySem PySem.Spec PyProof.Rows L2
section
variable {J : It} {n : Nat} {G : Hp → Prop} {Y : Nat → Hp → V → Hp → Prop}
/-- .. with a test: the values f i for which p holds -/
theorem lc_filt {α : Type} (c : α → V) (w : Walk J n G Y) {g : TG} {tt : TT} {te : TE} {vs : List Nat} {σ : L2.St} {H1 : Hp} {D : Addr} {Qd : Hp → Prop} (f : Nat → α) (p : α → Bool) (hD : H1 D = none) (hn : n ≤ sizeLine) (hG : ∀ H, Same H1 H → G H)
    (hs : ∀ i x H H' (R : V → Hp → Prop) (R' : Hp → Prop), i < n → Same H1 H → Y i H x H' → (∀ H4, Same H H4 → p (f i) = true → R (c (f i)) H4) → (∀ H4, Same H H4 → p (f i) = false → R' H4) → g x (wipe σ vs) H' fun σ2 H2 => wipe σ2 vs = wipe σ vs ∧ tt σ2 H2 fun b H3 => if b = true then te σ2 H3 R else R' H3)
    (hd : ∀ H, Same H1 H → H D = some (.lst ((((List.range n).map f).filter p).map c)) → Qd H) :
    ∃ W : Nat → Nat → Hp → Prop, (∃ m, W 0 m (upd H1 D (.lst []))) ∧ ∀ i m H, W i m H →
      (J.stop i H ∧ Qd H) ∨ (J.go i H ∧ ∃ Nx : Hp → Prop, (∀ H', Nx H' → ∃ m', m' < m ∧ W (i + 1) m' H') ∧ ∀ x H', J.yld i H x H' → g x (wipe σ vs) H' fun σ2 H2 => wipe σ2 vs = wipe σ vs ∧ tt σ2 H2 fun b H3 =>
        if b = true then te σ2 H3 fun y H4 => ∃ acc, H4 D = some (.lst acc) ∧ acc.length < sizeLine ∧ Nx (upd H4 D (.lst (acc ++ [y]))) else Nx H3) := by
  refine lc_it w (fun i H => Same H1 H ∧ H D = some (.lst ((((List.range i).map f).filter p).map c))) ⟨Same.new hD, upd_same⟩ (fun i H _ p => hG H p.1) ?_ (fun H p => hd H p.1 p.2)
  intro i x H H' hi ps y
  have e : ((((List.range (i + 1)).map f).filter p).map c) = ((((List.range i).map f).filter p).map c) ++ (if p (f i) = true then [c (f i)] else []) := by
    rw [List.range_succ, List.map_append, List.filter_append, List.map_append]
    congr 1
    by_cases h : p (f i) = true
    · simp [h]
    · simp [h]
  refine hs i x H H' _ _ hi ps.1 y (fun H4 s4 pt => ?_) fun H4 s4 pf => ?_
  · refine ⟨_, s4 _ _ ps.2, ?_, fun b o e => ?_, ?_⟩
    · have := List.length_filter_le p ((List.range i).map f)
      rw [List.length_map] at this ⊢
      rw [List.length_range] at this
      omega
    · rw [upd_ne (ne_of_none e hD)]
      exact s4 _ _ (ps.1 _ _ e)
    · rw [upd_same, e, if_pos pt]
  · refine ⟨fun b o e => s4 _ _ (ps.1 _ _ e), ?_⟩
    rw [e, if_neg (by rw [pf]; decide), List.append_nil]
    exact s4 _ _ ps.2
end
end Cm
namespace Cm
open PySem PySem.Spec PyProof.Rows L2
/-! ### sum of a tuple of ints -/
section
variable {prog : Program} {w : World} {A : Around} {E : Value → Shared → Prop} {s : Shared} {l : Addr} {xs : Array (Int × Tok)}
theorem sum_tupG {Q : Value → Shared → Prop} (hh : A.handled = none) (hl : s.heap.IsTuple l (intItems xs))
    (h : ∀ h' tk t', (∀ b o, s.heap.get? b = some o → h'.get? b = some o) → Q (.int (preSum (numAt xs) xs.size) t') { s with heap := h', toks := tk }) :
    wpAny (model prog w) A (call (.builtin "sum") [.ref l]) Q E s := by
  have hlt : l < s.heap.objs.size := by obtain ⟨_, e, _⟩ := hl; exact Heap.lt_size e
  refine call_sum_walkG (wpAny_pyIter_tuple hl ?_)
  refine ⟨_, _, _, _, _, _, numAt xs, rfl, Walks.tuple (A := A.in1) hh _ l (Nat.ne_of_lt hlt) (intItems xs), ⟨⟨_, Heap.get?_push_size _ rfl, rfl, rfl⟩, hl.push _⟩, (fun b hb => ?_), (fun _ _ => intItems_at), fun h' tk t' hk => ?_⟩
  · show b < (s.heap.push _).objs.size
    rw [Heap.size_push]
    rcases List.mem_cons.mp hb with rfl | hb
    · exact Nat.lt_succ_self _
    · rcases List.mem_cons.mp hb with rfl | hb
      · exact Nat.lt_succ_of_lt hlt
      · cases hb
  · have := h h' tk t' fun b o e => by
      refine hk b o (fun hm => ?_) (Heap.get?_push_of_some _ e)
      rcases List.mem_cons.mp hm with e1 | hm
      · exact absurd (e1 ▸ Heap.lt_size e) (Nat.lt_irrefl _)
      · cases hm
    simpa [intItems] using this
end
def rSumT (K : PySem.W.Frag) : List V → Hp → VK → Prop := fun vs H Q => ∃ (a : Addr) (ns : List Int), vs = [V.ref a] ∧ SqT K H a (ns.map V.int) ∧ Q (.int ns.sum) H
theorem cr_sumT {X : Cx} (hc : X.calm = true) : CallR X (.builtin "sum") (rSumT X.K) := by
  intro pins s σ H vs us Q I r h
  obtain ⟨a, ns, rfl, hs, q⟩ := h
  obtain ⟨its, rv, hl, _⟩ := I.tuple hs
  rw [Vals.ref1 r]
  have hi := rv.ints
  obtain ⟨xs, e⟩ := hi.allInts.items
  have hn : numsOf (intItems xs).toList = ns := by rw [← e]; exact hi.numsOf
  rw [nums_intItems] at hn
  rw [e] at hl
  refine sum_tupG (I.ok.hd hc) hl fun h' tk t' hk => ?_
  rw [preSum_eq, List.take_of_length_le (by simp), hn]
  exact ⟨.int _, H, I.kept hk, ⟨_, rfl⟩, q⟩
end Cm
namespace Cm
open PySem PySem.Spec PyProof.Rows L2
section
variable {X : Cx} {o e : Expr} {es : List Expr} {to : TE} {t : TA} {name : Str} {apos cpos : Pos} {T id : String} {r : V → List V → Hp → VK → Prop}
theorem pe_bmK (K : PySem.W.Frag) (pa : PlainAttrs T) (slot : Slot T name id) (hty : typeOf (.builtin id) = pure (.type "method_descriptor")) (hm : MtR X id r) (ho : PE X o to) (ha : PA X (e :: es) t)
    (hK : X.K = K := by rfl) (hbase : attributeBase o name X.env (eval o X.env) = eval o X.env := by rfl)
    (hfew : ((backTo cpos (starEach (e :: es) X.env)).all (fun x => !x.1) && (backToKw cpos (keywordEach [] X.env)).all (fun x => x.1.isSome)
      && decide ((e :: es).length + ([] : List Keyword).length + (if ([] : List Keyword).isEmpty then 0 else 1) < 30)) = true := by rfl)
    (hline : (apos.endLine == cpos.line) = true := by rfl) (hs : starEach (e :: es) X.env = (false, eval e X.env) :: starEach es X.env := by rfl) (hplain : (backTo cpos (starEach es X.env)).any (·.1) = false := by rfl) :
    PE X (.Call (.Attribute o name apos) (e :: es) [] cpos) (tBM K T r to t) := by
  subst hK
  exact pe_bm pa slot hty hm ho ha hbase hfew hline hs hplain
end
end Cm
namespace Cm
open PySem PySem.Spec PyProof.Rows L2 HT
/-! ### t[::-1] of a tuple -/
section
variable {prog : Program} {w : World} {A : Around} {E : Value → Shared → Prop} {s : Shared}
theorem rev_adjust (n : Nat) : Builtin.Slice.sliceAdjust none none (-1) (n : Int) = ((n : Int) - 1, -1) := by
  unfold Builtin.Slice.sliceAdjust
  simp
theorem rev_places (n : Nat) : Builtin.Slice.slicePlaces ((n : Int) - 1) (-1) (-1) = n := by
  unfold Builtin.Slice.slicePlaces
  simp
  omega
theorem fm_congr {α β : Type} {f g : α → Option β} : ∀ {l : List α}, (∀ x ∈ l, f x = g x) → l.filterMap f = l.filterMap g
  | [], _ => rfl
  | x :: l, h => by
    rw [List.filterMap_cons, List.filterMap_cons, h x (List.mem_cons_self ..), fm_congr (l := l) fun y hy => h y (List.mem_cons_of_mem _ hy)]
theorem rev_pick (xs : Array Value) : ((List.range xs.size).filterMap fun (m : Nat) => xs[(((xs.size : Nat) : Int) - 1 + (m : Int) * (-1)).toNat]?).toArray = xs.toList.reverse.toArray := by
  have e : (List.range xs.size).filterMap (fun (m : Nat) => xs[(((xs.size : Nat) : Int) - 1 + (m : Int) * (-1)).toNat]?) = ((List.range xs.size).map fun k => xs.size - 1 - k).filterMap (xs[·]?) := by
    rw [List.filterMap_map]
    apply fm_congr
    intro m hm
    have := List.mem_range.mp hm
    show xs[_]? = xs[xs.size - 1 - m]?
    congr 1
    omega
  rw [e, PySem.W.krv_range, List.filterMap_reverse, PySem.W.krv_all]
theorem sliceApplied_rev {sl : Addr} {t : Tok} {n : Nat} {Q : Int × Int × Nat → Shared → Prop} (hs : s.heap.IsSliceOf sl .none .none (.int (-1) t))
    (h : Q ((n : Int) - 1, -1, n) s) : wpAny (model prog w) A (Builtin.Slice.sliceApplied (.ref sl) (pure (n : Int))) Q E s := by
  obtain ⟨os, hos, hcs, hds⟩ := id hs
  unfold Builtin.Slice.sliceApplied Builtin.Slice.sliceFields
  refine wpAny_bind (wpAny_bind (wpAny_field hos hds (x := .none) rfl (wpAny_bind (wpAny_field hos hds (x := .none) rfl (wpAny_bind (wpAny_field hos hds (x := .int (-1) t) rfl (wpAny_pure ?_)))))))
  refine wpAny_bind (slicePart_int ?_)
  show wpAny _ _ (if ((-1 : Int) == 0) = true then _ else _) _ _ s
  rw [if_neg (by decide)]
  refine wpAny_bind (slicePart_none (wpAny_bind (slicePart_none (wpAny_bind (wpAny_pure ?_)))))
  show wpAny _ _ (match Builtin.Slice.sliceAdjust none none (-1) (n : Int) with | (lo, hi) => pure (lo, (-1 : Int), Builtin.Slice.slicePlaces lo hi (-1))) _ _ s
  rw [rev_adjust n]
  show wpAny _ _ (pure ((n : Int) - 1, (-1 : Int), Builtin.Slice.slicePlaces ((n : Int) - 1) (-1) (-1))) _ _ s
  rw [rev_places]
  exact wpAny_pure h
theorem getItem_tuple_rev {t sl : Addr} {items : Array Value} {u : Tok} {Q : Value → Shared → Prop} (ht : IsTup s.heap t items) (hs : s.heap.IsSliceOf sl .none .none (.int (-1) u))
    (h : Q (.ref s.heap.objs.size) { s with heap := s.heap.push { cls := .type "tuple", data := .seq items.toList.reverse.toArray } })
    (hsz : items.size ≤ sizeLine) : wpAny (model prog w) A (getItem (.ref t) (.ref sl)) Q E s := by
  have htake : sizeOk (.seq items.toList.reverse.toArray) := by
    show items.toList.reverse.toArray.size ≤ sizeLine
    rw [List.size_toArray, List.length_reverse, Array.length_toList]
    exact hsz
  obtain ⟨os, hos, hcs, hds⟩ := id hs
  have hTs : s.TypeIs (.ref sl) "slice" := ⟨os, hos, hcs⟩
  unfold getItem
  try with_reducible refine wpAny_holding ?_
  first | refine wpAny_bind (wpAny_pure ?_) | skip
  refine wpAny_bind (wpAny_sequenceKey ht.typeIs (by decide) ?_)
  refine wpAny_bind (wpAny_callSpecial?_slot (name := Str.ofString "__getitem__") ht.typeIs PyProof.Rows.slot_tuple_getitem
    (wpAny_call_entry PyProof.Rows.slot_tuple_getitem ht.typeIs entry_tuple_getitem ?_ (args_tuple_getitem _ _)))
  show wpAny _ _ (Builtin.Tuple.tupleItemsOf (.ref t) >>= _) _ _ s
  refine wpAny_bind (tupleItemsOf_ ht ?_)
  refine wpAny_bind (wpAny_typeOf hTs ?_)
  rw [if_pos (by decide)]
  refine wpAny_bind (sliceApplied_rev hs ?_)
  have hno : ¬ ((((items.size : Nat) : Int) - 1 == 0 && (-1 : Int) == 1 && items.size == items.size) = true) := by
    intro q
    rw [Bool.and_eq_true, Bool.and_eq_true] at q
    exact absurd q.1.2 (by decide)
  show wpAny _ _ (if (((items.size : Nat) : Int) - 1 == 0 && (-1 : Int) == 1 && items.size == items.size) = true then _ else _) _ _ s
  rw [if_neg hno, rev_pick]
  first
    | exact wpAny_bind (m := Builtin.Tuple.tupleExact _) (wpAny_newObj_type (wpAny_pure ⟨_, rfl, wpAny_pure h⟩) htake)
    | exact wpAny_bind (m := Builtin.Tuple.tupleExact _) (wpAny_newObj_type (wpAny_bind (wpAny_pure (wpAny_pure ⟨_, rfl, wpAny_pure h⟩))) htake)
    | exact wpAny_bind (wpAny_bind (m := Builtin.Tuple.tupleExact _) (wpAny_newObj_type (wpAny_pure (wpAny_pure ⟨_, rfl, wpAny_pure h⟩)) htake))
    | exact wpAny_bind (wpAny_bind (m := Builtin.Tuple.tupleExact _) (wpAny_newObj_type (wpAny_pure ⟨_, rfl, wpAny_pure h⟩) htake))
end
def tRevT (K : PySem.W.Frag) (te : TE) : TE := fun σ H Q => te σ H fun x H1 => ∃ a xs, x = .ref a ∧ SqT K H1 a xs ∧ ∀ p, H1 p = none → Q (.ref p) (upd H1 p (.tup xs.reverse))
theorem pe_revT {X : Cx} {e : Expr} {te : TE} {p1 p2 p3 pos : Pos} (he : PE X e te) : PE X (.Subscript e (.Slice none none (some (.UnaryOp .USub (.Constant (.int 1) 0 p1) p2)) p3) pos) (tRevT X.K te) := by
  refine ⟨fun pins s σ H Q I h => ?_⟩
  refine Subscript_ (thn (he.run pins s σ H _ I h) fun v s1 ⟨x, H1, I1, r1, q1⟩ => ?_)
  refine wpAny_Slice ?_
  rw [evalPart_none]
  refine wpAny_pure (wpAny_pure ?_)
  rw [evalPart_some]
  refine thn ((pe_un un_neg pe_int).run pins s1 σ H1 (fun y H2 => y = .int (-1) ∧ H2 = H1) I1 ⟨_, rfl, rfl, rfl⟩) fun u s2 ⟨y, H2, I2, r2, e1, e2⟩ => ?_
  subst e1 e2
  obtain ⟨t, rfl⟩ := r2
  obtain ⟨a, xs, rfl, hx, q⟩ := q1
  cases r1
  have I4 : Inv X pins σ H2 { s2 with heap := s2.heap.push { cls := .type "slice", data := .fields #[.none, .none, .int (-1) t] } } := I2.kept (t' := s2.toks) fun b ob q => Heap.get?_push_of_some _ q
  obtain ⟨its, r, ht, hz⟩ := I4.tuple hx
  show wpAny (model X.prog X.w) X.A (subscriptTail e _ (.ref a) (.ref s2.heap.objs.size)) (EP X pins σ Q) X.xe { s2 with heap := s2.heap.push { cls := .type "slice", data := .fields #[.none, .none, .int (-1) t] } }
  refine tail_any (ops := [.ref a, .ref s2.heap.objs.size]) ht.typeIs PyProof.Rows.slot_tuple_getitem.lookup (getItem_tuple_rev ht (Heap.IsSliceOf.new ..) ?_ (by rw [List.size_toArray, ← r.length]; exact hz)) (by with_unfolding_all rfl)
  refine ⟨.ref _, _, I4.laid (t' := s2.toks) (o := .tup xs.reverse) (fun b ob q => Heap.get?_push_of_some _ q) (Nat.le_refl _) ?_, rfl, q _ (I4.hok.fresh (Nat.le_refl _))⟩
  exact ⟨by rw [List.length_reverse]; exact hz, _, r.reverse, IsTup.new _ _⟩
end Cm
namespace Cm
open PySem PySem.Spec PyProof.Rows L2
section
variable {X : Cx}
theorem _root_.L2.OpR.imp {f : Value → Value → Sem Value} {r r' : R2} (h : OpR X f r) (i : ∀ x y H Q, r' x y H Q → r x y H Q) : OpR X f r' :=
  fun pins s σ H x y v u Q I rx ry q => h pins s σ H x y v u Q I rx ry (i _ _ _ _ q)
/-- t + u, whatever object it is -/
def rCatS (K : PySem.W.Frag) : R2 := fun x y H Q => ∃ a b xs ys, x = .ref a ∧ y = .ref b ∧ SqT K H a xs ∧ SqT K H b ys ∧ xs.length + ys.length ≤ sizeLine ∧ ∀ r H', Same H H' → SqT K H' r (xs ++ ys) → Q (.ref r) H'
theorem op_catS : OpR X (binaryOp .Add) (rCatS X.K) := op_catA.imp fun x y H Q h => by
  obtain ⟨a, b, xs, ys, rfl, rfl, ha, hb, hl, q⟩ := h
  refine ⟨a, b, xs, ys, rfl, rfl, ha, hb, hl, fun e => ?_, fun _ e => ?_, fun _ _ p np => q p _ (Same.new np) (SqT.of upd_same)⟩
  · subst e
    exact q b H (Same.refl _) hb
  · subst e
    exact q a H (Same.refl _) (by rw [List.append_nil]; exact ha)
/-- t[lo:hi], whatever object it is -/
def rSlS (K : PySem.W.Frag) : V → Option Int → Option Int → Hp → VK → Prop := fun x lo hi H Q => ∃ a xs, x = .ref a ∧ SqT K H a xs ∧ ∀ r H', Same H H' → SqT K H' r (cutV xs lo hi) → Q (.ref r) H'
theorem cut_whole {xs : List V} {lo hi : Option Int} (h : HT.sIx xs.length 0 lo = 0 ∧ HT.sIx xs.length xs.length hi = xs.length) : cutV xs lo hi = xs := by
  unfold cutV
  rw [h.1, h.2, List.drop_zero, Nat.sub_zero, List.take_length]
theorem sl_tupS : SlR X (rSlS X.K) := by
  intro pins s σ H x v vl vu lo hi sl Q I rx hs pl pu h
  obtain ⟨a, xs, rfl, ha, q⟩ := h
  refine sl_tupA pins s σ H (.ref a) v vl vu lo hi sl Q I rx hs pl pu ⟨a, xs, rfl, ha, fun e => q a H (Same.refl _) (by rw [cut_whole e]; exact ha), fun _ p np => q p _ (Same.new np) (SqT.of upd_same)⟩
end
end Cm
namespace Cm
open PySem PySem.Spec PyProof.Rows L2
/-! ### defs with one keyword-only parameter and its default -/
/-- a def of n positional parameters and one keyword-only one, by its name; dv the default -/
def DnK (P : Program) (w : World) (K : PySem.W.Frag) (mg : Str → Option Value) (base : Heap) (CX : CXT) (k : Nat) (x : Str) (ps : List Str) (kw : Str) (dv : V) (sp : Sp) : Prop :=
  ∃ (f : Addr) (fd : FuncData), FnOk P w K mg base CX k f fd (ps ++ [kw]) sp ∧ mg x = some (.ref f) ∧ PySem.W.keepIn K (.ref f) = true ∧ KBn K fd (ps ++ [kw]) ps.length [kw] (fun us ws => us ++ ws) (fun vs zs => vs ++ zs) ∧
    (∃ ds, Vals [dv] ds ∧ Binds K fd (ps ++ [kw]) ds) ∧ ∃ oc od osl, K.lookup f = some ⟨oc, od, .func fd, osl⟩
/-- where it stands -/
def AtK (K : PySem.W.Frag) (mg : Str → Option Value) (x : Str) (st : Stmt) (ps : List Str) (kw : Str) (dv : V) : Prop :=
  ∃ (f : Addr) (fd : FuncData), FunD K x x (defArgs st) (defBody st) (defScope st) [] [(kw, dv)] f fd ∧ mg x = some (.ref f) ∧ KBn K fd (ps ++ [kw]) ps.length [kw] (fun us ws => us ++ ws) (fun vs zs => vs ++ zs) ∧ ∃ ds, Vals [dv] ds ∧ Binds K fd (ps ++ [kw]) ds
section
variable {P : Program} {w : World} {K : PySem.W.Frag} {mg : Str → Option Value} {base : Heap}
theorem AtK.ok {x kw : Str} {dv : V} {st : Stmt} {N ps : List Str} {k : Nat} {sp : Sp} (F : AtK K mg x st ps kw dv) (S : FnScope N (ps ++ [kw]) (defScope st)) (len : ∀ vs H Q E, sp vs H Q E → vs.length = (ps ++ [kw]).length)
    (hbody : ∀ (f : Addr) (cdv : Value) (A : Around) (outer : List Env) (s : Shared) (H : Hp) (vs : List V) (Q : VK) (E : XK), Room k (A.deeper (envOfC x (defScope st) s.heap.objs.size f cdv)) → sp vs H Q E →
      ∃ t, PSs (cxOf CX0 P w K mg base N x (defScope st) f cdv A outer s H E).nox (defBody st) t ∧ t { nx := fun _ H' => Q .non H', rt := Q } (start N vs) H) : DnK P w K mg base CX0 (k + 1) x ps kw dv sp := by
  obtain ⟨f, fd, F, hm, hb, hd⟩ := F
  refine ⟨f, fd, F.ok S len fun cdv A outer s H vs Q E hr h => ?_, hm, F.kp, hb, hd, F.look⟩
  obtain ⟨t, h1, h2⟩ := hbody f cdv A outer s H vs Q E hr h
  exact ⟨t, h1.nox, h2⟩
/-- how such a def binds: h0 with the default, h1 with the keyword -/
theorem atK_mk {x kw : Str} {dv : V} {st : Stmt} {ps : List Str} {f : Addr} {fd : FuncData} (F : FunD K x x (defArgs st) (defBody st) (defScope st) [] [(kw, dv)] f fd) (hm : mg x = some (.ref f))
    (h0 : ∀ (D : Addr) (doc pm : Value) (an : Option Addr) (cdv ct : Value) (us ks : List Value), us.length = ps.length → ks.length = 1 →
      KwChain D (([(kw, dv)].map (·.1)).zip ks) (bindArgs (PySem.W.fnOf x x (defArgs st) (defBody st) (defScope st) .none (.ref D) doc pm an cdv ct) ⟨us, []⟩) ((ps ++ [kw]).zip (us ++ ks)))
    (h1 : ∀ (kV doc pm : Value) (an : Option Addr) (cdv ct : Value) (us ws : List Value), us.length = ps.length → ws.length = 1 →
      bindArgs (PySem.W.fnOf x x (defArgs st) (defBody st) (defScope st) .none kV doc pm an cdv ct) ⟨us, [kw].zip ws⟩ = pure ((ps ++ [kw]).zip (us ++ ws))) : AtK K mg x st ps kw dv := by
  refine ⟨f, fd, F, hm, ?_, ?_⟩
  · obtain ⟨oc, od, dV, kV, doc, pm, an, cdv, ct, osl, rfl, lk, hcd, hD, hK⟩ := F.ex
    rcases hD with ⟨_, rfl⟩ | ⟨e, _⟩
    · exact ⟨fun s us ws _ l1 l2 => .of_eq (h1 kV doc pm an cdv ct us ws l1 l2), fun r rz => r.append rz⟩
    · exact absurd rfl e
  · exact F.binds0 (ps := ps ++ [kw]) ps.length (by simp) (by simp) h0
end
section
variable {X : Cx} {k : Nat} {x kw : Str} {dv : V} {ps : List Str} {sp : Sp} {p pos kp : Pos} {e ek : Expr} {es : List Expr} {t : TA} {tk : TE}
/-- f(e, .., kw=ek) -/
def tCallW (n : Nat) (sp : Sp) (t : TA) (tk : TE) : TE := fun σ H Q => t σ H fun vs H1 => tk σ H1 fun z H2 => vs.length = n ∧ [z].length = 1 ∧ sp (vs ++ [z]) H2 Q E0
theorem pe_callW (D : DnK X.prog X.w X.K X.mg X.base CX0 k x ps kw dv sp) (hr : Room k X.A) (ha : PA X (e :: es) t) (hk : PE X ek tk) (hg : Gl X x := by rfl)
    (hall : (backToKw pos (keywordEach [⟨some kw, ek, kp⟩] X.env)).all (·.1.isSome) = true := by rfl) (hks : (backToKw pos (keywordEach [⟨some kw, ek, kp⟩] X.env)).filterMap (·.1) = [kw] := by rfl)
    (hdb : (x == ("__debug__" : Str)) = false := by decide) (he : starEach (e :: es) X.env = (false, eval e X.env) :: starEach es X.env := by rfl)
    (hpl : ((backTo pos (starEach (e :: es) X.env)).any (·.1) || (backToKw pos (keywordEach [⟨some kw, ek, kp⟩] X.env)).any (·.1.isNone)) = false := by rfl) :
    PE X (.Call (.Name x p) (e :: es) [⟨some kw, ek, kp⟩] pos) (tCallW ps.length sp t tk) := by
  obtain ⟨f, fd, F, hm, hkp, hb, _⟩ := D
  have h := pe_callN (p := p) F hr hg hm hkp hb pass0 ha (pk_cons (nm := some kw) (kpos := kp) hk pk_nil) hall hks hdb he hpl
  refine ⟨fun pins s σ H Q I q => h.run pins s σ H Q I ?_⟩
  exact q
theorem pe_callW0 (D : DnK X.prog X.w X.K X.mg X.base CX0 k x [] kw dv sp) (hr : Room k X.A) (hk : PE X ek tk) (hg : Gl X x := by rfl)
    (hall : (backToKw pos (keywordEach [⟨some kw, ek, kp⟩] X.env)).all (·.1.isSome) = true := by rfl) (hks : (backToKw pos (keywordEach [⟨some kw, ek, kp⟩] X.env)).filterMap (·.1) = [kw] := by rfl)
    (hdb : (x == ("__debug__" : Str)) = false := by decide)
    (hpl : ((backTo pos (starEach [] X.env)).any (·.1) || (backToKw pos (keywordEach [⟨some kw, ek, kp⟩] X.env)).any (·.1.isNone)) = false := by rfl) :
    PE X (.Call (.Name x p) [] [⟨some kw, ek, kp⟩] pos) (fun σ H Q => tk σ H fun z H2 => [z].length = 1 ∧ sp [z] H2 Q E0) := by
  obtain ⟨f, fd, F, hm, hkp, hb, _⟩ := D
  refine ⟨fun pins s σ H Q I h => ?_⟩
  refine wpAny_Call_Name_kw (ld_glob I hg hm ?_ hdb)
  refine PySem.W.callWith_KW0 (h₀ := X.base) I.ok.mod.kin hkp hall ?_ hpl
  refine thn ((pk_cons (nm := some kw) (kpos := kp) hk pk_nil).run pos pins s σ H (fun zs H2 => zs.length = 1 ∧ sp zs H2 Q E0) I ?_) fun ws s2 ⟨zs, H2, I2, rz, l2, q2⟩ => ⟨I2.kIn, ?_⟩
  · exact h
  rw [hks]
  exact run_fnN (us := []) (vs := []) F hr hb pass0 I2 .nil rz rfl l2 q2
/-- f() and f(e, ..): the default stands for it -/
theorem pe_callWd0 (D : DnK X.prog X.w X.K X.mg X.base CX0 k x [] kw dv sp) (hr : Room k X.A) (hg : Gl X x := by rfl) (hdb : (x == ("__debug__" : Str)) = false := by decide) :
    PE X (.Call (.Name x p) [] [] pos) (tCall sp [dv] E0 tNil) := by
  obtain ⟨f, fd, F, hm, hkp, _, ⟨ds, hv, hb⟩, _⟩ := D
  exact pe_call0 F hr hg hm hkp hb hv pass0 hdb
theorem pe_callWd (D : DnK X.prog X.w X.K X.mg X.base CX0 k x ps kw dv sp) (hr : Room k X.A) (ha : PA X (e :: es) t) (hg : Gl X x := by rfl) (hdb : (x == ("__debug__" : Str)) = false := by decide)
    (he : starEach (e :: es) X.env = (false, eval e X.env) :: starEach es X.env := by rfl) (hpl : (backTo pos (starEach es X.env)).any (·.1) = false := by rfl) :
    PE X (.Call (.Name x p) (e :: es) [] pos) (tCall sp [dv] E0 t) := by
  obtain ⟨f, fd, F, hm, hkp, _, ⟨ds, hv, hb⟩, _⟩ := D
  exact pe_call F hr hg hm hkp hb hv pass0 ha hdb he hpl
end
end Cm
namespace Cm
open PySem PySem.Spec PyProof.Rows L2
/-! ### the head's facts and one Bool more -/
abbrev AlB : Type := He.AlD × Bool
def obsB (n : Nat) (fa : List He.Fa) (fn : List He.DefD) (ex : PySem.W.Frag → Bool) (g : Addr → Option Obj) : AlB := (He.obsDG n fa fn g, ex (He.frG g (He.asD g n)))
def hookB (n : Nat) (fa : List He.Fa) (fn : List He.DefD) (ex : PySem.W.Frag → Bool) : PySem.W.Hook where
  α := AlB
  obs := fun s => obsB n fa fn ex s.heap.get?
  val := fun _ => (He.valD fn, true)
  says := fun _ h => ∃ K : PySem.W.Frag, K.In h ∧ He.SaysD fa fn K ∧ ex K = true
  of := fun _ _ e => ⟨_, He.frG_in, congrArg (fun z : AlB => z.1) e, congrArg (fun z : AlB => z.2) e⟩
  keeps := fun _ _ _ ⟨K, hK, c⟩ k => ⟨K, PySem.W.Frag.In.keeps hK k, c⟩
theorem obsB_eq {n : Nat} {fa : List He.Fa} {fn : List He.DefD} {ex : PySem.W.Frag → Bool} {g : Addr → Option Obj} {s : Shared} (h : ∀ a, g a = s.heap.get? a) : obsB n fa fn ex g = (hookB n fa fn ex).obs s := by
  have e : g = s.heap.get? := funext h
  rw [e] <;> rfl
end Cm
namespace Cm
open PySem PySem.Spec PyProof.Rows L2
/-! ### a range held by a name, and walked -/
theorem cr_range1 {X : Cx} : CallR X (.type "range") (fun vs H Q => ∃ j, vs = [V.int j] ∧ ∀ p, H p = none → Q (.ref p) (upd H p (.rng 0 j))) := by
  intro pins s σ H vs us Q I r h
  obtain ⟨j, rfl, q⟩ := h
  obtain ⟨u1, rfl, rj⟩ := vals1 r
  obtain ⟨u, rfl⟩ := rj
  refine call_range_1 ⟨.ref s.heap.objs.size, upd H s.heap.objs.size (.rng 0 j), I.laid (fun b o e => Heap.get?_push_of_some _ e) (Nat.le_refl _) ?_, rfl, q _ (I.hok.fresh (Nat.le_refl _))⟩
  exact ⟨_, u, _, Heap.get?_push_size _ rfl⟩
/-- for k in r, r a range that stands in H -/
def iRngV (te : TE) : TI := fun σ H R => te σ H fun x H1 => ∃ (a : Addr) (lo hi : Int), x = .ref a ∧ H1 a = some (.rng lo hi) ∧ (-(2 ^ 62) ≤ lo ∧ lo < 2 ^ 62 ∧ -(2 ^ 62) ≤ hi ∧ hi < 2 ^ 62) ∧ R (Itr lo (hi - lo).toNat) H1
theorem pi_rng {X : Cx} {tg e : Expr} {te : TE} (he : PE X e te) : PI X tg e (iRngV te) := by
  refine ⟨fun pins s σ H R I h => ?_⟩
  refine thn (he.run pins s σ H _ I h) fun v s1 hh => ?_
  obtain ⟨x, H1, I1, r1, a, lo, hi, rfl, ha, ⟨h1, h2, h3, h4⟩, q⟩ := hh
  cases r1
  obtain ⟨t, u, w', hobj⟩ : ∃ t u v, s1.heap.get? a = some { cls := .type "range", data := .fields #[.int lo t, .int hi u, .int 1 v] } := I1.hok a _ ha
  refine wpAny_pyIter_range (show IsRange s1.heap a lo hi 1 t u w' from hobj) (small_one h1 h2 h3 h4) ?_
  refine ⟨s1.heap.objs.size, [s1.heap.objs.size], _, _, H1, rfl, I1.kept (t' := s1.toks) fun b o e => Heap.get?_push_of_some _ e, turn_range _ lo (hi - lo).toNat, ?_, fun b hb => ?_, q⟩
  · have e1 : lo + ((0 : Nat) : Int) * 1 = lo := by simp
    have e2 : (((hi - lo).toNat : Nat) : Int) - ((0 : Nat) : Int) = Builtin.Range.rangeSize lo hi 1 := by rw [rangeSize_one]; split <;> omega
    show IsRangeIter _ _ (lo + ((0 : Nat) : Int) * 1) ((((hi - lo).toNat : Nat) : Int) - ((0 : Nat) : Int)) 1
    rw [e1, e2]
    exact Heap.get?_push_size _ rfl
  · have e : b = s1.heap.objs.size := by simpa using hb
    subst e
    exact I1.fpOk (Nat.le_refl _) (I1.hok.fresh (Nat.le_refl _))
end Cm

set_option Elab.async false
set_option linter.all false
set_option maxRecDepth 100000
set_option maxHeartbeats 4000000
namespace Cm
open PySem PySem.Spec PyProof.Rows L2
theorem hu1 {A : Around} (h : A.units + 64 < cLine) : A.units + 1 < cLine := by omega
theorem Same.low {H H' : Hp} {p : Addr} (s : Same H H') (n : H' p = none) : H p = none := by
  cases h : H p with
  | none => rfl
  | some o => rw [s _ _ h] at n; cases n
/-! ### tests of two parts, what follows said once -/
theorem and_ite {c : Prop} [Decidable c] {b : Bool} {A B X : Prop} (hx : c → (b = true → A) → (b = false → B) → X) (hA : c → b = true → A) (hB : (c → b = false) → B) : if decide c = true then X else B := by
  by_cases h : c
  · rw [decide_eq_true h]
    refine iteT (hx h (hA h) fun e => hB fun _ => e)
  · rw [decide_eq_false h]
    exact iteF (hB fun z => absurd z h)
theorem and_iteI {x y : Int} {b : Bool} {A B X : Prop} (hx : x = y → (b = true → A) → (b = false → B) → X) (hA : x = y → b = true → A) (hB : (x = y → b = false) → B) : if decide (V.int x = V.int y) = true then X else B :=
  and_ite (fun h => hx (V.int.inj h)) (fun h => hA (V.int.inj h)) fun h => hB fun e => h (congrArg V.int e)
/-! ### heaps without one object -/
def cutP (p : Addr) (H : Hp) : Hp := fun a => if a = p then none else H a
theorem cutP_same (p : Addr) (H : Hp) : Same (cutP p H) H := fun b o e => by
  unfold cutP at e
  split at e
  · cases e
  · exact e
theorem cutP_of {p a : Addr} {H : Hp} {o : HO} (e : H a = some o) (n : a ≠ p) : cutP p H a = some o := by
  unfold cutP
  rw [if_neg n]
  exact e
theorem _root_.Cm.Kp.cut {p : Addr} {H H' : Hp} (k : Kp p H H') : Same (cutP p H) (cutP p H') := fun b o e => by
  unfold cutP at e ⊢
  split at e
  · cases e
  · rename_i n
    rw [if_neg n]
    exact k b o e n
theorem Same.cut {p : Addr} {H H' : Hp} (s : Same H H') : Same (cutP p H) (cutP p H') := Kp.cut (Kp.of s)
/-! ### rules whose new object is told by what is known of it -/
section
variable {X : Cx} {es : List Expr} {t : TA} {pos : Pos}
def tTupF (t : TA) : TE := fun σ H Q => t σ H fun xs H1 => xs.length ≤ sizeLine ∧ ∀ p H', H1 p = none → Same H1 H' → H' p = some (.tup xs) → Q (.ref p) H'
def tLstF (t : TA) : TE := fun σ H Q => t σ H fun xs H1 => xs.length ≤ sizeLine ∧ ∀ p H', H1 p = none → Same H1 H' → H' p = some (.lst xs) → Q (.ref p) H'
theorem pe_tupF {x1} (h : PA X es t) : PE X (.Tuple es x1 pos) (tTupF t) := by
  refine ⟨fun pins s σ H Q I hq => ?_⟩
  refine wpAny_Tuple_spliced (thn (h.run pos pins s σ H _ I hq) fun us s1 ⟨xs, H1, I1, r, z, q⟩ => ⟨by rw [← r.length]; exact z, ?_⟩)
  have hf : H1 s1.heap.objs.size = none := I1.hok.fresh (Nat.le_refl _)
  refine ⟨.ref s1.heap.objs.size, upd H1 s1.heap.objs.size (.tup xs), I1.laid (t' := s1.toks) (fun b u e => Heap.get?_push_of_some _ e) (Nat.le_refl _) ?_, rfl, q _ _ hf (Same.new hf) upd_same⟩
  exact ⟨z, us, r, ⟨_, Heap.get?_push_size _ rfl, rfl, _, rfl⟩⟩
theorem pe_lstF (h : PA X es t) : PE X (.List es pos) (tLstF t) := by
  refine ⟨fun pins s σ H Q I hq => ?_⟩
  refine wpAny_List_spliced (thn (h.run pos pins s σ H _ I hq) fun us s1 ⟨xs, H1, I1, r, z, q⟩ => ⟨by rw [← r.length]; exact z, ?_⟩)
  have hf : H1 s1.heap.objs.size = none := I1.hok.fresh (Nat.le_refl _)
  refine ⟨.ref s1.heap.objs.size, upd H1 s1.heap.objs.size (.lst xs), I1.laid (t' := s1.toks) (fun b u e => Heap.get?_push_of_some _ e) (Nat.le_refl _) ?_, rfl, q _ _ hf (Same.new hf) upd_same⟩
  exact ⟨z, us, 0, r, Heap.get?_push_size _ rfl⟩
def rCatF : R2 := fun x y H Q => ∃ l b xs zs, x = .ref l ∧ y = .ref b ∧ H l = some (.lst xs) ∧ H b = some (.lst zs) ∧ xs.length + zs.length ≤ sizeLine ∧ ∀ p H', H p = none → Same H H' → H' p = some (.lst (xs ++ zs)) → Q (.ref p) H'
theorem op_catF : OpR X (binaryOp .Add) rCatF := op_cat.imp fun x y H Q h => by
  obtain ⟨l, b, xs, zs, rfl, rfl, h1, h2, h3, q⟩ := h
  exact ⟨l, b, xs, zs, rfl, rfl, h1, h2, h3, fun p np => q p _ np (Same.new np) upd_same⟩
def rRepF : R2 := fun x y H Q => ∃ l k xs, x = .ref l ∧ y = .int k ∧ H l = some (.lst xs) ∧ -(2 ^ 63) ≤ k ∧ k < 2 ^ 63 ∧ xs.length * k.toNat ≤ sizeLine ∧
  ∀ p H', H p = none → Same H H' → H' p = some (.lst (List.replicate k.toNat xs).flatten) → Q (.ref p) H'
theorem op_repF : OpR X (binaryOp .Mult) rRepF := op_rep.imp fun x y H Q h => by
  obtain ⟨l, k, xs, rfl, rfl, h1, h2, h3, h4, q⟩ := h
  exact ⟨l, k, xs, rfl, rfl, h1, h2, h3, h4, fun p np => q p _ np (Same.new np) upd_same⟩
def rSlLF (K : PySem.W.Frag) : V → Option Int → Option Int → Hp → VK → Prop := fun x lo hi H Q => ∃ a xs, x = .ref a ∧ SqL K H a xs ∧ ∀ p H', H p = none → Same H H' → H' p = some (.lst (cutV xs lo hi)) → Q (.ref p) H'
theorem sl_listF : SlR X (rSlLF X.K) := by
  intro pins s σ H x v vl vu lo hi sl Q I rx hs pl pu h
  obtain ⟨a, xs, rfl, ha, q⟩ := h
  exact sl_list pins s σ H (.ref a) v vl vu lo hi sl Q I rx hs pl pu ⟨a, xs, rfl, ha, fun p np => q p _ np (Same.new np) upd_same⟩
def rListF (K : PySem.W.Frag) : List V → Hp → VK → Prop := fun xs H Q => ∃ p ys, xs = [.ref p] ∧ (SqL K H p ys ∨ SqT K H p ys) ∧ ∀ l H', H l = none → Same H H' → H' l = some (.lst ys) → Q (.ref l) H'
theorem call_listF : CallR X (.type "list") (rListF X.K) := by
  intro pins s σ H xs us Q I r h
  obtain ⟨p, ys, rfl, hq, q⟩ := h
  exact call_list_of pins s σ H [.ref p] us Q I r ⟨p, ys, rfl, hq, fun l nl => q l _ nl (Same.new nl) upd_same⟩
def rTupleF (K : PySem.W.Frag) : List V → Hp → VK → Prop := fun xs H Q => ∃ p ys, xs = [.ref p] ∧ ((SqL K H p ys ∧ ∀ l H', H l = none → Same H H' → H' l = some (.tup ys) → Q (.ref l) H') ∨ (SqT K H p ys ∧ Q (.ref p) H))
theorem call_tupleF : CallR X (.type "tuple") (rTupleF X.K) := by
  intro pins s σ H xs us Q I r h
  obtain ⟨p, ys, rfl, hq⟩ := h
  refine call_tuple_of pins s σ H [.ref p] us Q I r ⟨p, ys, rfl, ?_⟩
  rcases hq with ⟨hq, q⟩ | hq
  · exact .inl ⟨hq, fun l nl => q l _ nl (Same.new nl) upd_same⟩
  · exact .inr hq
def rListDF : List V → Hp → VK → Prop := fun xs H Q => ∃ p kvs, xs = [.ref p] ∧ H p = some (.dK kvs) ∧ ∀ l H', H l = none → Same H H' → H' l = some (.lst (kvs.map fun kv => kV kv.1)) → Q (.ref l) H'
theorem call_listDF (hc : X.calm = true) : CallR X (.type "list") rListDF := by
  intro pins s σ H xs us Q I r h
  obtain ⟨p, kvs, rfl, hq, q⟩ := h
  exact call_list_dK hc pins s σ H [.ref p] us Q I r ⟨p, kvs, rfl, hq, fun l nl => q l _ nl (Same.new nl) upd_same⟩
def tDNewF : TE := fun _ H Q => ∀ p H', H p = none → Same H H' → H' p = some (.dK []) → Q (.ref p) H'
theorem pe_dnewF : PE X (.Dict [] [] pos) tDNewF := ⟨fun pins s σ H Q I h => pe_dnewK.run pins s σ H Q I fun p np => h p _ np (Same.new np) upd_same⟩
/-- != of data, or of two dicts that are one -/
theorem op_neAny (hu : X.A.units + 64 < cLine) : OpR X (compareOp .NotEq) (fun x y H Q => rNeD X.K x y H Q ∨ rNeDA x y H Q) := (op_neD hu).or (op_ne_dictA (by omega))
end
/-! ### defs with one keyword-only parameter without a default -/
def DnN (P : Program) (w : World) (K : PySem.W.Frag) (mg : Str → Option Value) (base : Heap) (CX : CXT) (k : Nat) (x : Str) (ps : List Str) (kw : Str) (sp : Sp) : Prop :=
  ∃ (f : Addr) (fd : FuncData), FnOk P w K mg base CX k f fd (ps ++ [kw]) sp ∧ mg x = some (.ref f) ∧ PySem.W.keepIn K (.ref f) = true ∧ KBn K fd (ps ++ [kw]) ps.length [kw] (fun us ws => us ++ ws) (fun vs zs => vs ++ zs) ∧ ∃ oc od osl, K.lookup f = some ⟨oc, od, .func fd, osl⟩
def AtN (K : PySem.W.Frag) (mg : Str → Option Value) (x : Str) (st : Stmt) (ps : List Str) (kw : Str) : Prop :=
  ∃ (f : Addr) (fd : FuncData), FunD K x x (defArgs st) (defBody st) (defScope st) [] [] f fd ∧ mg x = some (.ref f) ∧ KBn K fd (ps ++ [kw]) ps.length [kw] (fun us ws => us ++ ws) (fun vs zs => vs ++ zs)
section
variable {P : Program} {w : World} {K : PySem.W.Frag} {mg : Str → Option Value} {base : Heap}
theorem AtN.ok {x kw : Str} {st : Stmt} {N ps : List Str} {k : Nat} {sp : Sp} (F : AtN K mg x st ps kw) (S : FnScope N (ps ++ [kw]) (defScope st)) (len : ∀ vs H Q E, sp vs H Q E → vs.length = (ps ++ [kw]).length)
    (hbody : ∀ (f : Addr) (cdv : Value) (A : Around) (outer : List Env) (s : Shared) (H : Hp) (vs : List V) (Q : VK) (E : XK), Room k (A.deeper (envOfC x (defScope st) s.heap.objs.size f cdv)) → sp vs H Q E →
      ∃ t, PSs (cxOf CX0 P w K mg base N x (defScope st) f cdv A outer s H E).nox (defBody st) t ∧ t { nx := fun _ H' => Q .non H', rt := Q } (start N vs) H) : DnN P w K mg base CX0 (k + 1) x ps kw sp := by
  obtain ⟨f, fd, F, hm, hb⟩ := F
  refine ⟨f, fd, F.ok S len fun cdv A outer s H vs Q E hr h => ?_, hm, F.kp, hb, F.look⟩
  obtain ⟨t, h1, h2⟩ := hbody f cdv A outer s H vs Q E hr h
  exact ⟨t, h1.nox, h2⟩
theorem atN_mk {x kw : Str} {st : Stmt} {ps : List Str} {f : Addr} {fd : FuncData} (F : FunD K x x (defArgs st) (defBody st) (defScope st) [] [] f fd) (hm : mg x = some (.ref f))
    (h1 : ∀ (kV doc pm : Value) (an : Option Addr) (cdv ct : Value) (us ws : List Value), us.length = ps.length → ws.length = 1 →
      bindArgs (PySem.W.fnOf x x (defArgs st) (defBody st) (defScope st) .none kV doc pm an cdv ct) ⟨us, [kw].zip ws⟩ = pure ((ps ++ [kw]).zip (us ++ ws))) : AtN K mg x st ps kw := by
  refine ⟨f, fd, F, hm, ?_⟩
  obtain ⟨oc, od, dV, kV, doc, pm, an, cdv, ct, osl, rfl, lk, hcd, hD, hK⟩ := F.ex
  rcases hD with ⟨_, rfl⟩ | ⟨e, _⟩
  · exact ⟨fun s us ws _ l1 l2 => .of_eq (h1 kV doc pm an cdv ct us ws l1 l2), fun r rz => r.append rz⟩
  · exact absurd rfl e
end
section
variable {X : Cx} {k : Nat} {x kw : Str} {ps : List Str} {sp : Sp} {p pos kp : Pos} {e ek : Expr} {es : List Expr} {t : TA} {tk : TE}
theorem pe_callV (D : DnN X.prog X.w X.K X.mg X.base CX0 k x ps kw sp) (hr : Room k X.A) (ha : PA X (e :: es) t) (hk : PE X ek tk) (hg : Gl X x := by rfl)
    (hall : (backToKw pos (keywordEach [⟨some kw, ek, kp⟩] X.env)).all (·.1.isSome) = true := by rfl) (hks : (backToKw pos (keywordEach [⟨some kw, ek, kp⟩] X.env)).filterMap (·.1) = [kw] := by rfl)
    (hdb : (x == ("__debug__" : Str)) = false := by decide) (he : starEach (e :: es) X.env = (false, eval e X.env) :: starEach es X.env := by rfl)
    (hpl : ((backTo pos (starEach (e :: es) X.env)).any (·.1) || (backToKw pos (keywordEach [⟨some kw, ek, kp⟩] X.env)).any (·.1.isNone)) = false := by rfl) :
    PE X (.Call (.Name x p) (e :: es) [⟨some kw, ek, kp⟩] pos) (tCallW ps.length sp t tk) := by
  obtain ⟨f, fd, F, hm, hkp, hb, _⟩ := D
  have h := pe_callN (p := p) F hr hg hm hkp hb pass0 ha (pk_cons (nm := some kw) (kpos := kp) hk pk_nil) hall hks hdb he hpl
  refine ⟨fun pins s σ H Q I q => h.run pins s σ H Q I ?_⟩
  exact q
theorem pe_callV0 (D : DnN X.prog X.w X.K X.mg X.base CX0 k x [] kw sp) (hr : Room k X.A) (hk : PE X ek tk) (hg : Gl X x := by rfl)
    (hall : (backToKw pos (keywordEach [⟨some kw, ek, kp⟩] X.env)).all (·.1.isSome) = true := by rfl) (hks : (backToKw pos (keywordEach [⟨some kw, ek, kp⟩] X.env)).filterMap (·.1) = [kw] := by rfl)
    (hdb : (x == ("__debug__" : Str)) = false := by decide)
    (hpl : ((backTo pos (starEach [] X.env)).any (·.1) || (backToKw pos (keywordEach [⟨some kw, ek, kp⟩] X.env)).any (·.1.isNone)) = false := by rfl) :
    PE X (.Call (.Name x p) [] [⟨some kw, ek, kp⟩] pos) (fun σ H Q => tk σ H fun z H2 => [z].length = 1 ∧ sp [z] H2 Q E0) := by
  obtain ⟨f, fd, F, hm, hkp, hb, _⟩ := D
  refine ⟨fun pins s σ H Q I h => ?_⟩
  refine wpAny_Call_Name_kw (ld_glob I hg hm ?_ hdb)
  refine PySem.W.callWith_KW0 (h₀ := X.base) I.ok.mod.kin hkp hall ?_ hpl
  refine thn ((pk_cons (nm := some kw) (kpos := kp) hk pk_nil).run pos pins s σ H (fun zs H2 => zs.length = 1 ∧ sp zs H2 Q E0) I ?_) fun ws s2 ⟨zs, H2, I2, rz, l2, q2⟩ => ⟨I2.kIn, ?_⟩
  · exact h
  rw [hks]
  exact run_fnN (us := []) (vs := []) F hr hb pass0 I2 .nil rz rfl l2 q2
end
theorem pi_listK {X : Cx} (K : PySem.W.Frag) {tg e : Expr} {te : TE} (he : PE X e te) (hK : X.K = K := by rfl) : PI X tg e (iList K te) := by
  subst hK
  exact pi_list he
end Cm

set_option Elab.async false
set_option linter.all false
set_option maxRecDepth 100000
set_option maxHeartbeats 4000000
namespace Cm
open PySem PySem.Spec PyProof.Rows L2
/-- a list of lists of ints, each a list of its own -/
structure Mat (H : Hp) (r : Addr) (as : List Addr) (rows : List (List Int)) : Prop where
  hd : H r = some (.lst (as.map V.ref))
  nd : (r :: as).Nodup
  len : as.length = rows.length
  get : ∀ (i : Nat) (a : Addr) (row : List Int), as[i]? = some a → rows[i]? = some row → H a = some (.lst (row.map V.int))
theorem Mat.nil {H : Hp} {r : Addr} (h : H r = some (.lst [])) : Mat H r [] [] := ⟨h, by simp, rfl, fun i a row e => by simp at e⟩
theorem Mat.in {H : Hp} {r : Addr} {as : List Addr} {rows : List (List Int)} (M : Mat H r as rows) {a : Addr} (h : a ∈ as) : ∃ o, H a = some o := by
  obtain ⟨i, hi, e⟩ := List.mem_iff_getElem.mp h
  have hi2 : i < rows.length := by rw [← M.len]; exact hi
  exact ⟨_, M.get i a rows[i] (by rw [List.getElem?_eq_getElem hi, e]) (by rw [List.getElem?_eq_getElem hi2])⟩
theorem Mat.same {H H' : Hp} {r : Addr} {as : List Addr} {rows : List (List Int)} (M : Mat H r as rows) (s : Same H H') : Mat H' r as rows := ⟨s _ _ M.hd, M.nd, M.len, fun i a row e1 e2 => s _ _ (M.get i a row e1 e2)⟩
theorem Mat.snoc {H H4 : Hp} {r d : Addr} {as : List Addr} {rows : List (List Int)} {row : List Int} (M : Mat H r as rows) (s : Same H H4) (nd : H d = none) (ed : H4 d = some (.lst (row.map V.int))) :
    Mat (upd H4 r (.lst (as.map V.ref ++ [V.ref d]))) r (as ++ [d]) (rows ++ [row]) := by
  have dr : d ≠ r := fun e => by rw [e] at nd; rw [M.hd] at nd; cases nd
  have da : d ∉ as := fun h => by obtain ⟨o, e⟩ := M.in h; rw [nd] at e; cases e
  have hn := List.nodup_cons.mp M.nd
  refine ⟨by rw [upd_same, List.map_append]; rfl, ?_, by rw [List.length_append, List.length_append, M.len]; rfl, fun i a rw' e1 e2 => ?_⟩
  · refine List.nodup_cons.mpr ⟨fun h => ?_, ?_⟩
    · rcases List.mem_append.mp h with h | h
      · exact hn.1 h
      · exact dr (List.mem_singleton.mp h).symm
    · refine List.nodup_append.mpr ⟨hn.2, by simp, fun x hx y hy e => ?_⟩
      rw [List.mem_singleton.mp hy] at e
      exact da (e ▸ hx)
  · by_cases hi : i < as.length
    · rw [List.getElem?_append_left hi] at e1
      rw [List.getElem?_append_left (by rw [← M.len]; exact hi)] at e2
      have ha : a ∈ as := List.mem_of_getElem? e1
      have : a ≠ r := fun e => hn.1 (e ▸ ha)
      rw [upd_ne this]
      exact s _ _ (M.get i a rw' e1 e2)
    · have hi' : as.length ≤ i := by omega
      rw [List.getElem?_append_right hi'] at e1
      rw [List.getElem?_append_right (by rw [← M.len]; exact hi'), ← M.len] at e2
      have i0 : i - as.length = 0 := by
        cases h : i - as.length with
        | zero => rfl
        | succ n => rw [h] at e1; simp at e1
      rw [i0] at e1 e2
      simp at e1 e2
      rw [← e1, ← e2, upd_ne dr]
      exact ed
theorem Mat.kp {H H' : Hp} {r p : Addr} {as : List Addr} {rows : List (List Int)} (M : Mat H r as rows) (k : Kp p H H') (n : ∀ c ∈ r :: as, c ≠ p) : Mat H' r as rows :=
  ⟨k _ _ M.hd (n _ (List.mem_cons_self ..)), M.nd, M.len, fun i a row e1 e2 => k _ _ (M.get i a row e1 e2) (n _ (List.mem_cons_of_mem _ (List.mem_of_getElem? e1)))⟩
theorem Mat.put {H : Hp} {r : Addr} {as : List Addr} {rows : List (List Int)} (M : Mat H r as rows) {i : Nat} {a : Addr} (e : as[i]? = some a) (row : List Int) : Mat (upd H a (.lst (row.map V.int))) r as (rows.set i row) := by
  have hn := List.nodup_cons.mp M.nd
  have ha : a ∈ as := List.mem_of_getElem? e
  refine ⟨by rw [upd_ne (show r ≠ a from fun z => hn.1 (z ▸ ha))]; exact M.hd, M.nd, by rw [List.length_set]; exact M.len, fun j b rw' e1 e2 => ?_⟩
  by_cases h : j = i
  · subst h
    rw [e] at e1
    cases e1
    have hl : j < rows.length := by rw [← M.len]; exact (List.getElem?_eq_some_iff.mp e).1
    rw [List.getElem?_set_self hl] at e2
    cases e2
    exact upd_same
  · rw [List.getElem?_set_ne (Ne.symm h)] at e2
    have ba : b ≠ a := fun z => by
      rw [z] at e1
      obtain ⟨q1, q2⟩ := List.getElem?_eq_some_iff.mp e1
      obtain ⟨q3, q4⟩ := List.getElem?_eq_some_iff.mp e
      exact h ((List.getElem_inj (h₀ := q1) (h₁ := q3) hn.2).mp (q2.trans q4.symm))
    rw [upd_ne ba]
    exact M.get j b rw' e1 e2
/-! ### comprehensions whose members are new lists of ints -/
section
variable {J : It} {n : Nat} {G : Hp → Prop} {Y : Nat → Hp → V → Hp → Prop}
theorem lc_rows (w : Walk J n G Y) {g : TG} {tt : TT} {te : TE} {vs : List Nat} {σ : L2.St} {H1 : Hp} {D : Addr} {Qd : Hp → Prop} (rows : Nat → List Int) (hD : H1 D = none) (hn : n < sizeLine) (hG : ∀ H, Same H1 H → G H)
    (hs : ∀ i x H H' (R : V → Hp → Prop) (R' : Hp → Prop), i < n → Same H1 H → Y i H x H' → (∀ d H4, Same H H4 → H d = none → H4 d = some (.lst ((rows i).map V.int)) → R (.ref d) H4) → g x (wipe σ vs) H' fun σ2 H2 => wipe σ2 vs = wipe σ vs ∧ tt σ2 H2 fun b H3 => if b = true then te σ2 H3 R else R' H3)
    (hd : ∀ H as, Same H1 H → Mat H D as ((List.range n).map rows) → (∀ b ∈ as, H1 b = none) → Qd H) :
    ∃ W : Nat → Nat → Hp → Prop, (∃ m, W 0 m (upd H1 D (.lst []))) ∧ ∀ i m H, W i m H →
      (J.stop i H ∧ Qd H) ∨ (J.go i H ∧ ∃ Nx : Hp → Prop, (∀ H', Nx H' → ∃ m', m' < m ∧ W (i + 1) m' H') ∧ ∀ x H', J.yld i H x H' → g x (wipe σ vs) H' fun σ2 H2 => wipe σ2 vs = wipe σ vs ∧ tt σ2 H2 fun b H3 =>
        if b = true then te σ2 H3 fun y H4 => ∃ acc, H4 D = some (.lst acc) ∧ acc.length < sizeLine ∧ Nx (upd H4 D (.lst (acc ++ [y]))) else Nx H3) := by
  refine lc_it w (fun i H => Same H1 H ∧ ∃ as, Mat H D as ((List.range i).map rows) ∧ ∀ b ∈ as, H1 b = none) ⟨Same.new hD, [], Mat.nil upd_same, fun _ h => by cases h⟩ (fun i H _ p => hG H p.1) ?_ (fun H ⟨p1, as, p2, p3⟩ => hd H as p1 p2 p3)
  intro i x H H' hi p y
  obtain ⟨p1, as, p2, p3⟩ := p
  refine hs i x H H' _ _ hi p1 y fun d H4 s4 nd ed => ?_
  have al : as.length = i := by rw [p2.len, List.length_map, List.length_range]
  refine ⟨_, s4 _ _ p2.hd, by rw [List.length_map, al]; omega, fun b o e => ?_, as ++ [d], ?_, fun b hb => ?_⟩
  · rw [upd_ne (ne_of_none e hD)]
    exact s4 _ _ (p1 _ _ e)
  · rw [List.range_succ, List.map_append]
    exact p2.snoc s4 nd ed
  · rcases List.mem_append.mp hb with hb | hb
    · exact p3 b hb
    · rw [List.mem_singleton.mp hb]
      exact Same.low p1 nd
end
/-! ### dict comprehensions -/
section
variable {J : It} {n : Nat} {G : Hp → Prop} {Y : Nat → Hp → V → Hp → Prop}
theorem dc_it (w : Walk J n G Y) {g : TG} {tt : TT} {tk tv : TE} {vs : List Nat} {σ : L2.St} {H1 : Hp} {D : Addr} {Qd : Hp → Prop} (Pv : Nat → Hp → Prop) (h0 : Pv 0 (upd H1 D (.dK []))) (hG : ∀ i H, i ≤ n → Pv i H → G H)
    (hs : ∀ i x H H', i < n → Pv i H → Y i H x H' → g x (wipe σ vs) H' fun σ2 H2 => wipe σ2 vs = wipe σ vs ∧ tt σ2 H2 fun b H3 =>
      if b = true then tk σ2 H3 fun y H4 => tv σ2 H4 fun z H5 => ∃ kvs k, y = kV k ∧ H5 D = some (.dK kvs) ∧ kvs.length < sizeLine ∧ Pv (i + 1) (upd H5 D (.dK (putK kvs k z))) else Pv (i + 1) H3) (hd : ∀ H, Pv n H → Qd H) :
    ∃ W : Nat → Nat → Hp → Prop, (∃ m, W 0 m (upd H1 D (.dK []))) ∧ ∀ i m H, W i m H →
      (J.stop i H ∧ Qd H) ∨ (J.go i H ∧ ∃ Nx : Hp → Prop, (∀ H', Nx H' → ∃ m', m' < m ∧ W (i + 1) m' H') ∧ ∀ x H', J.yld i H x H' → g x (wipe σ vs) H' fun σ2 H2 => wipe σ2 vs = wipe σ vs ∧ tt σ2 H2 fun b H3 =>
        if b = true then tk σ2 H3 fun y H4 => tv σ2 H4 fun z H5 => ∃ kvs k, y = kV k ∧ H5 D = some (.dK kvs) ∧ kvs.length < sizeLine ∧ Nx (upd H5 D (.dK (putK kvs k z))) else Nx H3) := by
  refine ⟨fun i m H => m = n - i ∧ i ≤ n ∧ Pv i H, ⟨n, by simp, Nat.zero_le _, h0⟩, ?_⟩
  rintro i m H ⟨rfl, hi, p⟩
  have q := hG i H hi p
  by_cases hlt : i < n
  · refine .inr ⟨w.goes i H hlt q, Pv (i + 1), fun H' p' => ⟨n - (i + 1), by omega, rfl, hlt, p'⟩, fun x H' y => hs i x H H' hlt p (w.yields i H x H' hlt q y)⟩
  · have e : i = n := by omega
    subst e
    exact .inl ⟨w.stops H q, hd H p⟩
/-- of keys that are all unlike, and values that are known -/
theorem dc_map (w : Walk J n G Y) {g : TG} {tt : TT} {tk tv : TE} {vs : List Nat} {σ : L2.St} {H1 : Hp} {D : Addr} {Qd : Hp → Prop} (kf : Nat → Key) (vf : Nat → V) (hk : ∀ i j, i < j → j < n → kf i ≠ kf j) (hD : H1 D = none) (hn : n < sizeLine) (hG : ∀ H, Same H1 H → G H)
    (hs : ∀ i x H H' (R : V → V → Hp → Prop) (R' : Hp → Prop), i < n → Same H1 H → Y i H x H' → (∀ H4, Same H H4 → R (kV (kf i)) (vf i) H4) → g x (wipe σ vs) H' fun σ2 H2 => wipe σ2 vs = wipe σ vs ∧ tt σ2 H2 fun b H3 => if b = true then tk σ2 H3 fun y H4 => tv σ2 H4 (R y) else R' H3)
    (hd : ∀ H, Same H1 H → H D = some (.dK ((List.range n).map fun i => (kf i, vf i))) → Qd H) :
    ∃ W : Nat → Nat → Hp → Prop, (∃ m, W 0 m (upd H1 D (.dK []))) ∧ ∀ i m H, W i m H →
      (J.stop i H ∧ Qd H) ∨ (J.go i H ∧ ∃ Nx : Hp → Prop, (∀ H', Nx H' → ∃ m', m' < m ∧ W (i + 1) m' H') ∧ ∀ x H', J.yld i H x H' → g x (wipe σ vs) H' fun σ2 H2 => wipe σ2 vs = wipe σ vs ∧ tt σ2 H2 fun b H3 =>
        if b = true then tk σ2 H3 fun y H4 => tv σ2 H4 fun z H5 => ∃ kvs k, y = kV k ∧ H5 D = some (.dK kvs) ∧ kvs.length < sizeLine ∧ Nx (upd H5 D (.dK (putK kvs k z))) else Nx H3) := by
  refine dc_it w (fun i H => Same H1 H ∧ H D = some (.dK ((List.range i).map fun i => (kf i, vf i)))) ⟨Same.new hD, upd_same⟩ (fun i H _ p => hG H p.1) ?_ (fun H p => hd H p.1 p.2)
  intro i x H H' hi p y
  refine hs i x H H' (fun y z H5 => ∃ kvs k, y = kV k ∧ H5 D = some (.dK kvs) ∧ kvs.length < sizeLine ∧ (Same H1 (upd H5 D (.dK (putK kvs k z))) ∧ upd H5 D (.dK (putK kvs k z)) D = some (.dK ((List.range (i + 1)).map fun i => (kf i, vf i))))) _ hi p.1 y fun H4 s4 => ?_
  refine ⟨_, _, rfl, s4 _ _ p.2, by rw [List.length_map, List.length_range]; omega, fun b o e => ?_, ?_⟩
  · rw [upd_ne (ne_of_none e hD)]
    exact s4 _ _ (p.1 _ _ e)
  · rw [upd_same, putK_new, List.range_succ, List.map_append]
    · rfl
    · have : ∀ m, m ≤ i → valV ((List.range m).map fun i => (kf i, vf i)) (kf i) = none := fun m => by
        induction m with
        | zero => intro _; rfl
        | succ m ih =>
          intro hm
          rw [List.range_succ, List.map_append]
          show valV (((List.range m).map fun i => (kf i, vf i)) ++ [(kf m, vf m)]) (kf i) = none
          have h0 : valV ((List.range m).map fun i => (kf i, vf i)) (kf m) = none := by
            have : ∀ q, q ≤ m → valV ((List.range q).map fun i => (kf i, vf i)) (kf m) = none := fun q => by
              induction q with
              | zero => intro _; rfl
              | succ q ihq =>
                intro hq
                have e1 : ((List.range (q + 1)).map fun i => (kf i, vf i)) = ((List.range q).map fun i => (kf i, vf i)) ++ [(kf q, vf q)] := by rw [List.range_succ, List.map_append]; rfl
                unfold valV
                rw [e1, List.find?_append]
                have := ihq (by omega)
                unfold valV at this
                rw [Option.map_eq_none_iff] at this
                rw [this]
                simp [hk q m (by omega) (by omega)]
            exact this m (Nat.le_refl _)
          rw [valV_snoc _ _ _ _ h0, if_neg (fun e => hk m i (by omega) hi e.symm)]
          exact ih (by omega)
      exact this i (Nat.le_refl _)
end
theorem valV_none {kvs : List (Key × V)} {k : Key} (h : ∀ p ∈ kvs, p.1 ≠ k) : valV kvs k = none := by
  unfold valV
  rw [Option.map_eq_none_iff, List.find?_eq_none]
  intro p hp
  simpa using h p hp
theorem valV_range {n : Nat} {kf : Nat → Key} {vf : Nat → V} (hk : ∀ i j, i < j → j < n → kf i ≠ kf j) : ∀ {m j : Nat}, m ≤ n → j < m → valV ((List.range m).map fun i => (kf i, vf i)) (kf j) = some (vf j)
  | 0, j, _, h => absurd h (by omega)
  | m + 1, j, hm, hj => by
    have e1 : ((List.range (m + 1)).map fun i => (kf i, vf i)) = ((List.range m).map fun i => (kf i, vf i)) ++ [(kf m, vf m)] := by rw [List.range_succ, List.map_append]; rfl
    rw [e1]
    have h0 : valV ((List.range m).map fun i => (kf i, vf i)) (kf m) = none := valV_none fun p hp => by
      obtain ⟨i, hi, rfl⟩ := List.mem_map.mp hp
      exact hk i m (List.mem_range.mp hi) (by omega)
    rw [valV_snoc _ _ _ _ h0]
    by_cases e : j = m
    · subst e
      rw [if_pos rfl]
    · rw [if_neg (hk j m (by omega) (by omega))]
      exact valV_range hk (by omega) (by omega)
/-! ### a dict of lists of ints, by places from 0 -/
def pairsD (as : List Addr) : List (Key × V) := (List.range as.length).map fun (i : Nat) => (Sum.inl (i : Int), V.ref (as.getD i default))
theorem inl_ne {i j : Nat} (h : i < j) : (Sum.inl (i : Int) : Key) ≠ Sum.inl (j : Int) := fun e => by
  have := Sum.inl.inj e
  omega
theorem pairsD_at {as : List Addr} {i : Nat} {a : Addr} (h : as[i]? = some a) : valV (pairsD as) (Sum.inl (i : Int)) = some (.ref a) := by
  have hi := (List.getElem?_eq_some_iff.mp h).1
  have := valV_range (n := as.length) (kf := fun i => Sum.inl (i : Int)) (vf := fun i => V.ref (as.getD i default)) (fun i j h _ => inl_ne h) (Nat.le_refl _) hi
  unfold pairsD
  rw [this, List.getD_eq_getElem?_getD, h]
  rfl
structure DMat (H : Hp) (r : Addr) (as : List Addr) (rows : List (List Int)) : Prop where
  hd : H r = some (.dK (pairsD as))
  nd : (r :: as).Nodup
  len : as.length = rows.length
  get : ∀ (i : Nat) (a : Addr) (row : List Int), as[i]? = some a → rows[i]? = some row → H a = some (.lst (row.map V.int))
theorem DMat.same {H H' : Hp} {r : Addr} {as : List Addr} {rows : List (List Int)} (M : DMat H r as rows) (s : Same H H') : DMat H' r as rows := ⟨s _ _ M.hd, M.nd, M.len, fun i a row e1 e2 => s _ _ (M.get i a row e1 e2)⟩
theorem DMat.in {H : Hp} {r : Addr} {as : List Addr} {rows : List (List Int)} (M : DMat H r as rows) {a : Addr} (h : a ∈ as) : ∃ o, H a = some o := by
  obtain ⟨i, hi, e⟩ := List.mem_iff_getElem.mp h
  have hi2 : i < rows.length := by rw [← M.len]; exact hi
  exact ⟨_, M.get i a rows[i] (by rw [List.getElem?_eq_getElem hi, e]) (by rw [List.getElem?_eq_getElem hi2])⟩
theorem pairsD_snoc (as : List Addr) (d : Addr) : putK (pairsD as) (Sum.inl (as.length : Int)) (.ref d) = pairsD (as ++ [d]) := by
  rw [putK_new]
  · unfold pairsD
    rw [List.length_append, List.length_singleton, List.range_succ, List.map_append]
    congr 1
    · refine List.map_congr_left fun i hi => ?_
      rw [List.getD_eq_getElem?_getD, List.getD_eq_getElem?_getD, List.getElem?_append_left (List.mem_range.mp hi)]
    · simp [List.getD]
  · refine valV_none fun p hp => ?_
    obtain ⟨i, hi, rfl⟩ := List.mem_map.mp hp
    exact inl_ne (List.mem_range.mp hi)
theorem DMat.snoc {H H4 : Hp} {r d : Addr} {as : List Addr} {rows : List (List Int)} {row : List Int} (M : DMat H r as rows) (s : Same H H4) (nd : H d = none) (ed : H4 d = some (.lst (row.map V.int))) :
    DMat (upd H4 r (.dK (putK (pairsD as) (Sum.inl (as.length : Int)) (.ref d)))) r (as ++ [d]) (rows ++ [row]) := by
  have dr : d ≠ r := fun e => by rw [e] at nd; rw [M.hd] at nd; cases nd
  have da : d ∉ as := fun h => by obtain ⟨o, e⟩ := M.in h; rw [nd] at e; cases e
  have hn := List.nodup_cons.mp M.nd
  refine ⟨by rw [upd_same, pairsD_snoc], ?_, by rw [List.length_append, List.length_append, M.len]; rfl, fun i a rw' e1 e2 => ?_⟩
  · refine List.nodup_cons.mpr ⟨fun h => ?_, ?_⟩
    · rcases List.mem_append.mp h with h | h
      · exact hn.1 h
      · exact dr (List.mem_singleton.mp h).symm
    · refine List.nodup_append.mpr ⟨hn.2, by simp, fun x hx y hy e => ?_⟩
      rw [List.mem_singleton.mp hy] at e
      exact da (e ▸ hx)
  · by_cases hi : i < as.length
    · rw [List.getElem?_append_left hi] at e1
      rw [List.getElem?_append_left (by rw [← M.len]; exact hi)] at e2
      have ha : a ∈ as := List.mem_of_getElem? e1
      have : a ≠ r := fun e => hn.1 (e ▸ ha)
      rw [upd_ne this]
      exact s _ _ (M.get i a rw' e1 e2)
    · have hi' : as.length ≤ i := by omega
      rw [List.getElem?_append_right hi'] at e1
      rw [List.getElem?_append_right (by rw [← M.len]; exact hi'), ← M.len] at e2
      have i0 : i - as.length = 0 := by
        cases h : i - as.length with
        | zero => rfl
        | succ n => rw [h] at e1; simp at e1
      rw [i0] at e1 e2
      simp at e1 e2
      rw [← e1, ← e2, upd_ne dr]
      exact ed
section
variable {J : It} {n : Nat} {G : Hp → Prop} {Y : Nat → Hp → V → Hp → Prop}
theorem dc_rows (w : Walk J n G Y) {g : TG} {tt : TT} {tk tv : TE} {vs : List Nat} {σ : L2.St} {H1 : Hp} {D : Addr} {Qd : Hp → Prop} (rows : Nat → List Int) (hD : H1 D = none) (hn : n < sizeLine) (hG : ∀ H, Same H1 H → G H)
    (hs : ∀ i x H H' (R : V → V → Hp → Prop) (R' : Hp → Prop), i < n → Same H1 H → Y i H x H' → (∀ d H4, Same H H4 → H d = none → H4 d = some (.lst ((rows i).map V.int)) → R (.int i) (.ref d) H4) → g x (wipe σ vs) H' fun σ2 H2 => wipe σ2 vs = wipe σ vs ∧ tt σ2 H2 fun b H3 => if b = true then tk σ2 H3 fun y H4 => tv σ2 H4 (R y) else R' H3)
    (hd : ∀ H as, Same H1 H → DMat H D as ((List.range n).map rows) → (∀ b ∈ as, H1 b = none) → Qd H) :
    ∃ W : Nat → Nat → Hp → Prop, (∃ m, W 0 m (upd H1 D (.dK []))) ∧ ∀ i m H, W i m H →
      (J.stop i H ∧ Qd H) ∨ (J.go i H ∧ ∃ Nx : Hp → Prop, (∀ H', Nx H' → ∃ m', m' < m ∧ W (i + 1) m' H') ∧ ∀ x H', J.yld i H x H' → g x (wipe σ vs) H' fun σ2 H2 => wipe σ2 vs = wipe σ vs ∧ tt σ2 H2 fun b H3 =>
        if b = true then tk σ2 H3 fun y H4 => tv σ2 H4 fun z H5 => ∃ kvs k, y = kV k ∧ H5 D = some (.dK kvs) ∧ kvs.length < sizeLine ∧ Nx (upd H5 D (.dK (putK kvs k z))) else Nx H3) := by
  refine dc_it w (fun i H => Same H1 H ∧ ∃ as, DMat H D as ((List.range i).map rows) ∧ ∀ b ∈ as, H1 b = none) ⟨Same.new hD, [], ⟨(by show upd H1 D (.dK []) D = some (.dK []); exact upd_same), by simp, rfl, fun i a row e => by simp at e⟩, fun _ h => by cases h⟩ (fun i H _ p => hG H p.1) ?_ (fun H ⟨p1, as, p2, p3⟩ => hd H as p1 p2 p3)
  intro i x H H' hi p y
  obtain ⟨p1, as, p2, p3⟩ := p
  refine hs i x H H' (fun y z H5 => ∃ kvs k, y = kV k ∧ H5 D = some (.dK kvs) ∧ kvs.length < sizeLine ∧ (Same H1 (upd H5 D (.dK (putK kvs k z))) ∧ ∃ as, DMat (upd H5 D (.dK (putK kvs k z))) D as ((List.range (i + 1)).map rows) ∧ ∀ b ∈ as, H1 b = none)) _ hi p1 y fun d H4 s4 nd ed => ?_
  have al : as.length = i := by rw [p2.len, List.length_map, List.length_range]
  refine ⟨pairsD as, Sum.inl (as.length : Int), by rw [al]; rfl, s4 _ _ p2.hd, by unfold pairsD; rw [List.length_map, List.length_range, al]; omega, fun b o e => ?_, as ++ [d], ?_, fun b hb => ?_⟩
  · rw [upd_ne (ne_of_none e hD)]
    exact s4 _ _ (p1 _ _ e)
  · rw [List.range_succ, List.map_append]
    exact p2.snoc s4 nd ed
  · rcases List.mem_append.mp hb with hb | hb
    · exact p3 b hb
    · rw [List.mem_singleton.mp hb]
      exact Same.low p1 nd
end
end Cm

set_option Elab.async false
set_option linter.all false
namespace Cm
/-! ### sums, fillings -/
def sm (f : Nat → Int) : Nat → Int
  | 0 => 0
  | n + 1 => sm f n + f n
theorem sm_congr {f g : Nat → Int} : ∀ {n : Nat}, (∀ i, i < n → f i = g i) → sm f n = sm g n
  | 0, _ => rfl
  | n + 1, h => by rw [sm, sm, sm_congr fun i hi => h i (by omega), h n (by omega)]
theorem sm_add (f : Nat → Int) (a : Nat) : ∀ b, sm f (a + b) = sm f a + sm (fun i => f (a + i)) b
  | 0 => by simp [sm]
  | b + 1 => by rw [← Nat.add_assoc, sm, sm_add f a b, sm]; omega
theorem sm_mul (f : Nat → Int) (b : Nat) : ∀ a, sm f (a * b) = sm (fun i => sm (fun j => f (i * b + j)) b) a
  | 0 => by simp [sm]
  | a + 1 => by rw [Nat.succ_mul, sm_add, sm_mul f b a, sm]
theorem sm_zero {f : Nat → Int} : ∀ {n : Nat}, (∀ i, i < n → f i = 0) → sm f n = 0
  | 0, _ => rfl
  | n + 1, h => by rw [sm, sm_zero fun i hi => h i (by omega), h n (by omega)]; rfl
theorem sm_one {f : Nat → Int} {k : Nat} : ∀ {n : Nat}, k < n → (∀ i, i < n → i ≠ k → f i = 0) → sm f n = f k
  | 0, h, _ => absurd h (by omega)
  | n + 1, h, z => by
    by_cases e : k = n
    · subst e
      rw [sm, sm_zero fun i hi => z i (by omega) (by omega)]
      omega
    · rw [sm, sm_one (k := k) (by omega) fun i hi ne => z i (by omega) ne, z n (by omega) (by omega)]
      omega
theorem sm_lin (f g : Nat → Int) (a b : Int) : ∀ n, sm (fun i => a * f i + b * g i) n = a * sm f n + b * sm g n
  | 0 => by simp [sm]
  | n + 1 => by rw [sm, sm_lin f g a b n, sm, sm, Int.mul_add, Int.mul_add]; omega
theorem sm_plus (f g : Nat → Int) : ∀ n, sm (fun i => f i + g i) n = sm f n + sm g n
  | 0 => rfl
  | n + 1 => by rw [sm, sm_plus f g n, sm, sm]; omega
theorem sm_scale (f : Nat → Int) (a : Int) : ∀ n, sm (fun i => a * f i) n = a * sm f n
  | 0 => by simp [sm]
  | n + 1 => by rw [sm, sm_scale f a n, sm, Int.mul_add]
theorem sm_swap (f : Nat → Nat → Int) (n : Nat) : ∀ m, sm (fun i => sm (fun j => f i j) n) m = sm (fun j => sm (fun i => f i j) m) n
  | 0 => (sm_zero fun _ _ => rfl).symm
  | m + 1 => by
    rw [sm, sm_swap f n m, ← sm_plus]
    rfl
/-- the same rest by 97 -/
theorem sm_mod {f g : Nat → Int} : ∀ {n : Nat}, (∀ i, i < n → f i % 97 = g i % 97) → sm f n % 97 = sm g n % 97
  | 0, _ => rfl
  | n + 1, h => by
    have h1 := sm_mod (n := n) fun i hi => h i (by omega)
    have h2 := h n (by omega)
    rw [sm, sm]
    omega
theorem sum_range (f : Nat → Int) : ∀ n, ((List.range n).map f).sum = sm f n
  | 0 => rfl
  | n + 1 => by rw [List.range_succ, List.map_append, List.sum_append, sum_range f n, sm]; simp
theorem zip_map (f g : Nat → Int) : ∀ n, List.zipWith (· * ·) ((List.range n).map f) ((List.range n).map g) = (List.range n).map fun i => f i * g i := by
  intro n
  rw [List.zipWith_map, List.zipWith_self]
theorem list_getD (xs : List Int) : xs = (List.range xs.length).map fun i => xs.getD i 0 := by
  apply List.ext_getElem
  · simp
  · intro i h1 h2
    simp [List.getD, h1]
theorem getD_range (f : Nat → Int) {n i : Nat} (h : i < n) : ((List.range n).map f).getD i 0 = f i := by
  simp [List.getD, h]
/-- what row and numbers give, each with each -/
theorem dot_range (f : Nat → Int) (xs : List Int) {n : Nat} (hl : xs.length = n) : (List.zipWith (· * ·) ((List.range n).map f) xs).sum = sm (fun i => f i * xs.getD i 0) n := by
  subst hl
  conv => lhs; rw [list_getD xs]
  rw [List.length_map, List.length_range, zip_map, sum_range]
/-- data number t lies at place dp Z t -/
def dp (Z t : Nat) : Nat := t / Z * (Z + 1) + t % Z
theorem dp_at {Z i j : Nat} (h : j < Z) : dp Z (i * Z + j) = i * (Z + 1) + j := by
  unfold dp
  have e1 : (i * Z + j) / Z = i := by rw [Nat.mul_comm, Nat.mul_add_div (by omega), Nat.div_eq_of_lt h]; rfl
  have e2 : (i * Z + j) % Z = j := by rw [Nat.mul_comm, Nat.mul_add_mod, Nat.mod_eq_of_lt h]
  rw [e1, e2]
theorem blk_div {Z i j : Nat} (h : j < Z + 1) : (i * (Z + 1) + j) / (Z + 1) = i := by
  rw [Nat.mul_comm, Nat.mul_add_div (by omega), Nat.div_eq_of_lt h]; rfl
theorem blk_mod {Z i j : Nat} (h : j < Z + 1) : (i * (Z + 1) + j) % (Z + 1) = j := by
  rw [Nat.mul_comm, Nat.mul_add_mod, Nat.mod_eq_of_lt h]
theorem blk_lt {G Z i j : Nat} (hi : i < G) (h : j < Z + 1) : i * (Z + 1) + j < G * (Z + 1) := by
  have : (i + 1) * (Z + 1) ≤ G * (Z + 1) := Nat.mul_le_mul_right _ hi
  rw [Nat.succ_mul] at this
  omega
def sgn (i j : Nat) : Int := ([1, 11, 40, 30] : List Int).getD i 0 + (j : Int)
/-- over number n (from 0) of the data numbers d -/
def overS (G Z : Nat) (d : Nat → Int) (n : Nat) : Int := sm (fun i => sm (fun j => sgn i j ^ (n + 1) * d (i * Z + j)) Z) G
/-- the number at place p of the filling of the data numbers d -/
def fillF (G Z : Nat) (d : Nat → Int) (p : Nat) : Int :=
  if p / (Z + 1) < G then (if p % (Z + 1) = Z then sm (fun j => d (p / (Z + 1) * Z + j)) Z % 97 else d (p / (Z + 1) * Z + p % (Z + 1)))
  else overS G Z d (p - G * (Z + 1)) % 97
theorem fill_data {G Z i j : Nat} (d : Nat → Int) (hi : i < G) (hj : j < Z) : fillF G Z d (i * (Z + 1) + j) = d (i * Z + j) := by
  unfold fillF
  rw [blk_div (by omega), blk_mod (by omega), if_pos hi, if_neg (by omega)]
theorem fill_local {G Z i : Nat} (d : Nat → Int) (hi : i < G) : fillF G Z d (i * (Z + 1) + Z) = sm (fun j => d (i * Z + j)) Z % 97 := by
  unfold fillF
  rw [blk_div (by omega), blk_mod (by omega), if_pos hi, if_pos rfl]
theorem fill_over {G Z t : Nat} (d : Nat → Int) : fillF G Z d (G * (Z + 1) + t) = overS G Z d t % 97 := by
  unfold fillF
  have : G ≤ (G * (Z + 1) + t) / (Z + 1) := (Nat.le_div_iff_mul_le (by omega)).mpr (by omega)
  rw [if_neg (by omega)]
  congr 2
  omega
theorem place_cases {G Z M p : Nat} (h : p < G * (Z + 1) + M) : (∃ i j, i < G ∧ j < Z ∧ p = i * (Z + 1) + j) ∨ (∃ i, i < G ∧ p = i * (Z + 1) + Z) ∨ ∃ t, t < M ∧ p = G * (Z + 1) + t := by
  by_cases hp : p < G * (Z + 1)
  · have hi : p / (Z + 1) < G := (Nat.div_lt_iff_lt_mul (by omega)).mpr hp
    have hm : p % (Z + 1) < Z + 1 := Nat.mod_lt _ (by omega)
    have e : p / (Z + 1) * (Z + 1) + p % (Z + 1) = p := by rw [Nat.mul_comm]; exact Nat.div_add_mod p (Z + 1)
    by_cases hz : p % (Z + 1) = Z
    · exact .inr (.inl ⟨p / (Z + 1), hi, by omega⟩)
    · exact .inl ⟨p / (Z + 1), p % (Z + 1), hi, by omega, e.symm⟩
  · exact .inr (.inr ⟨p - G * (Z + 1), by omega, by omega⟩)
/-- x keeps the checks: it is the filling of its own data numbers -/
def Keeps (G Z M : Nat) (x : Nat → Int) : Prop := ∀ p, p < G * (Z + 1) + M → fillF G Z (fun t => x (dp Z t)) p = x p
/-- the checks' sums -/
def locC (Z i : Nat) (x : Nat → Int) : Int := sm (fun j => x (i * (Z + 1) + j)) Z + 96 * x (i * (Z + 1) + Z)
def ovC (G Z n : Nat) (x : Nat → Int) : Int := sm (fun i => sm (fun j => sgn i j ^ (n + 1) * x (i * (Z + 1) + j)) Z) G + 96 * x (G * (Z + 1) + n)
theorem overS_dp (G Z n : Nat) (x : Nat → Int) : overS G Z (fun t => x (dp Z t)) n = sm (fun i => sm (fun j => sgn i j ^ (n + 1) * x (i * (Z + 1) + j)) Z) G := by
  unfold overS
  refine sm_congr fun i hi => sm_congr fun j hj => ?_
  show sgn i j ^ (n + 1) * x (dp Z (i * Z + j)) = _
  rw [dp_at hj]
theorem loc_dp (Z i : Nat) (x : Nat → Int) : sm (fun j => x (dp Z (i * Z + j))) Z = sm (fun j => x (i * (Z + 1) + j)) Z :=
  sm_congr fun j hj => by
    show x (dp Z (i * Z + j)) = _
    rw [dp_at hj]
theorem keeps_iff {G Z M : Nat} {x : Nat → Int} (hx : ∀ p, p < G * (Z + 1) + M → 0 ≤ x p ∧ x p ≤ 96) :
    Keeps G Z M x ↔ (∀ i, i < G → locC Z i x % 97 = 0) ∧ ∀ n, n < M → ovC G Z n x % 97 = 0 := by
  constructor
  · intro k
    refine ⟨fun i hi => ?_, fun n hn => ?_⟩
    · have hp : i * (Z + 1) + Z < G * (Z + 1) + M := by have := blk_lt (Z := Z) (j := Z) hi (by omega); omega
      have h := k _ hp
      rw [fill_local _ hi, loc_dp] at h
      unfold locC
      omega
    · have h := k (G * (Z + 1) + n) (by omega)
      rw [fill_over, overS_dp] at h
      unfold ovC
      omega
  · rintro ⟨h1, h2⟩ p hp
    rcases place_cases hp with ⟨i, j, hi, hj, rfl⟩ | ⟨i, hi, rfl⟩ | ⟨t, ht, rfl⟩
    · rw [fill_data _ hi hj]
      show x (dp Z (i * Z + j)) = _
      rw [dp_at hj]
    · rw [fill_local _ hi, loc_dp]
      have b := hx _ hp
      have c := h1 i hi
      unfold locC at c
      omega
    · rw [fill_over, overS_dp]
      have b := hx _ hp
      have c := h2 t ht
      unfold ovC at c
      omega
theorem sm_chg {f g : Nat → Int} {k : Nat} : ∀ {n : Nat}, k < n → (∀ i, i < n → i ≠ k → f i = g i) → sm f n = sm g n + (f k - g k)
  | 0, h, _ => absurd h (by omega)
  | n + 1, h, z => by
    by_cases e : k = n
    · subst e
      rw [sm, sm, sm_congr fun i hi => z i (by omega) (by omega)]
      omega
    · rw [sm, sm, sm_chg (k := k) (by omega) fun i hi ne => z i (by omega) ne, z n (by omega) (by omega)]
      omega
/-- one number changed: no filling any more -/
theorem keeps_chg {G Z M p : Nat} {x y : Nat → Int} {d : Int} (hp : p < G * (Z + 1) + M) (k : Keeps G Z M x) (hx : ∀ p, p < G * (Z + 1) + M → 0 ≤ x p ∧ x p ≤ 96) (hy : ∀ p, p < G * (Z + 1) + M → 0 ≤ y p ∧ y p ≤ 96)
    (e : ∀ q, q < G * (Z + 1) + M → q ≠ p → y q = x q) (d1 : 1 ≤ d) (d2 : d ≤ 96) (ep : y p = (x p + d) % 97) : ¬ Keeps G Z M y := by
  intro k2
  obtain ⟨a1, a2⟩ := (keeps_iff hx).mp k
  obtain ⟨b1, b2⟩ := (keeps_iff hy).mp k2
  have low : ∀ {i j : Nat}, i < G → j < Z + 1 → i * (Z + 1) + j < G * (Z + 1) + M := fun {i j} hi hj => by have := blk_lt (Z := Z) hi hj; omega
  have ne : ∀ {i j i' j' : Nat}, j < Z + 1 → j' < Z + 1 → ¬ (i = i' ∧ j = j') → i * (Z + 1) + j ≠ i' * (Z + 1) + j' := fun {i j i' j'} h1 h2 h3 h4 => by
    apply h3
    have c1 := congrArg (· / (Z + 1)) h4
    have c2 := congrArg (· % (Z + 1)) h4
    simp only [blk_div h1, blk_div h2, blk_mod h1, blk_mod h2] at c1 c2
    exact ⟨c1, c2⟩
  rcases place_cases hp with ⟨i, j, hi, hj, rfl⟩ | ⟨i, hi, rfl⟩ | ⟨t, ht, rfl⟩
  · have c1 := a1 i hi
    have c2 := b1 i hi
    unfold locC at c1 c2
    rw [sm_chg (f := fun j => y (i * (Z + 1) + j)) (g := fun j => x (i * (Z + 1) + j)) hj fun j' hj' nj => e _ (low hi (by omega)) (ne (by omega) (by omega) fun z => nj z.2)] at c2
    have c3 := e (i * (Z + 1) + Z) (low hi (by omega)) (ne (by omega) (by omega) fun z => by omega)
    have h1 := hx _ hp
    omega
  · have c1 := a1 i hi
    have c2 := b1 i hi
    unfold locC at c1 c2
    rw [sm_congr (f := fun j => y (i * (Z + 1) + j)) (g := fun j => x (i * (Z + 1) + j)) fun j hj => e _ (low hi (by omega)) (ne (by omega) (by omega) fun z => by omega)] at c2
    have h1 := hx _ hp
    omega
  · have c1 := a2 t ht
    have c2 := b2 t ht
    unfold ovC at c1 c2
    rw [sm_congr (f := fun i => sm (fun j => sgn i j ^ (t + 1) * y (i * (Z + 1) + j)) Z) (g := fun i => sm (fun j => sgn i j ^ (t + 1) * x (i * (Z + 1) + j)) Z) fun i hi => sm_congr fun j hj => by rw [e _ (low hi (by omega)) (by have := blk_lt (Z := Z) (j := j) hi (by omega); omega)]] at c2
    have h1 := hx _ hp
    omega
theorem sm_comb (f g : Nat → Int) (c : Int) (n : Nat) : sm (fun i => f i + c * g i) n = sm f n + c * sm g n := by
  rw [sm_plus, sm_scale]
/-- sums of multiples of fillings are fillings -/
theorem keeps_comb {G Z M : Nat} {x y z : Nat → Int} {c : Int} (kx : Keeps G Z M x) (ky : Keeps G Z M y) (hx : ∀ p, p < G * (Z + 1) + M → 0 ≤ x p ∧ x p ≤ 96) (hy : ∀ p, p < G * (Z + 1) + M → 0 ≤ y p ∧ y p ≤ 96)
    (e : ∀ q, q < G * (Z + 1) + M → z q = (x q + c * y q) % 97) : Keeps G Z M z := by
  obtain ⟨a1, a2⟩ := (keeps_iff hx).mp kx
  obtain ⟨b1, b2⟩ := (keeps_iff hy).mp ky
  refine (keeps_iff fun p hp => ?_).mpr ⟨fun i hi => ?_, fun n hn => ?_⟩
  · rw [e p hp]
    omega
  · have low : ∀ {j : Nat}, j < Z + 1 → i * (Z + 1) + j < G * (Z + 1) + M := fun {j} hj => by have := blk_lt (Z := Z) hi hj; omega
    have h1 := sm_mod (f := fun j => z (i * (Z + 1) + j)) (g := fun j => x (i * (Z + 1) + j) + c * y (i * (Z + 1) + j)) (n := Z) fun j hj => by
      show z (i * (Z + 1) + j) % 97 = _
      rw [e _ (low (by omega))]
      omega
    rw [sm_comb] at h1
    have h2 := e _ (low (show Z < Z + 1 by omega))
    have c1 := a1 i hi
    have c2 := b1 i hi
    unfold locC at c1 c2 ⊢
    have c3 : (c * (sm (fun j => y (i * (Z + 1) + j)) Z + 96 * y (i * (Z + 1) + Z))) % 97 = 0 := by rw [Int.mul_emod, c2]; simp
    have c4 : c * (sm (fun j => y (i * (Z + 1) + j)) Z + 96 * y (i * (Z + 1) + Z)) = c * sm (fun j => y (i * (Z + 1) + j)) Z + 96 * (c * y (i * (Z + 1) + Z)) := by rw [Int.mul_add, Int.mul_left_comm]
    omega
  · have h1 := sm_mod (f := fun i => sm (fun j => sgn i j ^ (n + 1) * z (i * (Z + 1) + j)) Z) (g := fun i => sm (fun j => sgn i j ^ (n + 1) * x (i * (Z + 1) + j)) Z + c * sm (fun j => sgn i j ^ (n + 1) * y (i * (Z + 1) + j)) Z) (n := G) fun i hi => by
      show sm _ Z % 97 = (sm _ Z + c * sm _ Z) % 97
      rw [← sm_comb]
      refine sm_mod fun j hj => ?_
      show (sgn i j ^ (n + 1) * z (i * (Z + 1) + j)) % 97 = (sgn i j ^ (n + 1) * x (i * (Z + 1) + j) + c * (sgn i j ^ (n + 1) * y (i * (Z + 1) + j))) % 97
      rw [e _ (by have := blk_lt (Z := Z) (j := j) hi (by omega); omega)]
      rw [Int.mul_emod, Int.emod_emod_of_dvd _ (Int.dvd_refl 97), ← Int.mul_emod, Int.mul_add, Int.mul_left_comm]
    rw [sm_comb] at h1
    have h2 := e (G * (Z + 1) + n) (by omega)
    have c1 := a2 n hn
    have c2 := b2 n hn
    unfold ovC at c1 c2 ⊢
    generalize hA : sm (fun i => sm (fun j => sgn i j ^ (n + 1) * y (i * (Z + 1) + j)) Z) G = A at *
    have c3 : (c * (A + 96 * y (G * (Z + 1) + n))) % 97 = 0 := by rw [Int.mul_emod, c2]; simp
    have c4 : c * (A + 96 * y (G * (Z + 1) + n)) = c * A + 96 * (c * y (G * (Z + 1) + n)) := by rw [Int.mul_add, Int.mul_left_comm]
    omega
theorem keeps_zero (G Z M : Nat) : Keeps G Z M fun _ => 0 := by
  refine (keeps_iff fun p hp => by decide).mpr ⟨fun i hi => ?_, fun n hn => ?_⟩
  · unfold locC
    rw [sm_zero fun _ _ => rfl]
    rfl
  · unfold ovC
    rw [sm_zero fun i _ => sm_zero fun j _ => by rw [Int.mul_zero]]
    rfl
theorem bz_div {Z i j : Nat} (h : j < Z) : (i * Z + j) / Z = i := by rw [Nat.mul_comm, Nat.mul_add_div (by omega), Nat.div_eq_of_lt h]; rfl
theorem bz_mod {Z i j : Nat} (h : j < Z) : (i * Z + j) % Z = j := by rw [Nat.mul_comm, Nat.mul_add_mod, Nat.mod_eq_of_lt h]
theorem bz_lt {G Z i j : Nat} (hi : i < G) (hj : j < Z) : i * Z + j < G * Z := by
  have : (i + 1) * Z ≤ G * Z := Nat.mul_le_mul_right _ hi
  rw [Nat.succ_mul] at this
  omega
theorem t_cases {G Z t : Nat} (h : t < G * Z) : ∃ i j, i < G ∧ j < Z ∧ t = i * Z + j := by
  have hZ : 0 < Z := by
    cases Z with
    | zero => simp at h
    | succ n => omega
  refine ⟨t / Z, t % Z, (Nat.div_lt_iff_lt_mul hZ).mpr h, Nat.mod_lt _ hZ, ?_⟩
  rw [Nat.mul_comm]
  exact (Nat.div_add_mod t Z).symm
/-- the filling whose data number t is 1, all others 0 -/
def unitF (G Z t : Nat) : Nat → Int := fillF G Z fun s => if s = t then 1 else 0
theorem unit_data {G Z i j : Nat} (t : Nat) (hi : i < G) (hj : j < Z) : unitF G Z t (i * (Z + 1) + j) = if i * Z + j = t then 1 else 0 := by
  unfold unitF
  rw [fill_data _ hi hj]
theorem unit_local {G Z i i' j' : Nat} (hi : i < G) (hj' : j' < Z) : unitF G Z (i' * Z + j') (i * (Z + 1) + Z) = if i' = i then 1 else 0 := by
  unfold unitF
  rw [fill_local _ hi]
  by_cases h : i' = i
  · subst h
    rw [sm_one (k := j') hj' fun j hj ne => by rw [if_neg (by omega)], if_pos rfl, if_pos rfl]
    rfl
  · rw [sm_zero fun j hj => ?_, if_neg h]
    · rfl
    · rw [if_neg]
      intro e
      have := congrArg (· / Z) e
      simp only [bz_div hj, bz_div hj'] at this
      exact h this.symm
theorem unit_over {G Z i' j' n : Nat} (hi' : i' < G) (hj' : j' < Z) : unitF G Z (i' * Z + j') (G * (Z + 1) + n) = sgn i' j' ^ (n + 1) % 97 := by
  unfold unitF
  rw [fill_over]
  unfold overS
  rw [sm_one (k := i') hi' fun i hi ne => sm_zero fun j hj => ?_]
  · rw [sm_one (k := j') hj' fun j hj ne => by simp only; rw [if_neg (by omega), Int.mul_zero]]
    simp only
    rw [if_pos trivial, Int.mul_one]
  · simp only
    rw [if_neg, Int.mul_zero]
    intro e
    have := congrArg (· / Z) e
    simp only [bz_div hj, bz_div hj'] at this
    exact ne this
/-- each filling is the sum of its data numbers times the units -/
theorem unit_comb {G Z M p : Nat} {d : Nat → Int} (hd : ∀ t, t < G * Z → 0 ≤ d t ∧ d t ≤ 96) (hp : p < G * (Z + 1) + M) : sm (fun t => d t * unitF G Z t p) (G * Z) % 97 = fillF G Z d p := by
  rcases place_cases hp with ⟨i, j, hi, hj, rfl⟩ | ⟨i, hi, rfl⟩ | ⟨n, hn, rfl⟩
  · rw [fill_data _ hi hj, sm_one (k := i * Z + j) (bz_lt hi hj) fun t ht ne => by rw [unit_data t hi hj, if_neg (by omega), Int.mul_zero], unit_data _ hi hj, if_pos rfl, Int.mul_one]
    have := hd _ (bz_lt hi hj)
    omega
  · rw [fill_local _ hi, sm_mul, sm_one (k := i) hi fun i' hi' ne => sm_zero fun j hj => by rw [unit_local hi hj, if_neg ne, Int.mul_zero]]
    rw [sm_congr fun j hj => by rw [unit_local hi hj, if_pos rfl, Int.mul_one]]
  · rw [fill_over, sm_mul]
    unfold overS
    refine sm_mod fun i hi => ?_
    refine sm_mod fun j hj => ?_
    rw [unit_over hi hj, Int.mul_comm (sgn i j ^ (n + 1)), Int.mul_emod, Int.emod_emod_of_dvd _ (Int.dvd_refl 97), ← Int.mul_emod]
/-- the places that the checks fix, in their order -/
def fx (G Z i : Nat) : Nat := if i < G then i * (Z + 1) + Z else G * (Z + 1) + (i - G)
theorem fx_lt {G Z i j : Nat} (h : i < j) : fx G Z i < fx G Z j := by
  unfold fx
  by_cases h1 : j < G
  · rw [if_pos h1, if_pos (by omega)]
    have : (i + 1) * (Z + 1) ≤ j * (Z + 1) := Nat.mul_le_mul_right _ h
    rw [Nat.succ_mul] at this
    omega
  · rw [if_neg h1]
    by_cases h2 : i < G
    · rw [if_pos h2]
      have := blk_lt (Z := Z) (j := Z) h2 (by omega)
      omega
    · rw [if_neg h2]
      omega
theorem fx_local {G Z i : Nat} (h : i < G) : fx G Z i = i * (Z + 1) + Z := if_pos h
theorem fx_over (G Z n : Nat) : fx G Z (G + n) = G * (Z + 1) + n := by
  unfold fx
  rw [if_neg (by omega)]
  omega
theorem fx_not_data {G Z M i i' j : Nat} (hi : i < G + M) (hi' : i' < G) (hj : j < Z) : fx G Z i ≠ i' * (Z + 1) + j := by
  unfold fx
  have h3 := blk_lt (Z := Z) (j := j) hi' (by omega)
  split
  · intro e
    have c2 := congrArg (· % (Z + 1)) e
    simp only [blk_mod (show Z < Z + 1 by omega), blk_mod (show j < Z + 1 by omega)] at c2
    omega
  · omega
end Cm

set_option Elab.async false
set_option linter.all false
set_option maxRecDepth 100000
set_option maxHeartbeats 4000000
namespace Hx
open PySem PySem.Spec PyProof.Rows L2 Cm
def top (i : Nat) : Stmt := PySem.Challenge.pw_sherdhall_k08_rows_laid.main.body.getD i (.Pass ⟨0, 0, 0, 0⟩)
abbrev s_is_whole : Stmt := top 7
abbrev s_is_between : Stmt := top 8
abbrev s_is_rest : Stmt := top 9
abbrev s_times : Stmt := top 10
abbrev s_power : Stmt := top 11
abbrev s_sum_of_products : Stmt := top 12
abbrev s_is_shape : Stmt := top 16
abbrev s_check_shape : Stmt := top 17
abbrev s_count : Stmt := top 18
abbrev s_is_place : Stmt := top 19
abbrev s_check_place : Stmt := top 20
abbrev s_kind_of : Stmt := top 21
abbrev s_data_places : Stmt := top 22
abbrev s_mark : Stmt := top 23
abbrev s_local_factor : Stmt := top 24
abbrev s_over_factor : Stmt := top 25
abbrev s_checks : Stmt := top 26
abbrev s_units : Stmt := top 28
abbrev s_filled : Stmt := top 29
abbrev s_check_row : Stmt := top 32
abbrev s_cells_for : Stmt := top 33
abbrev s_laid : Stmt := top 34
abbrev s__law_purse : Stmt := top 36
abbrev s__law_drawn : Stmt := top 37
abbrev s__law_shape : Stmt := top 38
abbrev s__law_filled : Stmt := top 39
abbrev s__law_row : Stmt := top 40
abbrev s__law_pieces : Stmt := top 41
abbrev s__law_same : Stmt := top 42
abbrev s__law_in_order : Stmt := top 43
abbrev s_law : Stmt := top 44
structure Txt (K : PySem.W.Frag) (mg : Str → Option Value) where
  n_len : mg "len" = none
  n_max : mg "max" = none
  n_min : mg "min" = none
  n_range : mg "range" = none
  n_isinstance : mg "isinstance" = none
  n_int : mg "int" = none
  n_bool : mg "bool" = none
  n_tuple : mg "tuple" = none
  n_list : mg "list" = none
  n_divmod : mg "divmod" = none
  n_all : mg "all" = none
  n_sum : mg "sum" = none
  n_zip : mg "zip" = none
  n_dict : mg "dict" = none
  n_enumerate : mg "enumerate" = none
  u_PRIME : Value
  g_PRIME : mg "PRIME" = some u_PRIME
  v_PRIME : RelV (.int 97) u_PRIME
  u_MOST : Value
  g_MOST : mg "MOST" = some u_MOST
  v_MOST : RelV (.int 60) u_MOST
  g_PLAIN : mg "PLAIN" = some (.ref (He.ga K "PLAIN"))
  q_PLAIN : ∀ H, SqT K H (He.ga K "PLAIN") [.int 2, .int 3, .int 2]
  g_MARKS : mg "MARKS" = some (.ref (He.ga K "MARKS"))
  q_MARKS : ∀ H, SqT K H (He.ga K "MARKS") [.int 1, .int 11, .int 40, .int 30]
/-! ### numbers by 97 -/
theorem mod_ml (a b : Int) : (a % 97 * b) % 97 = a * b % 97 := by rw [Int.mul_emod, Int.emod_emod, ← Int.mul_emod]
theorem mod_mr (a b : Int) : (a * (b % 97)) % 97 = a * b % 97 := by rw [Int.mul_emod, Int.emod_emod, ← Int.mul_emod]
theorem mod_pw (a : Int) : ∀ n : Nat, (a % 97) ^ n % 97 = a ^ n % 97
  | 0 => by rw [Int.pow_zero, Int.pow_zero]
  | n + 1 => by rw [Int.pow_succ, Int.pow_succ, Int.mul_emod, mod_pw a n, Int.emod_emod, ← Int.mul_emod]
theorem fermat {a : Int} (h : a % 97 ≠ 0) : a ^ 96 % 97 = 1 := by
  rw [← mod_pw]
  have h0 : 0 ≤ a % 97 := Int.emod_nonneg _ (by decide)
  have h1 : a % 97 < 97 := Int.emod_lt_of_pos _ (by decide)
  obtain ⟨n, hn⟩ : ∃ n : Nat, a % 97 = (n : Int) := ⟨(a % 97).toNat, by omega⟩
  rw [hn] at h h0 h1 ⊢
  have key : ∀ n : Fin 97, n.val ≠ 0 → ((n.val : Int)) ^ 96 % 97 = 1 := by decide +kernel
  exact key ⟨n, by omega⟩ (by simp; omega)
/-- a small enough number -/
def Bd (a : Int) : Prop := a.natAbs < 2 ^ 250
theorem Bd.mod (a : Int) : Bd (a % 97) := by
  have h0 : 0 ≤ a % 97 := Int.emod_nonneg _ (by decide)
  have h1 : a % 97 < 97 := Int.emod_lt_of_pos _ (by decide)
  have h2 : 97 < 2 ^ 250 := by decide
  unfold Bd
  omega
section
variable {P : Program} {w : World} {K : PySem.W.Frag} {mg : Str → Option Value} {base : Heap}
theorem sc_is_whole : FnScope ["thing"] ["thing"] (defScope s_is_whole) := ⟨rfl, rfl, rfl, by decide +kernel, rfl, by decide +kernel, by decide +kernel⟩
theorem sc_is_between : FnScope ["thing", "least", "most"] ["thing", "least", "most"] (defScope s_is_between) := ⟨rfl, rfl, rfl, by decide +kernel, rfl, by decide +kernel, by decide +kernel⟩
theorem sc_is_rest : FnScope ["thing"] ["thing"] (defScope s_is_rest) := ⟨rfl, rfl, rfl, by decide +kernel, rfl, by decide +kernel, by decide +kernel⟩
theorem sc_times : FnScope ["one", "other"] ["one", "other"] (defScope s_times) := ⟨rfl, rfl, rfl, by decide +kernel, rfl, by decide +kernel, by decide +kernel⟩
theorem sc_power : FnScope ["one", "many", "product", "square", "rest"] ["one", "many"] (defScope s_power) := ⟨rfl, rfl, rfl, by decide +kernel, rfl, by decide +kernel, by decide +kernel⟩
theorem sc_sum_of_products : FnScope ["factors", "numbers", "factor", "number"] ["factors", "numbers"] (defScope s_sum_of_products) := ⟨rfl, rfl, rfl, by decide +kernel, rfl, by decide +kernel, by decide +kernel⟩
theorem sc_is_shape : FnScope ["thing", "groups", "size", "sums"] ["thing"] (defScope s_is_shape) := ⟨rfl, rfl, rfl, by decide +kernel, rfl, by decide +kernel, by decide +kernel⟩
theorem sc_check_shape : FnScope ["shape"] ["shape"] (defScope s_check_shape) := ⟨rfl, rfl, rfl, by decide +kernel, rfl, by decide +kernel, by decide +kernel⟩
theorem sc_count : FnScope ["shape", "groups", "size", "sums"] ["shape"] (defScope s_count) := ⟨rfl, rfl, rfl, by decide +kernel, rfl, by decide +kernel, by decide +kernel⟩
theorem sc_is_place : FnScope ["thing", "shape"] ["thing", "shape"] (defScope s_is_place) := ⟨rfl, rfl, rfl, by decide +kernel, rfl, by decide +kernel, by decide +kernel⟩
theorem sc_check_place : FnScope ["thing", "shape"] ["thing", "shape"] (defScope s_check_place) := ⟨rfl, rfl, rfl, by decide +kernel, rfl, by decide +kernel, by decide +kernel⟩
theorem sc_kind_of : FnScope ["place", "shape", "groups", "size", "_", "group", "at"] ["place", "shape"] (defScope s_kind_of) := ⟨rfl, rfl, rfl, by decide +kernel, rfl, by decide +kernel, by decide +kernel⟩
theorem sc_data_places : FnScope ["shape", "places", "place"] ["shape"] (defScope s_data_places) := ⟨rfl, rfl, rfl, by decide +kernel, rfl, by decide +kernel, by decide +kernel⟩
theorem sc_mark : FnScope ["place", "shape", "kind"] ["place", "shape"] (defScope s_mark) := ⟨rfl, rfl, rfl, by decide +kernel, rfl, by decide +kernel, by decide +kernel⟩
theorem sc_local_factor : FnScope ["place", "group", "shape", "kind"] ["place", "group", "shape"] (defScope s_local_factor) := ⟨rfl, rfl, rfl, by decide +kernel, rfl, by decide +kernel, by decide +kernel⟩
theorem sc_over_factor : FnScope ["place", "number", "shape", "kind"] ["place", "number", "shape"] (defScope s_over_factor) := ⟨rfl, rfl, rfl, by decide +kernel, rfl, by decide +kernel, by decide +kernel⟩
theorem sc_checks : FnScope ["shape", "places", "groups", "_", "sums", "group", "place", "rows", "number"] ["shape"] (defScope s_checks) := ⟨rfl, rfl, rfl, by decide +kernel, rfl, by decide +kernel, by decide +kernel⟩
theorem sc_units : FnScope ["shape", "rows", "data", "places", "place", "fixed", "out", "one", "row", "numbers"] ["shape"] (defScope s_units) := ⟨rfl, rfl, rfl, by decide +kernel, rfl, by decide +kernel, by decide +kernel⟩
theorem sc_filled : FnScope ["numbers", "basis", "places", "place", "unit"] ["numbers", "basis"] (defScope s_filled) := ⟨rfl, rfl, rfl, by decide +kernel, rfl, by decide +kernel, by decide +kernel⟩
theorem sc_check_row : FnScope ["thing", "at", "number"] ["thing"] (defScope s_check_row) := ⟨rfl, rfl, rfl, by decide +kernel, rfl, by decide +kernel, by decide +kernel⟩
theorem sc_cells_for : FnScope ["many", "shape", "wide"] ["many", "shape"] (defScope s_cells_for) := ⟨rfl, rfl, rfl, by decide +kernel, rfl, by decide +kernel, by decide +kernel⟩
theorem sc_laid : FnScope ["row", "shape", "basis", "wide", "cells", "numbers", "cell", "fillings", "place", "filling"] ["row", "shape"] (defScope s_laid) := ⟨rfl, rfl, rfl, by decide +kernel, rfl, by decide +kernel, by decide +kernel⟩
theorem sc__law_purse : FnScope ["script", "k", "cell"] ["script", "k"] (defScope s__law_purse) := ⟨rfl, rfl, rfl, by decide +kernel, rfl, by decide +kernel, by decide +kernel⟩
theorem sc__law_drawn : FnScope ["purse", "many", "found", "turn", "mixed"] ["purse", "many"] (defScope s__law_drawn) := ⟨rfl, rfl, rfl, by decide +kernel, rfl, by decide +kernel, by decide +kernel⟩
theorem sc__law_shape : FnScope ["purse", "most", "found", "groups", "size", "sums"] ["purse", "most"] (defScope s__law_shape) := ⟨rfl, rfl, rfl, by decide +kernel, rfl, by decide +kernel, by decide +kernel⟩
theorem sc__law_filled : FnScope ["mould", "data", "groups", "size", "sums", "found", "overs", "group", "own", "at", "sign", "one"] ["mould", "data"] (defScope s__law_filled) := ⟨rfl, rfl, rfl, by decide +kernel, rfl, by decide +kernel, by decide +kernel⟩
theorem sc__law_row : FnScope ["purse", "most", "k"] ["purse", "most"] (defScope s__law_row) := ⟨rfl, rfl, rfl, by decide +kernel, rfl, by decide +kernel, by decide +kernel⟩
theorem sc__law_pieces : FnScope ["mould", "row", "wide", "many", "place", "found", "start", "data", "numbers"] ["mould", "row"] (defScope s__law_pieces) := ⟨rfl, rfl, rfl, by decide +kernel, rfl, by decide +kernel, by decide +kernel⟩
theorem sc__law_same : FnScope ["found", "due", "k"] ["found", "due"] (defScope s__law_same) := ⟨rfl, rfl, rfl, by decide +kernel, rfl, by decide +kernel, by decide +kernel⟩
theorem sc__law_in_order : FnScope ["found", "due", "place"] ["found", "due"] (defScope s__law_in_order) := ⟨rfl, rfl, rfl, by decide +kernel, rfl, by decide +kernel, by decide +kernel⟩
theorem sc_law : FnScope ["script", "k", "purse", "mould", "row", "due", "handed", "found", "again", "place", "sizes"] ["script"] (defScope s_law) := ⟨rfl, rfl, rfl, by decide +kernel, rfl, by decide +kernel, by decide +kernel⟩
end
local macro_rules | `(tactic| walk_at "bd") => `(tactic| first | assumption | exact Bd.mod _ | (unfold Bd; decide))
local macro_rules | `(tactic| walk_at "rd") => `(tactic| repeat (first | refine ⟨_, rfl, ?_⟩ | refine ⟨_, _, rfl, rfl, ?_⟩ | refine ⟨_, _, rfl, ?_⟩ | refine ⟨_, _, _, rfl, ?_⟩ | refine ⟨rfl, ?_⟩ | refine ⟨(by walk_at "bd" : Bd _), ?_⟩))
local macro_rules | `(tactic| walk_at "mem") => `(tactic| first | assumption | exact upd_same | (refine old ?_ ?_ <;> walk_at "mem"))
local macro_rules | `(tactic| walk_at "sq") => `(tactic| first | assumption | (refine SqL.of ?_; walk_at "mem"))
section
variable {P : Program} {w : World} {K : PySem.W.Frag} {mg : Str → Option Value} {base : Heap}
def isInt : V → Bool
  | .int _ => true
  | _ => false
def betw (v : V) (lo hi : Int) : Bool := match v with
  | .int i => decide (lo ≤ i) && decide (i ≤ hi)
  | _ => false
theorem ty_isInt {K : PySem.W.Frag} {H : Hp} {v : V} {n : String} (h : Ty K H v n) : ((n == "int" || (n == "bool" && "int" == "int")) && !(n == "bool" || (n == "bool" && "bool" == "int"))) = isInt v := by
  cases h <;> rfl
def spWhole (K : PySem.W.Frag) : Sp := fun vs H Q _ => ∃ v n, vs = [v] ∧ Ty K H v n ∧ Q (.bl (isInt v)) H
def spBetw (K : PySem.W.Frag) : Sp := fun vs H Q _ => ∃ v n lo hi, vs = [v, .int lo, .int hi] ∧ Ty K H v n ∧ Q (.bl (betw v lo hi)) H
def spRest (K : PySem.W.Frag) : Sp := fun vs H Q _ => ∃ v n, vs = [v] ∧ Ty K H v n ∧ Q (.bl (betw v 0 96)) H
theorem ok_whole (T : Txt K mg) (F : At K mg "is_whole" s_is_whole ["thing"]) : Dn P w K mg base CX0 1 "is_whole" ["thing"] (spWhole K) := by
  refine F.ok sc_is_whole (fun vs H Q E h => ?_) (fun f cdv A outer s H vs Q E hr h => ?_)
  · obtain ⟨v, n, rfl, _⟩ := h
    rfl
  · obtain ⟨v, n, rfl, ty, q⟩ := h
    refine ⟨_, (pss_one (ps_ret (pe_and (pe_callB (r := rIsi K) call_isi (by rfl) T.n_isinstance (by decide +kernel) (pa_cons (pv 0) (pa_cons (pe_bltn (v := .ty "int") (u := .type "int") (by rfl) T.n_int (by decide +kernel) (by exact rfl)) pa_nil))) (pe_one (pe_not (pe_callB (r := rIsi K) call_isi (by rfl) T.n_isinstance (by decide +kernel) (pa_cons (pv 0) (pa_cons (pe_bltn (v := .ty "bool") (u := .type "bool") (by rfl) T.n_bool (by decide +kernel) (by exact rfl)) pa_nil)))))))), ?_⟩
    rw [← ty_isInt ty] at q
    refine ⟨_, rfl, _, _, _, _, _, rfl, .ty "int", ty.x, ty.kit "int", ?_⟩
    refine ⟨_, rfl, iteB (fun h => ?_) fun h => ?_⟩
    · rw [h, Bool.true_and] at q
      exact ⟨_, rfl, _, _, _, _, _, rfl, .ty "bool", ty.x, ty.kit "bool", _, rfl, q⟩
    · rw [h, Bool.false_and] at q
      exact q
theorem ok_between (D_is_whole : Dn P w K mg base CX0 1 "is_whole" ["thing"] (spWhole K)) (F : At K mg "is_between" s_is_between ["thing", "least", "most"]) : Dn P w K mg base CX0 2 "is_between" ["thing", "least", "most"] (spBetw K) := by
  refine F.ok sc_is_between (fun vs H Q E h => ?_) (fun f cdv A outer s H vs Q E hr h => ?_)
  · obtain ⟨v, n, lo, hi, rfl, _⟩ := h
    rfl
  · obtain ⟨v, n, lo, hi, rfl, ty, q⟩ := h
    refine ⟨_, (pss_one (ps_ret (pe_and (pe_callD D_is_whole (by first | exact hr | exact hr.mono (by decide)) (pa_cons (pv 0) pa_nil)) (pe_one (pe_chain op_le op_le (pv 1) (pv 0) (pv 2)))))), ?_⟩
    refine ⟨_, rfl, _, _, rfl, ty, _, rfl, iteB (fun h => ?_) fun h => ?_⟩
    · obtain ⟨i, rfl⟩ : ∃ i, v = .int i := by
        cases v with
        | int i => exact ⟨i, rfl⟩
        | _ => cases h
      refine ⟨_, rfl, _, rfl, _, _, rfl, rfl, _, rfl, iteD (fun h1 => ?_) fun h1 => ?_⟩
      · refine ⟨_, rfl, _, _, rfl, rfl, ?_⟩
        have q' : Q (.bl (decide (lo ≤ i) && decide (i ≤ hi))) H := q
        rw [decide_eq_true h1, Bool.true_and] at q'
        exact q'
      · have q' : Q (.bl (decide (lo ≤ i) && decide (i ≤ hi))) H := q
        rw [decide_eq_false h1, Bool.false_and] at q'
        exact q'
    · have e : betw v lo hi = false := by
        cases v with
        | int i => cases h
        | _ => rfl
      rw [e] at q
      exact q
theorem ok_rest (T : Txt K mg) (D_is_between : Dn P w K mg base CX0 2 "is_between" ["thing", "least", "most"] (spBetw K)) (F : At K mg "is_rest" s_is_rest ["thing"]) : Dn P w K mg base CX0 3 "is_rest" ["thing"] (spRest K) := by
  refine F.ok sc_is_rest (fun vs H Q E h => ?_) (fun f cdv A outer s H vs Q E hr h => ?_)
  · obtain ⟨v, n, rfl, _⟩ := h
    rfl
  · obtain ⟨v, n, rfl, ty, q⟩ := h
    refine ⟨_, (pss_one (ps_ret (pe_callD D_is_between (by first | exact hr | exact hr.mono (by decide)) (pa_cons (pv 0) (pa_cons pe_int (pa_cons (pe_op op_sub (pe_glob rfl T.g_PRIME (by exact T.v_PRIME)) pe_int) pa_nil)))))), ?_⟩
    exact ⟨_, rfl, _, _, rfl, rfl, v, n, _, _, rfl, ty, q⟩
def spPlus : Sp := fun vs H Q _ => ∃ a b : Int, vs = [.int a, .int b] ∧ Q (.int ((a + b) % 97)) H
def spMinus : Sp := fun vs H Q _ => ∃ a b : Int, vs = [.int a, .int b] ∧ Q (.int ((a - b) % 97)) H
def spTimes : Sp := fun vs H Q _ => ∃ a b : Int, vs = [.int a, .int b] ∧ Bd a ∧ Bd b ∧ Q (.int ((a * b) % 97)) H
def spPower : Sp := fun vs H Q _ => ∃ a n : Int, vs = [.int a, .int n] ∧ Bd a ∧ 0 ≤ n ∧ Q (.int (a ^ n.toNat % 97)) H
theorem ok_times (T : Txt K mg) (F : At K mg "times" s_times ["one", "other"]) : Dn P w K mg base CX0 1 "times" ["one", "other"] spTimes := by
  refine F.ok sc_times (fun vs H Q E h => ?_) (fun f cdv A outer s H vs Q E hr h => ?_)
  · obtain ⟨a, b, rfl, _⟩ := h
    rfl
  · obtain ⟨a, b, rfl, ha, hb, q⟩ := h
    refine ⟨_, (pss_one (ps_ret (pe_op op_mod (pe_op op_mulW (pv 0) (pv 1)) (pe_glob rfl T.g_PRIME (by exact T.v_PRIME))))), ?_⟩
    walk_at "rd"
    refine ⟨wide_mul (a := 250) (b := 250) ha hb (by decide) (by decide) (by decide), ?_⟩
    walk_at "rd"
    exact ⟨by show (0 : Int) < 97; decide, q⟩
theorem pow_step (pr sq : Int) (n : Nat) : (pr * sq % 97 * (sq * sq % 97) ^ n) % 97 = pr * sq ^ (2 * n + 1) % 97 := by
  rw [mod_ml, Int.mul_emod, mod_pw, ← Int.mul_emod, Int.mul_pow, Int.pow_succ, show 2 * n = n + n by omega, Int.pow_add]
  congr 1
  simp only [Int.mul_assoc, Int.mul_comm, Int.mul_left_comm]
theorem pow_step0 (pr sq : Int) (n : Nat) : (pr * (sq * sq % 97) ^ n) % 97 = pr * sq ^ (2 * n) % 97 := by
  rw [Int.mul_emod, mod_pw, ← Int.mul_emod, Int.mul_pow, show 2 * n = n + n by omega, Int.pow_add]
theorem ok_power (D_times : Dn P w K mg base CX0 1 "times" ["one", "other"] spTimes) (F : At K mg "power" s_power ["one", "many"]) : Dn P w K mg base CX0 2 "power" ["one", "many"] spPower := by
  refine F.ok sc_power (fun vs H Q E h => ?_) (fun f cdv A outer s H vs Q E hr h => ?_)
  · obtain ⟨a, b, rfl, _⟩ := h
    rfl
  · obtain ⟨a, n0, rfl, ha, hn, q⟩ := h
    refine ⟨_, (pss_cons (ps_set (i := 2) sc_power.nd rfl (by first | exact Or.inl rfl | exact Or.inr rfl) pe_int)
  (pss_cons (ps_set (i := 3) sc_power.nd rfl (by first | exact Or.inl rfl | exact Or.inr rfl) (pv 0))
  (pss_cons (ps_set (i := 4) sc_power.nd rfl (by first | exact Or.inl rfl | exact Or.inr rfl) (pv 1))
  (pss_cons (ps_while PassesOwn.never (pt_cmpR op_gt (pv 4) pe_int (nomark _))
  (pss_cons (ps_if (pt_cmpR op_eq (pe_op op_mod (pv 4) pe_int) pe_int (nomark _)) (pss_one (ps_set (i := 2) sc_power.nd rfl (by first | exact Or.inl rfl | exact Or.inr rfl) (pe_callD D_times (by first | exact hr | exact hr.mono (by decide)) (pa_cons (pv 2) (pa_cons (pv 3) pa_nil))))) pss_nil)
  (pss_cons (ps_set (i := 3) sc_power.nd rfl (by first | exact Or.inl rfl | exact Or.inr rfl) (pe_callD D_times (by first | exact hr | exact hr.mono (by decide)) (pa_cons (pv 3) (pa_cons (pv 3) pa_nil))))
  (pss_one (ps_set (i := 4) sc_power.nd rfl (by first | exact Or.inl rfl | exact Or.inr rfl) (pe_op op_fdiv (pv 4) pe_int))))))
  (pss_one (ps_ret (pv 2))))))), ?_⟩
    walk_at "rd"
    refine while_by (fun σ H' => ∃ pr sq n : Int, σ = [some (.int a), some (.int n0), some (.int pr), some (.int sq), some (.int n)] ∧ H' = H ∧ 0 ≤ pr ∧ pr < 97 ∧ Bd sq ∧ 0 ≤ n ∧ (pr * sq ^ n.toNat) % 97 = a ^ n0.toNat % 97)
      (fun σ _ => match σ with | [_, _, _, _, some (.int n)] => n.toNat | _ => 0) ⟨1, a, n0, rfl, rfl, by decide, by decide, ha, hn, by rw [Int.one_mul]⟩ ?_
      (fun σ H Q Q' m h => by
        obtain ⟨v, e1, i, j, e2, e3, k, e4, q⟩ := h
        exact ⟨v, e1, i, j, e2, e3, k, e4, m _ _ q⟩)
    rintro σ H' ⟨pr, sq, n, rfl, rfl, p0, p1, hs, hn0, e⟩
    have bp : Bd pr := by
      have h2 : 97 < 2 ^ 250 := by decide
      unfold Bd
      omega
    walk_at "rd"
    refine iteD (fun h => ?_) fun h => ?_
    · walk_at "rd"
      refine ⟨by show (0 : Int) < 2; decide, ?_⟩
      have hh : n / 2 ≥ 0 := by omega
      walk_at "rd"
      refine iteI (fun ho => ?_) fun ho => ?_
      · walk_at "rd"
        refine ⟨⟨by decide, by decide⟩, ⟨_, _, _, rfl, rfl, Int.emod_nonneg _ (by decide), Int.emod_lt_of_pos _ (by decide), Bd.mod _, hh, ?_⟩, ?_⟩
        · rw [pow_step, ← e]
          congr 3
          omega
        · show (n / 2).toNat < n.toNat
          omega
      · walk_at "rd"
        refine ⟨⟨by decide, by decide⟩, ⟨_, _, _, rfl, rfl, p0, p1, Bd.mod _, hh, ?_⟩, ?_⟩
        · rw [pow_step0, ← e]
          congr 3
          omega
        · show (n / 2).toNat < n.toNat
          omega
    · walk_at "rd"
      have en : n = 0 := by omega
      subst en
      have : pr = a ^ n0.toNat % 97 := by
        rw [← e]
        rw [show (0 : Int).toNat = 0 from rfl, Int.pow_zero, Int.mul_one]
        omega
      rw [this]
      exact q
def spOver : Sp := fun vs H Q _ => ∃ a b : Int, vs = [.int a, .int b] ∧ Bd a ∧ Bd b ∧ b % 97 ≠ 0 ∧ Q (.int (a * b ^ 95 % 97)) H
/-- a shape of g groups of s data places, m sums -/
def Mould (K : PySem.W.Frag) (H : Hp) (a : Addr) (g s m : Int) : Prop := SqT K H a [.int g, .int s, .int m] ∧ 1 ≤ g ∧ g ≤ 4 ∧ 1 ≤ s ∧ s ≤ 4 ∧ 0 ≤ m ∧ m ≤ 2
theorem Mould.same {K : PySem.W.Frag} {H H' : Hp} {a : Addr} {g s m : Int} (h : Mould K H a g s m) (e : Same H H') : Mould K H' a g s m := ⟨Same.sqt e h.1, h.2⟩
def manyZ (g s m : Int) : Int := g * (s + 1) + m
theorem many_le {g s m : Int} (g1 : 1 ≤ g) (g4 : g ≤ 4) (s1 : 1 ≤ s) (s4 : s ≤ 4) (m0 : 0 ≤ m) (m2 : m ≤ 2) : 2 ≤ manyZ g s m ∧ manyZ g s m ≤ 22 ∧ 2 ≤ g * (s + 1) ∧ g * (s + 1) ≤ 20 := by
  obtain rfl | rfl | rfl | rfl : g = 1 ∨ g = 2 ∨ g = 3 ∨ g = 4 := by omega
  all_goals (unfold manyZ; omega)
theorem Mould.le {K : PySem.W.Frag} {H : Hp} {a : Addr} {g s m : Int} (h : Mould K H a g s m) : 2 ≤ manyZ g s m ∧ manyZ g s m ≤ 22 ∧ 2 ≤ g * (s + 1) ∧ g * (s + 1) ≤ 20 := many_le h.2.1 h.2.2.1 h.2.2.2.1 h.2.2.2.2.1 h.2.2.2.2.2.1 h.2.2.2.2.2.2
theorem betw_t {i lo hi : Int} (h1 : lo ≤ i) (h2 : i ≤ hi) : betw (.int i) lo hi = true := by
  show (decide (lo ≤ i) && decide (i ≤ hi)) = true
  rw [decide_eq_true h1, decide_eq_true h2]; rfl
def spShape (K : PySem.W.Frag) : Sp := fun vs H Q _ => ∃ a g s m, vs = [.ref a] ∧ Mould K H a g s m ∧ Q (.bl true) H
theorem ok_is_shape (T : Txt K mg) (D_is_between : Dn P w K mg base CX0 2 "is_between" ["thing", "least", "most"] (spBetw K)) (F : At K mg "is_shape" s_is_shape ["thing"]) : Dn P w K mg base CX0 3 "is_shape" ["thing"] (spShape K) := by
  refine F.ok sc_is_shape (fun vs H Q E h => ?_) (fun f cdv A outer s H vs Q E hr h => ?_)
  · obtain ⟨a, g, s, m, rfl, _⟩ := h
    rfl
  · obtain ⟨a, g, z, m, rfl, M, q⟩ := h
    obtain ⟨ha, g1, g4, s1, s4, m0, m2⟩ := id M
    refine ⟨_, (pss_cons (ps_if (PW.pt (pw_or (pt_not (pt_val (pe_callB (r := rIsi K) call_isi (by rfl) T.n_isinstance (by decide +kernel) (pa_cons (pv 0) (pa_cons (pe_bltn (v := .ty "tuple") (u := .type "tuple") (by rfl) T.n_tuple (by decide +kernel) (by exact rfl)) pa_nil))))) (pw_or1 (pt_cmpR op_ne (pe_callB (r := rLen K) call_len (by rfl) T.n_len (by decide +kernel) (pa_cons (pv 0) pa_nil)) pe_int (nomark _))))) (pss_one (ps_ret pe_bl)) pss_nil)
  (pss_cons (ps_asg (pv 0) (pg_tup (by rfl) (pgs_cons (pg_name (i := 1) sc_is_shape.nd rfl (by first | exact Or.inl rfl | exact Or.inr rfl)) (pgs_cons (pg_name (i := 2) sc_is_shape.nd rfl (by first | exact Or.inl rfl | exact Or.inr rfl)) (pgs_cons (pg_name (i := 3) sc_is_shape.nd rfl (by first | exact Or.inl rfl | exact Or.inr rfl)) pgs_nil)))))
  (pss_one (ps_ret (pe_and (pe_callD D_is_between (by first | exact hr | exact hr.mono (by decide)) (pa_cons (pv 1) (pa_cons pe_int (pa_cons pe_int pa_nil)))) (pe_and (pe_callD D_is_between (by first | exact hr | exact hr.mono (by decide)) (pa_cons (pv 2) (pa_cons pe_int (pa_cons pe_int pa_nil)))) (pe_one (pe_callD D_is_between (by first | exact hr | exact hr.mono (by decide)) (pa_cons (pv 3) (pa_cons pe_int (pa_cons pe_int pa_nil))))))))))), ?_⟩
    have ty : Ty K H (.ref a) "tuple" := .tup ha
    refine ⟨_, rfl, _, _, _, _, _, rfl, .ty "tuple", ty.x, ty.kit "tuple", _, rfl, _, rfl, _, _, rfl, .inr ⟨_, ha, rfl⟩, rfl, _, rfl, iteIn (fun z => absurd rfl z) fun _ => ?_⟩
    refine ⟨_, rfl, _, _, rfl, ha, rfl, _, _, rfl, _, _, rfl, _, _, rfl, rfl, ?_⟩
    refine ⟨_, rfl, _, _, _, _, rfl, .int g, ?_⟩
    rw [betw_t g1 g4]
    refine ⟨_, rfl, _, rfl, _, _, _, _, rfl, .int z, ?_⟩
    rw [betw_t s1 s4]
    refine ⟨_, rfl, _, rfl, _, _, _, _, rfl, .int m, ?_⟩
    rw [betw_t m0 m2]
    exact q
def spChk (K : PySem.W.Frag) : Sp := fun vs H Q _ => ∃ a g s m, vs = [.ref a] ∧ Mould K H a g s m ∧ Q .non H
theorem ok_check_shape (D_is_shape : Dn P w K mg base CX0 3 "is_shape" ["thing"] (spShape K)) (F : At K mg "check_shape" s_check_shape ["shape"]) : Dn P w K mg base CX0 4 "check_shape" ["shape"] (spChk K) := by
  refine F.ok sc_check_shape (fun vs H Q E h => ?_) (fun f cdv A outer s H vs Q E hr h => ?_)
  · obtain ⟨a, g, s, m, rfl, _⟩ := h
    rfl
  · obtain ⟨a, g, z, m, rfl, M, q⟩ := h
    refine ⟨_, (pss_one (ps_if (pt_not (pt_val (pe_callD D_is_shape (by first | exact hr | exact hr.mono (by decide)) (pa_cons (pv 0) pa_nil)))) (pss_one ps_never) pss_nil)), ?_⟩
    exact ⟨_, rfl, a, g, z, m, rfl, M, _, rfl, q⟩
def spCount (K : PySem.W.Frag) : Sp := fun vs H Q _ => ∃ a g s m, vs = [.ref a] ∧ Mould K H a g s m ∧ Q (.int (manyZ g s m)) H
theorem ok_count (D_check_shape : Dn P w K mg base CX0 4 "check_shape" ["shape"] (spChk K)) {dv : V} (F : AtK K mg "count" s_count [] "shape" dv) : DnK P w K mg base CX0 5 "count" [] "shape" dv (spCount K) := by
  refine F.ok sc_count (fun vs H Q E h => ?_) (fun f cdv A outer s H vs Q E hr h => ?_)
  · obtain ⟨a, g, s, m, rfl, _⟩ := h
    rfl
  · obtain ⟨a, g, z, m, rfl, M, q⟩ := h
    obtain ⟨ha, g1, g4, s1, s4, m0, m2⟩ := id M
    refine ⟨_, (pss_cons (ps_expr (pe_callD D_check_shape (by first | exact hr | exact hr.mono (by decide)) (pa_cons (pv 0) pa_nil)))
  (pss_cons (ps_asg (pv 0) (pg_tup (by rfl) (pgs_cons (pg_name (i := 1) sc_count.nd rfl (by first | exact Or.inl rfl | exact Or.inr rfl)) (pgs_cons (pg_name (i := 2) sc_count.nd rfl (by first | exact Or.inl rfl | exact Or.inr rfl)) (pgs_cons (pg_name (i := 3) sc_count.nd rfl (by first | exact Or.inl rfl | exact Or.inr rfl)) pgs_nil)))))
  (pss_one (ps_ret (pe_op op_add (pe_op op_mul (pv 1) (pe_op op_add (pv 2) pe_int)) (pv 3)))))), ?_⟩
    refine ⟨_, rfl, a, g, z, m, rfl, M, ?_⟩
    refine ⟨_, rfl, _, _, rfl, ha, rfl, _, _, rfl, _, _, rfl, _, _, rfl, rfl, ?_⟩
    exact ⟨_, rfl, _, rfl, _, _, rfl, rfl, _, _, rfl, rfl, .inl ⟨by omega, by omega⟩, _, rfl, _, _, rfl, rfl, q⟩
def spPlace (K : PySem.W.Frag) : Sp := fun vs H Q _ => ∃ (v : V) (n : String) (a : Addr) (g s m : Int), vs = [v, .ref a] ∧ Ty K H v n ∧ Mould K H a g s m ∧ Q (.bl (betw v 0 (manyZ g s m - 1))) H
theorem ok_is_place (D_is_between : Dn P w K mg base CX0 2 "is_between" ["thing", "least", "most"] (spBetw K)) {dv : V} (D_count : DnK P w K mg base CX0 5 "count" [] "shape" dv (spCount K)) (F : AtK K mg "is_place" s_is_place ["thing"] "shape" dv) : DnK P w K mg base CX0 6 "is_place" ["thing"] "shape" dv (spPlace K) := by
  refine F.ok sc_is_place (fun vs H Q E h => ?_) (fun f cdv A outer s H vs Q E hr h => ?_)
  · obtain ⟨v, n, a, g, s, m, rfl, _⟩ := h
    rfl
  · obtain ⟨v, n, a, g, z, m, rfl, ty, M, q⟩ := h
    refine ⟨_, (pss_one (ps_ret (pe_callD D_is_between (by first | exact hr | exact hr.mono (by decide)) (pa_cons (pv 0) (pa_cons pe_int (pa_cons (pe_op op_sub (pe_callW0 D_count (by first | exact hr | exact hr.mono (by decide)) (pv 1)) pe_int) pa_nil)))))), ?_⟩
    refine ⟨_, rfl, _, rfl, rfl, a, g, z, m, rfl, M, _, _, rfl, rfl, ?_⟩
    exact ⟨v, n, _, _, rfl, ty, q⟩
def spChkP (K : PySem.W.Frag) : Sp := fun vs H Q _ => ∃ (p : Int) (a : Addr) (g s m : Int), vs = [.int p, .ref a] ∧ Mould K H a g s m ∧ 0 ≤ p ∧ p < manyZ g s m ∧ Q .non H
theorem ok_check_place {dv : V} (D_is_place : DnK P w K mg base CX0 6 "is_place" ["thing"] "shape" dv (spPlace K)) (F : At K mg "check_place" s_check_place ["thing", "shape"]) : Dn P w K mg base CX0 7 "check_place" ["thing", "shape"] (spChkP K) := by
  refine F.ok sc_check_place (fun vs H Q E h => ?_) (fun f cdv A outer s H vs Q E hr h => ?_)
  · obtain ⟨p, a, g, s, m, rfl, _⟩ := h
    rfl
  · obtain ⟨p, a, g, z, m, rfl, M, p0, p1, q⟩ := h
    refine ⟨_, (pss_one (ps_if (pt_not (pt_val (pe_callW D_is_place (by first | exact hr | exact hr.mono (by decide)) (pa_cons (pv 0) pa_nil) (pv 1)))) (pss_one ps_never) pss_nil)), ?_⟩
    refine ⟨_, rfl, _, rfl, rfl, rfl, .int p, "int", a, g, z, m, rfl, .int p, M, ?_⟩
    rw [betw_t p0 (by omega)]
    exact ⟨_, rfl, q⟩
/-- what a place is -/
def kindV (g s p : Int) : List V := if p / (s + 1) ≥ g then [.str "over", .int (p - g * (s + 1) + 1)] else if p % (s + 1) = s then [.str "local", .int (p / (s + 1))] else [.str "data", .int (p / (s + 1)), .int (p % (s + 1))]
def spKind (K : PySem.W.Frag) : Sp := fun vs H Q _ => ∃ (p : Int) (a : Addr) (g s m : Int), vs = [.int p, .ref a] ∧ Mould K H a g s m ∧ 0 ≤ p ∧ p < manyZ g s m ∧ ∀ r H', Same H H' → H' r = some (.tup (kindV g s p)) → Q (.ref r) H'
theorem ok_kind_of (T : Txt K mg) (D_check_place : Dn P w K mg base CX0 7 "check_place" ["thing", "shape"] (spChkP K)) {dv : V} (F : AtK K mg "kind_of" s_kind_of ["place"] "shape" dv) : DnK P w K mg base CX0 8 "kind_of" ["place"] "shape" dv (spKind K) := by
  refine F.ok sc_kind_of (fun vs H Q E h => ?_) (fun f cdv A outer s H vs Q E hr h => ?_)
  · obtain ⟨p, a, g, s, m, rfl, _⟩ := h
    rfl
  · obtain ⟨p, a, g, z, m, rfl, M, p0, p1, q⟩ := h
    obtain ⟨ha, g1, g4, s1, s4, m0, m2⟩ := id M
    refine ⟨_, (pss_cons (ps_expr (pe_callD D_check_place (by first | exact hr | exact hr.mono (by decide)) (pa_cons (pv 0) (pa_cons (pv 1) pa_nil))))
  (pss_cons (ps_asg (pv 1) (pg_tup (by rfl) (pgs_cons (pg_name (i := 2) sc_kind_of.nd rfl (by first | exact Or.inl rfl | exact Or.inr rfl)) (pgs_cons (pg_name (i := 3) sc_kind_of.nd rfl (by first | exact Or.inl rfl | exact Or.inr rfl)) (pgs_cons (pg_name (i := 4) sc_kind_of.nd rfl (by first | exact Or.inl rfl | exact Or.inr rfl)) pgs_nil)))))
  (pss_cons (ps_asg (pe_callB call_divmod (by rfl) T.n_divmod (by decide +kernel) (pa_cons (pv 0) (pa_cons (pe_op op_add (pv 3) pe_int) pa_nil))) (pg_tup (by rfl) (pgs_cons (pg_name (i := 5) sc_kind_of.nd rfl (by first | exact Or.inl rfl | exact Or.inr rfl)) (pgs_cons (pg_name (i := 6) sc_kind_of.nd rfl (by first | exact Or.inl rfl | exact Or.inr rfl)) pgs_nil))))
  (pss_cons (ps_if (pt_cmpR op_ge (pv 5) (pv 2) (nomark _)) (pss_one (ps_ret (pe_tup (pa_cons pe_str (pa_cons (pe_op op_add (pe_op op_sub (pv 0) (pe_op op_mul (pv 2) (pe_op op_add (pv 3) pe_int))) pe_int) pa_nil))))) pss_nil)
  (pss_cons (ps_if (pt_cmpR op_eq (pv 6) (pv 3) (nomark _)) (pss_one (ps_ret (pe_tup (pa_cons pe_str (pa_cons (pv 5) pa_nil))))) pss_nil)
  (pss_one (ps_ret (pe_tup (pa_cons pe_str (pa_cons (pv 5) (pa_cons (pv 6) pa_nil))))))))))), ?_⟩
    refine ⟨_, rfl, _, rfl, p, a, g, z, m, rfl, M, p0, p1, ?_⟩
    refine ⟨_, rfl, _, _, rfl, ha, rfl, _, _, rfl, _, _, rfl, _, _, rfl, rfl, ?_⟩
    refine ⟨_, rfl, _, rfl, _, _, rfl, rfl, _, _, rfl, ⟨?_, ?_⟩, fun r nr => ?_⟩
    · omega
    · omega
    have s1' := Same.new (o := .tup [.int (p / (z + 1)), .int (p % (z + 1))]) nr
    refine ⟨_, _, rfl, SqT.of upd_same, rfl, _, _, rfl, _, _, rfl, rfl, ?_⟩
    refine ⟨_, rfl, _, rfl, _, _, rfl, rfl, _, rfl, iteD (fun h1 => ?_) fun h1 => ?_⟩
    · have e : kindV g z p = [.str "over", .int (p - g * (z + 1) + 1)] := if_pos h1
      refine ⟨_, rfl, _, rfl, _, rfl, _, _, rfl, rfl, _, _, rfl, rfl, .inl ⟨by omega, by omega⟩, _, _, rfl, rfl, _, _, rfl, rfl, (by show 2 ≤ sizeLine; decide), fun t nt => ?_⟩
      exact q t _ (Same.trans s1' (Same.new nt)) (by rw [e]; exact upd_same)
    refine ⟨_, rfl, _, rfl, rfl, _, rfl, iteI (fun h2 => ?_) fun h2 => ?_⟩
    · have e : kindV g z p = [.str "local", .int (p / (z + 1))] := by unfold kindV; rw [if_neg h1, if_pos h2]
      refine ⟨_, rfl, (by show 2 ≤ sizeLine; decide), fun t nt => ?_⟩
      exact q t _ (Same.trans s1' (Same.new nt)) (by rw [e]; exact upd_same)
    · have e : kindV g z p = [.str "data", .int (p / (z + 1)), .int (p % (z + 1))] := by unfold kindV; rw [if_neg h1, if_neg h2]
      refine ⟨_, rfl, _, rfl, (by show 3 ≤ sizeLine; decide), fun t nt => ?_⟩
      exact q t _ (Same.trans s1' (Same.new nt)) (by rw [e]; exact upd_same)
theorem eqK2 (u v : Str) (a b : Int) : PyData.eqv (.tuple [.str u, .int a]) (.tuple [.str v, .int b]) = (u == v && a == b) := by
  simp [PyData.eqv, PyData.eqvAll]
theorem eqK3 (u v : Str) (a b c : Int) : PyData.eqv (.tuple [.str u, .int a, .int c]) (.tuple [.str v, .int b]) = false := by
  simp [PyData.eqv, PyData.eqvAll]
theorem shKo (a : Int) : SeqAt.shaped (.tuple [.str "over", .int a]) = true := by
  simp only [SeqAt.shaped, PyData.canLay0, PyData.canLayAll0, PyData.depth, PyData.depthAll]
  have h1 : PyData.strOk (Str.ofString "over") = true := by decide +kernel
  rw [h1]
  rfl
theorem shKl (a : Int) : SeqAt.shaped (.tuple [.str "local", .int a]) = true := by
  simp only [SeqAt.shaped, PyData.canLay0, PyData.canLayAll0, PyData.depth, PyData.depthAll]
  have h1 : PyData.strOk (Str.ofString "local") = true := by decide +kernel
  rw [h1]
  rfl
theorem shKd (a b : Int) : SeqAt.shaped (.tuple [.str "data", .int a, .int b]) = true := by
  simp only [SeqAt.shaped, PyData.canLay0, PyData.canLayAll0, PyData.depth, PyData.depthAll]
  have h1 : PyData.strOk (Str.ofString "data") = true := by decide +kernel
  rw [h1]
  rfl
def markZ (s p : Int) : Int := ([1, 11, 40, 30] : List Int).getD (p / (s + 1)).toNat 0 + p % (s + 1)
/-- a data place -/
def isData (g s p : Int) : Bool := decide (p / (s + 1) < g) && decide (p % (s + 1) ≠ s)
theorem kind_data {g s p : Int} (h : isData g s p = true) : kindV g s p = [.str "data", .int (p / (s + 1)), .int (p % (s + 1))] := by
  unfold isData at h
  simp only [Bool.and_eq_true, decide_eq_true_eq] at h
  unfold kindV
  rw [if_neg (by omega), if_neg h.2]
def localZ (g s p gr : Int) : Int := if p / (s + 1) ≥ g then 0 else if p / (s + 1) = gr then (if p % (s + 1) = s then 96 else 1) else 0
def overZ (g s p n : Int) : Int := if p / (s + 1) ≥ g then (if p - g * (s + 1) + 1 = n then 96 else 0) else if p % (s + 1) = s then 0 else markZ s p ^ n.toNat % 97
def spMark (K : PySem.W.Frag) : Sp := fun vs H Q _ => ∃ (p : Int) (a : Addr) (g s m : Int), vs = [.int p, .ref a] ∧ Mould K H a g s m ∧ 0 ≤ p ∧ p < manyZ g s m ∧ isData g s p = true ∧ ∀ H', Same H H' → Q (.int (markZ s p)) H'
theorem ok_mark (T : Txt K mg) {dv : V} (D_kind_of : DnK P w K mg base CX0 8 "kind_of" ["place"] "shape" dv (spKind K)) (F : AtK K mg "mark" s_mark ["place"] "shape" dv) : DnK P w K mg base CX0 9 "mark" ["place"] "shape" dv (spMark K) := by
  refine F.ok sc_mark (fun vs H Q E h => ?_) (fun f cdv A outer s H vs Q E hr h => ?_)
  · obtain ⟨p, a, g, s, m, rfl, _⟩ := h
    rfl
  · obtain ⟨p, a, g, z, m, rfl, M, p0, p1, hd, q⟩ := h
    obtain ⟨ha, g1, g4, s1, s4, m0, m2⟩ := id M
    refine ⟨_, (pss_cons (ps_set (i := 2) sc_mark.nd rfl (by first | exact Or.inl rfl | exact Or.inr rfl) (pe_callW D_kind_of (by first | exact hr | exact hr.mono (by decide)) (pa_cons (pv 0) pa_nil) (pv 1)))
  (pss_cons (ps_if (pt_cmpR op_ne (pe_ix (r := rIxT K) ix_tup (pv 2) pe_int (fun _ _ => rfl)) pe_str (nomark _)) (pss_one ps_never) pss_nil)
  (pss_one (ps_ret (pe_op op_add (pe_ix (r := rIxT K) ix_tup (pe_glob (v := .ref (He.ga K "MARKS")) rfl T.g_MARKS (by exact rfl)) (pe_ix (r := rIxT K) ix_tup (pv 2) pe_int (fun _ _ => rfl)) (fun _ _ => rfl)) (pe_ix (r := rIxT K) ix_tup (pv 2) pe_int (fun _ _ => rfl))))))), ?_⟩
    refine ⟨_, rfl, _, rfl, rfl, rfl, p, a, g, z, m, rfl, M, p0, p1, fun r H1 s1' er => ?_⟩
    rw [kind_data hd] at er
    refine ⟨_, rfl, _, _, _, _, rfl, rfl, SqT.of er, rfl, rfl, _, rfl, iteDn (fun z => absurd rfl z) fun _ => ?_⟩
    unfold isData at hd
    simp only [Bool.and_eq_true, decide_eq_true_eq] at hd
    have k0 : 0 ≤ p / (z + 1) := Int.ediv_nonneg p0 (by omega)
    have hm : atI ([.int 1, .int 11, .int 40, .int 30] : List V) (p / (z + 1)) = some (.int (([1, 11, 40, 30] : List Int).getD (p / (z + 1)).toNat 0)) := by
      obtain h | h | h | h : p / (z + 1) = 0 ∨ p / (z + 1) = 1 ∨ p / (z + 1) = 2 ∨ p / (z + 1) = 3 := by omega
      all_goals (rw [h]; rfl)
    refine ⟨_, rfl, _, _, _, _, rfl, rfl, SqT.of er, rfl, _, _, _, _, rfl, rfl, T.q_MARKS _, hm, ?_⟩
    exact ⟨_, rfl, _, _, _, _, rfl, rfl, SqT.of er, rfl, _, _, rfl, rfl, q _ s1'⟩
def spLocal (K : PySem.W.Frag) : Sp := fun vs H Q _ => ∃ (p gr : Int) (a : Addr) (g s m : Int), vs = [.int p, .int gr, .ref a] ∧ Mould K H a g s m ∧ 0 ≤ p ∧ p < manyZ g s m ∧ ∀ H', Same H H' → Q (.int (localZ g s p gr)) H'
theorem ok_local (T : Txt K mg) {dv : V} (D_kind_of : DnK P w K mg base CX0 8 "kind_of" ["place"] "shape" dv (spKind K)) (F : At K mg "local_factor" s_local_factor ["place", "group", "shape"]) : Dn P w K mg base CX0 9 "local_factor" ["place", "group", "shape"] (spLocal K) := by
  refine F.ok sc_local_factor (fun vs H Q E h => ?_) (fun f cdv A outer s H vs Q E hr h => ?_)
  · obtain ⟨p, gr, a, g, s, m, rfl, _⟩ := h
    rfl
  · obtain ⟨p, gr, a, g, z, m, rfl, M, p0, p1, q⟩ := h
    refine ⟨_, (pss_cons (ps_set (i := 3) sc_local_factor.nd rfl (by first | exact Or.inl rfl | exact Or.inr rfl) (pe_callW D_kind_of (by first | exact hr | exact hr.mono (by decide)) (pa_cons (pv 0) pa_nil) (pv 2)))
  (pss_cons (ps_if (pt_cmpR (r := rEqD K) (op_eqD hr.units) (pv 3) (pe_tup (pa_cons pe_str (pa_cons (pv 1) pa_nil))) (nomark _)) (pss_one (ps_ret (pe_op op_sub (pe_glob rfl T.g_PRIME (by exact T.v_PRIME)) pe_int))) pss_nil)
  (pss_cons (ps_if (PW.pt (pw_and (pt_cmpR op_eq (pe_ix (r := rIxT K) ix_tup (pv 3) pe_int (fun _ _ => rfl)) pe_str (nomark _)) (pw_and1 (pt_cmpR op_eq (pe_ix (r := rIxT K) ix_tup (pv 3) pe_int (fun _ _ => rfl)) (pv 1) (nomark _))))) (pss_one (ps_ret pe_int)) pss_nil)
  (pss_one (ps_ret pe_int))))), ?_⟩
    refine ⟨_, rfl, _, rfl, rfl, rfl, p, a, g, z, m, rfl, M, p0, p1, fun r H1 s1' er => ?_⟩
    refine ⟨_, rfl, _, rfl, (by show 2 ≤ sizeLine; decide), fun t nt => ?_⟩
    have s2 := Same.trans s1' (Same.new (o := .tup [.str "local", .int gr]) nt)
    have er2 : upd H1 t (.tup [.str "local", .int gr]) r = some (.tup (kindV g z p)) := old er nt
    have et2 : upd H1 t (.tup [.str "local", .int gr]) t = some (.tup [.str "local", .int gr]) := upd_same
    generalize upd H1 t (.tup [.str "local", .int gr]) = H2 at *
    unfold kindV at er2
    unfold localZ at q
    by_cases h1 : p / (z + 1) ≥ g
    · rw [if_pos h1] at er2 q
      refine ⟨_, _, .tup (SqT.of er2) (.cons (.str _) (.cons (.int _) .nil)), .tup (SqT.of et2) (.cons (.str _) (.cons (.int _) .nil)), shKo _, shKl _, ?_⟩
      rw [eqK2]
      refine ⟨_, rfl, ?_⟩
      refine ⟨_, rfl, _, _, _, _, rfl, rfl, SqT.of er2, rfl, rfl, _, rfl, iteD (fun z => absurd z (by decide)) fun _ => ?_⟩
      exact q _ s2
    rw [if_neg h1] at er2 q
    by_cases h2 : p % (z + 1) = z
    · rw [if_pos h2] at er2 q
      refine ⟨_, _, .tup (SqT.of er2) (.cons (.str _) (.cons (.int _) .nil)), .tup (SqT.of et2) (.cons (.str _) (.cons (.int _) .nil)), shKl _, shKl _, ?_⟩
      rw [eqK2]
      by_cases h3 : p / (z + 1) = gr
      · rw [if_pos h3] at q
        refine ⟨_, rfl, ?_⟩
        rw [show (Str.ofString "local" == Str.ofString "local" && p / (z + 1) == gr) = true by rw [h3]; simp]
        refine iteT ⟨_, _, rfl, rfl, ?_⟩
        exact q _ s2
      · rw [if_neg h3] at q
        refine ⟨_, rfl, ?_⟩
        rw [show (Str.ofString "local" == Str.ofString "local" && p / (z + 1) == gr) = false by simp [h3]]
        refine iteF ⟨_, rfl, _, _, _, _, rfl, rfl, SqT.of er2, rfl, rfl, _, rfl, iteD (fun z => absurd z (by decide)) fun _ => ?_⟩
        exact q _ s2
    · rw [if_neg h2] at er2
      refine ⟨_, _, .tup (SqT.of er2) (.cons (.str _) (.cons (.int _) (.cons (.int _) .nil))), .tup (SqT.of et2) (.cons (.str _) (.cons (.int _) .nil)), shKd _ _, shKl _, ?_⟩
      rw [eqK3]
      refine ⟨_, rfl, ?_⟩
      refine ⟨_, rfl, _, _, _, _, rfl, rfl, SqT.of er2, rfl, rfl, _, rfl, iteD (fun _ => ?_) fun z => absurd rfl z⟩
      refine ⟨_, rfl, _, _, _, _, rfl, rfl, SqT.of er2, rfl, _, rfl, rfl, _, rfl, iteI (fun h3 => ?_) fun h3 => ?_⟩
      · rw [if_pos h3, if_neg h2] at q
        exact q _ s2
      · rw [if_neg h3] at q
        exact q _ s2
def spOverF (K : PySem.W.Frag) : Sp := fun vs H Q _ => ∃ (p n : Int) (a : Addr) (g s m : Int), vs = [.int p, .int n, .ref a] ∧ Mould K H a g s m ∧ 0 ≤ p ∧ p < manyZ g s m ∧ 0 ≤ n ∧ ∀ H', Same H H' → Q (.int (overZ g s p n)) H'
theorem ok_over_factor (T : Txt K mg) {dv : V} (D_power : Dn P w K mg base CX0 2 "power" ["one", "many"] spPower) (D_kind_of : DnK P w K mg base CX0 8 "kind_of" ["place"] "shape" dv (spKind K)) (D_mark : DnK P w K mg base CX0 9 "mark" ["place"] "shape" dv (spMark K)) (F : At K mg "over_factor" s_over_factor ["place", "number", "shape"]) : Dn P w K mg base CX0 10 "over_factor" ["place", "number", "shape"] (spOverF K) := by
  refine F.ok sc_over_factor (fun vs H Q E h => ?_) (fun f cdv A outer s H vs Q E hr h => ?_)
  · obtain ⟨p, n, a, g, s, m, rfl, _⟩ := h
    rfl
  · obtain ⟨p, gr, a, g, z, m, rfl, M, p0, p1, n0, q⟩ := h
    obtain ⟨ha, g1, g4, s1, s4, m0, m2⟩ := id M
    refine ⟨_, (pss_cons (ps_set (i := 3) sc_over_factor.nd rfl (by first | exact Or.inl rfl | exact Or.inr rfl) (pe_callW D_kind_of (by first | exact hr | exact hr.mono (by decide)) (pa_cons (pv 0) pa_nil) (pv 2)))
  (pss_cons (ps_if (pt_cmpR (r := rEqD K) (op_eqD hr.units) (pv 3) (pe_tup (pa_cons pe_str (pa_cons (pv 1) pa_nil))) (nomark _)) (pss_one (ps_ret (pe_op op_sub (pe_glob rfl T.g_PRIME (by exact T.v_PRIME)) pe_int))) pss_nil)
  (pss_cons (ps_if (pt_cmpR op_eq (pe_ix (r := rIxT K) ix_tup (pv 3) pe_int (fun _ _ => rfl)) pe_str (nomark _)) (pss_one (ps_ret (pe_callD D_power (by first | exact hr | exact hr.mono (by decide)) (pa_cons (pe_callW D_mark (by first | exact hr | exact hr.mono (by decide)) (pa_cons (pv 0) pa_nil) (pv 2)) (pa_cons (pv 1) pa_nil))))) pss_nil)
  (pss_one (ps_ret pe_int))))), ?_⟩
    refine ⟨_, rfl, _, rfl, rfl, rfl, p, a, g, z, m, rfl, M, p0, p1, fun r H1 s1' er => ?_⟩
    refine ⟨_, rfl, _, rfl, (by show 2 ≤ sizeLine; decide), fun t nt => ?_⟩
    have s2 := Same.trans s1' (Same.new (o := .tup [.str "over", .int gr]) nt)
    have er2 : upd H1 t (.tup [.str "over", .int gr]) r = some (.tup (kindV g z p)) := old er nt
    have et2 : upd H1 t (.tup [.str "over", .int gr]) t = some (.tup [.str "over", .int gr]) := upd_same
    generalize upd H1 t (.tup [.str "over", .int gr]) = H2 at *
    unfold kindV at er2
    unfold overZ at q
    by_cases h1 : p / (z + 1) ≥ g
    · rw [if_pos h1] at er2 q
      refine ⟨_, _, .tup (SqT.of er2) (.cons (.str _) (.cons (.int _) .nil)), .tup (SqT.of et2) (.cons (.str _) (.cons (.int _) .nil)), shKo _, shKo _, ?_⟩
      rw [eqK2]
      by_cases h3 : p - g * (z + 1) + 1 = gr
      · rw [if_pos h3] at q
        refine ⟨_, rfl, ?_⟩
        rw [show (Str.ofString "over" == Str.ofString "over" && p - g * (z + 1) + 1 == gr) = true by rw [h3]; simp]
        refine iteT ⟨_, _, rfl, rfl, ?_⟩
        exact q _ s2
      · rw [if_neg h3] at q
        refine ⟨_, rfl, ?_⟩
        rw [show (Str.ofString "over" == Str.ofString "over" && p - g * (z + 1) + 1 == gr) = false by simp [h3]]
        refine iteF ⟨_, rfl, _, _, _, _, rfl, rfl, SqT.of er2, rfl, rfl, _, rfl, iteD (fun z => absurd z (by decide)) fun _ => ?_⟩
        exact q _ s2
    rw [if_neg h1] at er2 q
    by_cases h2 : p % (z + 1) = z
    · rw [if_pos h2] at er2 q
      refine ⟨_, _, .tup (SqT.of er2) (.cons (.str _) (.cons (.int _) .nil)), .tup (SqT.of et2) (.cons (.str _) (.cons (.int _) .nil)), shKl _, shKo _, ?_⟩
      rw [eqK2]
      refine ⟨_, rfl, ?_⟩
      refine ⟨_, rfl, _, _, _, _, rfl, rfl, SqT.of er2, rfl, rfl, _, rfl, iteD (fun z => absurd z (by decide)) fun _ => ?_⟩
      exact q _ s2
    · rw [if_neg h2] at er2 q
      refine ⟨_, _, .tup (SqT.of er2) (.cons (.str _) (.cons (.int _) (.cons (.int _) .nil))), .tup (SqT.of et2) (.cons (.str _) (.cons (.int _) .nil)), shKd _ _, shKo _, ?_⟩
      rw [eqK3]
      refine ⟨_, rfl, ?_⟩
      refine ⟨_, rfl, _, _, _, _, rfl, rfl, SqT.of er2, rfl, rfl, _, rfl, iteD (fun _ => ?_) fun z => absurd rfl z⟩
      have hd : isData g z p = true := by
        unfold isData
        rw [decide_eq_true (by omega), decide_eq_true h2]
        rfl
      refine ⟨_, rfl, _, rfl, rfl, rfl, p, a, g, z, m, rfl, M.same s2, p0, p1, hd, fun H3 s3 => ?_⟩
      refine ⟨_, rfl, _, _, rfl, ?_, n0, q _ (Same.trans s2 s3)⟩
      have k0 : 0 ≤ p % (z + 1) := Int.emod_nonneg _ (by omega)
      have k1 : p % (z + 1) < z + 1 := Int.emod_lt_of_pos _ (by omega)
      have k2 : ∀ i : Nat, 0 ≤ ([1, 11, 40, 30] : List Int).getD i 0 ∧ ([1, 11, 40, 30] : List Int).getD i 0 ≤ 40
        | 0 | 1 | 2 | 3 => by decide
        | n + 4 => ⟨Int.le_refl 0, by show (0 : Int) ≤ 40; decide⟩
      have := k2 (p / (z + 1)).toNat
      have h9 : 100 < 2 ^ 250 := by decide
      unfold Bd markZ
      omega
def rowL (g s m : Int) (i : Nat) : List Int := (List.range (manyZ g s m).toNat).map fun (p : Nat) => localZ g s p i
def rowO (g s m : Int) (n : Nat) : List Int := (List.range (manyZ g s m).toNat).map fun (p : Nat) => overZ g s p (1 + n)
def checksM (g s m : Int) : List (List Int) := (List.range g.toNat).map (rowL g s m) ++ (List.range m.toNat).map (rowO g s m)
def spChecks (K : PySem.W.Frag) : Sp := fun vs H Q _ => ∃ (a : Addr) (g s m : Int), vs = [.ref a] ∧ Mould K H a g s m ∧ ∀ r as H', Same H H' → Mat H' r as (checksM g s m) → (∀ b ∈ r :: as, H b = none) → Q (.ref r) H'
theorem ok_checks (T : Txt K mg) {dv : V} (D_count : DnK P w K mg base CX0 5 "count" [] "shape" dv (spCount K)) (D_local_factor : Dn P w K mg base CX0 9 "local_factor" ["place", "group", "shape"] (spLocal K)) (D_over_factor : Dn P w K mg base CX0 10 "over_factor" ["place", "number", "shape"] (spOverF K)) (F : AtK K mg "checks" s_checks [] "shape" dv) : DnK P w K mg base CX0 11 "checks" [] "shape" dv (spChecks K) := by
  refine F.ok sc_checks (fun vs H Q E h => ?_) (fun f cdv A outer s H vs Q E hr h => ?_)
  · obtain ⟨a, g, s, m, rfl, _⟩ := h
    rfl
  · obtain ⟨a, g, z, m, rfl, M, q⟩ := h
    obtain ⟨ha, g1, g4, s1, s4, m0, m2⟩ := id M
    obtain ⟨l1, l2, l3, l4⟩ := M.le
    refine ⟨_, (pss_cons (ps_set (i := 1) sc_checks.nd rfl (by first | exact Or.inl rfl | exact Or.inr rfl) (pe_callTy cr_range1 (by rfl) T.n_range (by decide +kernel) (pa_cons (pe_callW0 D_count (by first | exact hr | exact hr.mono (by decide)) (pv 0)) pa_nil)))
  (pss_cons (ps_asg (pv 0) (pg_tup (by rfl) (pgs_cons (pg_name (i := 2) sc_checks.nd rfl (by first | exact Or.inl rfl | exact Or.inr rfl)) (pgs_cons (pg_name (i := 3) sc_checks.nd rfl (by first | exact Or.inl rfl | exact Or.inr rfl)) (pgs_cons (pg_name (i := 4) sc_checks.nd rfl (by first | exact Or.inl rfl | exact Or.inr rfl)) pgs_nil)))))
  (pss_cons (ps_setLc (i := 7) (own := [("group", 5)]) (g := (gName 5)) (by rfl) sc_checks.nd rfl rfl (sw_true rfl rfl rfl (by decide +kernel)) (pi_range1 (by rfl) T.n_range (pa_cons (pv 2) pa_nil)) (blkOk_by (own := [("group", 5)]) (N := ["shape", "places", "groups", "_", "sums", "group", "place", "rows", "number"]) (sc := defScope s_checks) (by decide +kernel)) (fun _ _ _ _ _ => (pg_name (i := 5) sc_checks.nd rfl (by first | exact Or.inl rfl | exact Or.inr rfl) (by first | exact Or.inr rfl | exact Or.inl rfl))) (fun _ _ _ _ _ => pts_nil) (fun _ _ _ _ _ => (pe_lc (own := [("place", 6)]) (g := (gName 6)) (by rfl) sc_checks.nd (pi_rng (pv 1)) (blkOk_by (own := [("place", 6)]) (by kernel_rfl)) (fun _ _ _ _ _ => (pg_name (i := 6) sc_checks.nd rfl (by first | exact Or.inl rfl | exact Or.inr rfl) (by first | exact Or.inr rfl | exact Or.inl rfl))) (fun _ _ _ _ _ => pts_nil) (fun _ _ _ _ _ => (pe_callD D_local_factor (by first | exact hr | exact hr.mono (by decide)) (pa_cons (pv 6) (pa_cons (pv 5) (pa_cons (pv 0) pa_nil))))))))
  (pss_cons (ps_for PassesOwn.never rfl (pi_range2 (by rfl) T.n_range (pa_cons pe_int (pa_cons (pe_op op_add (pv 4) pe_int) pa_nil))) (pg_name (i := 8) sc_checks.nd rfl (by first | exact Or.inl rfl | exact Or.inr rfl))
  (pss_one (ps_expr (pe_bmK K PySem.F.plainAttrs_list PySem.F.slot_list_append PySem.F.type_list_append mt_append (pv 7) (pa_cons (pe_lc (own := [("place", 6)]) (g := (gName 6)) (by rfl) sc_checks.nd (pi_rng (pv 1)) (blkOk_by (own := [("place", 6)]) (N := ["shape", "places", "groups", "_", "sums", "group", "place", "rows", "number"]) (sc := defScope s_checks) (by decide +kernel)) (fun _ _ _ _ _ => (pg_name (i := 6) sc_checks.nd rfl (by first | exact Or.inl rfl | exact Or.inr rfl) (by first | exact Or.inr rfl | exact Or.inl rfl))) (fun _ _ _ _ _ => pts_nil) (fun _ _ _ _ _ => (pe_callD D_over_factor (by first | exact hr | exact hr.mono (by decide)) (pa_cons (pv 6) (pa_cons (pv 8) (pa_cons (pv 0) pa_nil)))))) pa_nil)))))
  (pss_one (ps_ret (pv 7))))))), ?_⟩
    refine ⟨_, rfl, rfl, a, g, z, m, rfl, M, _, rfl, fun r nr => ?_⟩
    have sr := Same.new (o := .rng 0 (manyZ g z m)) nr
    have er : upd H r (.rng 0 (manyZ g z m)) r = some (.rng 0 (manyZ g z m)) := upd_same
    have M1 := M.same sr
    generalize upd H r (.rng 0 (manyZ g z m)) = H1 at *
    refine ⟨_, rfl, _, _, rfl, M1.1, rfl, _, _, rfl, _, _, rfl, _, _, rfl, rfl, ?_⟩
    refine ⟨_, rfl, _, rfl, by omega, by omega, fun D nD => ?_⟩
    refine lc_it walk_range (fun i H' => Same H1 H' ∧ ∃ as, Mat H' D as ((List.range i).map (rowL g z m)) ∧ ∀ b ∈ as, H1 b = none) ⟨Same.new nD, [], Mat.nil upd_same, fun _ h => by cases h⟩ (fun _ _ _ _ => trivial) ?_ ?_
    · intro i x H' H2 hi p y
      obtain ⟨rfl, rfl⟩ := y
      obtain ⟨p1, as, p2, p3⟩ := p
      refine ⟨rfl, _, rfl, r, 0, _, rfl, p1 _ _ er, ⟨by omega, by omega, by omega, by omega⟩, fun d nd => ?_⟩
      refine lc_ints walk_range (fun j => localZ g z (0 + (j : Int)) (0 + (i : Int))) nd (small1000' (by omega)) (fun _ _ => trivial) ?_ ?_
      · intro j x H4 H5 R R' hj s4 y k
        obtain ⟨rfl, rfl⟩ := y
        exact ⟨rfl, _, rfl, _, rfl, _, rfl, _, _, a, g, z, m, rfl, (M1.same p1).same s4, by omega, by omega, k⟩
      · intro H4 s4 e4
        have e5 : (List.range (manyZ g z m - 0).toNat).map (fun (j : Nat) => localZ g z (0 + (j : Int)) (0 + (i : Int))) = rowL g z m i := by
          unfold rowL
          simp only [Int.sub_zero, Int.zero_add]
        rw [e5] at e4
        refine ⟨_, s4 _ _ p2.hd, ?_, ?_, as ++ [d], ?_, ?_⟩
        · rw [List.length_map, p2.len, List.length_map, List.length_range]
          exact Nat.lt_of_lt_of_le (m := 1000000) (by omega) (by decide)
        · intro b o e
          rw [upd_ne (ne_of_none e nD)]
          exact s4 _ _ (p1 _ _ e)
        · rw [List.range_succ, List.map_append]
          exact p2.snoc s4 nd e4
        · intro b hb
          rcases List.mem_append.mp hb with hb | hb
          · exact p3 b hb
          · rw [List.mem_singleton.mp hb]
            cases h : H1 d with
            | none => rfl
            | some o => rw [p1 _ _ h] at nd; cases nd
    · intro H2 p
      obtain ⟨p1, as, p2, p3⟩ := p
      refine ⟨_, rfl, _, _, rfl, rfl, _, _, rfl, ⟨by omega, by omega, by omega, by omega⟩, ?_⟩
      refine for_range (fun i σ H' => ∃ v5 v6 v8, σ = [some (.ref a), some (.ref r), some (.int g), some (.int z), some (.int m), v5, v6, some (.ref D), v8] ∧ Same H1 H' ∧ ∃ as, Mat H' D as ((List.range g.toNat).map (rowL g z m) ++ (List.range i).map (rowO g z m)) ∧ ∀ b ∈ as, H1 b = none) ⟨none, none, none, rfl, p1, as, by rw [List.range_zero, List.map_nil, List.append_nil]; exact p2, p3⟩ ?_ ?_
      · rintro i σ H3 hi ⟨v5, v6, v8, rfl, p1, as, p2, p3⟩
        refine ⟨_, rfl, .inl ⟨rfl, _, SqL.of p2.hd⟩, ?_⟩
        refine ⟨_, rfl, r, 0, _, rfl, p1 _ _ er, ⟨by omega, by omega, by omega, by omega⟩, fun d nd => ?_⟩
        refine lc_ints walk_range (fun j => overZ g z (0 + (j : Int)) (1 + (i : Int))) nd (small1000' (by omega)) (fun _ _ => trivial) ?_ ?_
        · intro j x H4 H5 R R' hj s4 y k
          obtain ⟨rfl, rfl⟩ := y
          exact ⟨rfl, _, rfl, _, rfl, _, rfl, _, _, a, g, z, m, rfl, (M1.same p1).same s4, by omega, by omega, by omega, k⟩
        · intro H4 s4 e4
          have e5 : (List.range (manyZ g z m - 0).toNat).map (fun (j : Nat) => overZ g z (0 + (j : Int)) (1 + (i : Int))) = rowO g z m i := by
            unfold rowO
            simp only [Int.sub_zero, Int.zero_add]
          rw [e5] at e4
          refine ⟨_, _, _, rfl, rfl, s4 _ _ p2.hd, ?_, v5, v6, _, rfl, fun b o e => ?_, as ++ [d], ?_, ?_⟩
          · rw [List.length_map, p2.len, List.length_append, List.length_map, List.length_range, List.length_map, List.length_range]
            exact Nat.lt_of_lt_of_le (m := 1000000) (by omega) (by decide)
          · rw [upd_ne (ne_of_none e nD)]
            exact s4 _ _ (p1 _ _ e)
          · rw [List.range_succ, List.map_append, ← List.append_assoc]
            exact p2.snoc s4 nd e4
          · intro b hb
            rcases List.mem_append.mp hb with hb | hb
            · exact p3 b hb
            · rw [List.mem_singleton.mp hb]
              cases h : H1 d with
              | none => rfl
              | some o => rw [p1 _ _ h] at nd; cases nd
      · rintro σ H3 ⟨v5, v6, v8, rfl, p1, as, p2, p3⟩
        refine ⟨_, rfl, q D as H3 (Same.trans sr p1) ?_ ?_⟩
        · rw [show (m + 1 - 1).toNat = m.toNat by omega] at p2
          exact p2
        · have low : ∀ b, H1 b = none → H b = none := fun b n => by
            cases h : H b with
            | none => rfl
            | some o => rw [sr _ _ h] at n; cases n
          intro b hb
          rcases List.mem_cons.mp hb with rfl | hb
          · exact low _ nD
          · exact low _ (p3 b hb)
theorem cdiv (p Z : Nat) : ((p : Int) / ((Z : Int) + 1)) = ((p / (Z + 1) : Nat) : Int) := by rw [Int.natCast_ediv]; rfl
theorem cmod (p Z : Nat) : ((p : Int) % ((Z : Int) + 1)) = ((p % (Z + 1) : Nat) : Int) := by rw [Int.natCast_emod]; rfl
theorem many_nat (G Z M : Nat) : (manyZ G Z M).toNat = G * (Z + 1) + M := by
  unfold manyZ
  have e : (G : Int) * ((Z : Int) + 1) = ((G * (Z + 1) : Nat) : Int) := by rw [Int.natCast_mul]; rfl
  rw [e]
  omega
theorem local_at {G Z i i' j : Nat} (hi : i < G) (hj : j < Z + 1) : localZ G Z ((i * (Z + 1) + j : Nat) : Int) i' = if i = i' then (if j = Z then 96 else 1) else 0 := by
  unfold localZ
  rw [cdiv, cmod, blk_div hj, blk_mod hj, if_neg (by omega)]
  by_cases h : i = i'
  · rw [if_pos (by omega), if_pos h]
    by_cases h2 : j = Z
    · rw [if_pos (by omega), if_pos h2]
    · rw [if_neg (by omega), if_neg h2]
  · rw [if_neg (by omega), if_neg h]
theorem over_div (G Z t : Nat) : G ≤ (G * (Z + 1) + t) / (Z + 1) := (Nat.le_div_iff_mul_le (by omega)).mpr (by omega)
theorem local_over (G Z i' t : Nat) : localZ G Z ((G * (Z + 1) + t : Nat) : Int) i' = 0 := by
  unfold localZ
  have := over_div G Z t
  rw [cdiv, if_pos (by omega)]
theorem over_at {G Z i j : Nat} (n : Nat) (hi : i < G) (hj : j < Z + 1) : overZ G Z ((i * (Z + 1) + j : Nat) : Int) ((1 : Int) + n) = if j = Z then 0 else sgn i j ^ (n + 1) % 97 := by
  unfold overZ
  rw [cdiv, if_neg (by rw [blk_div hj]; omega), cmod, blk_mod hj]
  by_cases h2 : j = Z
  · rw [if_pos (by omega), if_pos h2]
  · rw [if_neg (by omega), if_neg h2]
    unfold markZ
    rw [cdiv, cmod, blk_div hj, blk_mod hj]
    have e : ((1 : Int) + n).toNat = n + 1 := by omega
    rw [e]
    rfl
theorem over_over (G Z n t : Nat) : overZ G Z ((G * (Z + 1) + t : Nat) : Int) ((1 : Int) + n) = if t = n then 96 else 0 := by
  unfold overZ
  have := over_div G Z t
  rw [cdiv, if_pos (by omega)]
  have e : (((G * (Z + 1) + t : Nat) : Int) - (G : Int) * ((Z : Int) + 1) + 1 = 1 + (n : Int)) ↔ t = n := by
    have e : (G : Int) * ((Z : Int) + 1) = ((G * (Z + 1) : Nat) : Int) := by rw [Int.natCast_mul]; rfl
    rw [e]
    omega
  by_cases h : t = n
  · rw [if_pos (e.mpr h), if_pos h]
  · rw [if_neg (fun z => h (e.mp z)), if_neg h]
theorem rowL_dot {G Z M i : Nat} (hi : i < G) {xs : List Int} (hl : xs.length = G * (Z + 1) + M) : (List.zipWith (· * ·) (rowL G Z M i) xs).sum = locC Z i (fun p => xs.getD p 0) := by
  unfold rowL
  rw [many_nat, dot_range _ _ hl, sm_add, sm_zero (f := fun i_1 => localZ (↑G) (↑Z) (↑(G * (Z + 1) + i_1)) ↑i * xs.getD (G * (Z + 1) + i_1) 0) fun t _ => by rw [local_over]; simp, sm_mul, sm_one (k := i) hi]
  · unfold locC
    rw [sm]
    rw [sm_congr (g := fun j => xs.getD (i * (Z + 1) + j) 0) fun j hj => by rw [local_at hi (by omega), if_pos rfl, if_neg (by omega)]; omega]
    rw [local_at hi (by omega), if_pos rfl, if_pos rfl, Int.add_zero]
  · intro i2 h2 ne
    exact sm_zero fun j hj => by rw [local_at h2 hj, if_neg ne]; simp
theorem sgn_mod {a b c : Int} : (a % 97 * b) % 97 = (a * b) % 97 := by
  rw [Int.mul_emod, Int.emod_emod_of_dvd _ (Int.dvd_refl 97), ← Int.mul_emod]
theorem rowO_dot {G Z M n : Nat} (hn : n < M) {xs : List Int} (hl : xs.length = G * (Z + 1) + M) : (List.zipWith (· * ·) (rowO G Z M n) xs).sum % 97 = ovC G Z n (fun p => xs.getD p 0) % 97 := by
  unfold rowO
  rw [many_nat, dot_range _ _ hl, sm_add]
  rw [sm_one (f := fun i_1 => overZ (↑G) (↑Z) (↑(G * (Z + 1) + i_1)) (1 + ↑n) * xs.getD (G * (Z + 1) + i_1) 0) (k := n) hn fun t _ ne => by rw [over_over, if_neg ne]; simp]
  rw [over_over, if_pos rfl, sm_mul]
  show _ = (sm (fun i => sm (fun j => sgn i j ^ (n + 1) * xs.getD (i * (Z + 1) + j) 0) Z) G + 96 * xs.getD (G * (Z + 1) + n) 0) % 97
  have h := sm_mod (f := fun i => sm (fun j => overZ (↑G) (↑Z) (↑(i * (Z + 1) + j)) (1 + ↑n) * xs.getD (i * (Z + 1) + j) 0) (Z + 1)) (g := fun i => sm (fun j => sgn i j ^ (n + 1) * xs.getD (i * (Z + 1) + j) 0) Z) (n := G) ?_
  · omega
  · intro i hi
    show sm _ (Z + 1) % 97 = _
    rw [sm]
    rw [show overZ (↑G) (↑Z) (↑(i * (Z + 1) + Z)) (1 + ↑n) * xs.getD (i * (Z + 1) + Z) 0 = 0 by rw [over_at n hi (by omega), if_pos rfl]; simp, Int.add_zero]
    refine sm_mod fun j hj => ?_
    rw [over_at n hi (by omega), if_neg (by omega)]
    exact sgn_mod (c := 0)
theorem checks_keep {G Z M : Nat} {xs : List Int} (hl : xs.length = G * (Z + 1) + M) (hx : ∀ x ∈ xs, 0 ≤ x ∧ x ≤ 96) :
    (∀ row ∈ checksM G Z M, (List.zipWith (· * ·) row xs).sum % 97 = 0) ↔ Keeps G Z M (fun p => xs.getD p 0) := by
  rw [keeps_iff fun p hp => by
    have h : p < xs.length := by omega
    rw [List.getD_eq_getElem?_getD, List.getElem?_eq_getElem h]
    exact hx _ (List.getElem_mem h)]
  unfold checksM
  simp only [List.mem_append, List.mem_map, List.mem_range, Int.toNat_natCast]
  constructor
  · intro h
    exact ⟨fun i hi => by rw [← rowL_dot (M := M) hi hl]; exact h _ (.inl ⟨i, hi, rfl⟩), fun n hn => by rw [← rowO_dot hn hl]; exact h _ (.inr ⟨n, hn, rfl⟩)⟩
  · rintro ⟨h1, h2⟩ row (⟨i, hi, rfl⟩ | ⟨n, hn, rfl⟩)
    · rw [rowL_dot hi hl]
      exact h1 i hi
    · rw [rowO_dot hn hl]
      exact h2 n hn
/-- the filling of the data numbers ds, as a list -/
def fillL (G Z M : Nat) (ds : List Int) : List Int := (List.range (G * (Z + 1) + M)).map (fillF G Z fun t => ds.getD t 0)
/-- the data numbers of xs -/
def dataL (G Z : Nat) (xs : List Int) : List Int := (List.range (G * Z)).map fun t => xs.getD (dp Z t) 0
theorem fill_congr {G Z M p : Nat} {d e : Nat → Int} (h : ∀ t, t < G * Z → d t = e t) (hp : p < G * (Z + 1) + M) : fillF G Z d p = fillF G Z e p := by
  have low : ∀ {i j : Nat}, i < G → j < Z → i * Z + j < G * Z := fun {i j} hi hj => by
    have : (i + 1) * Z ≤ G * Z := Nat.mul_le_mul_right _ hi
    rw [Nat.succ_mul] at this
    omega
  rcases place_cases hp with ⟨i, j, hi, hj, rfl⟩ | ⟨i, hi, rfl⟩ | ⟨t, ht, rfl⟩
  · rw [fill_data _ hi hj, fill_data _ hi hj, h _ (low hi hj)]
  · rw [fill_local _ hi, fill_local _ hi, sm_congr fun j hj => h _ (low hi hj)]
  · rw [fill_over, fill_over]
    unfold overS
    rw [sm_congr fun i hi => sm_congr fun j hj => by rw [h _ (low hi hj)]]
theorem keeps_list {G Z M : Nat} {xs : List Int} (hl : xs.length = G * (Z + 1) + M) : fillL G Z M (dataL G Z xs) = xs ↔ Keeps G Z M (fun p => xs.getD p 0) := by
  have e : fillL G Z M (dataL G Z xs) = (List.range (G * (Z + 1) + M)).map (fillF G Z fun t => xs.getD (dp Z t) 0) := by
    unfold fillL
    refine List.map_congr_left fun p hp => ?_
    refine fill_congr (M := M) (fun t ht => ?_) (List.mem_range.mp hp)
    unfold dataL
    exact getD_range _ ht
  rw [e]
  constructor
  · intro h p hp
    have := congrArg (fun l : List Int => l.getD p 0) h
    simp only [getD_range _ hp] at this
    exact this
  · intro h
    conv => rhs; rw [list_getD xs]
    rw [hl]
    exact List.map_congr_left fun p hp => h p (List.mem_range.mp hp)
/-- the products of both, each with each, added up -/
def dot (fs ns : List Int) : Int := (List.zipWith (· * ·) fs ns).sum
def spSop (K : PySem.W.Frag) : Sp := fun vs H Q _ => ∃ (a b : Addr) (fs ns : List Int), vs = [.ref a, .ref b] ∧ SqL K H a (fs.map V.int) ∧ SqL K H b (ns.map V.int) ∧ fs.length ≤ 100000 ∧ (∀ f ∈ fs, -(2 ^ 64) < f ∧ f < 2 ^ 64) ∧
  ∀ H', Same H H' → Q (.int (dot fs ns % 97)) H'
theorem zip_range {α β γ : Type} [Inhabited α] [Inhabited β] (f : α → β → γ) (xs : List α) (ys : List β) : (List.range (min xs.length ys.length)).map (fun i => f (xs.getD i default) (ys.getD i default)) = List.zipWith f xs ys := by
  apply List.ext_getElem?
  intro i
  rw [List.getElem?_map, List.getElem?_zipWith]
  by_cases h : i < min xs.length ys.length
  · rw [List.getElem?_range h]
    have h1 : i < xs.length := by omega
    have h2 : i < ys.length := by omega
    simp [List.getD, h1, h2]
  · have e : (List.range (min xs.length ys.length))[i]? = none := by rw [List.getElem?_eq_none_iff, List.length_range]; omega
    rw [e]
    by_cases h1 : i < xs.length
    · have h2 : ys[i]? = none := by rw [List.getElem?_eq_none_iff]; omega
      rw [h2]
      cases xs[i]? <;> rfl
    · have h2 : xs[i]? = none := by rw [List.getElem?_eq_none_iff]; omega
      rw [h2]
      rfl
theorem ok_sop (T : Txt K mg) (F : At K mg "sum_of_products" s_sum_of_products ["factors", "numbers"]) : Dn P w K mg base CX0 1 "sum_of_products" ["factors", "numbers"] (spSop K) := by
  refine F.ok sc_sum_of_products (fun vs H Q E h => ?_) (fun f cdv A outer s H vs Q E hr h => ?_)
  · obtain ⟨a, b, fs, ns, rfl, _⟩ := h
    rfl
  · obtain ⟨a, b, fs, ns, rfl, ha, hb, hl, hf, q⟩ := h
    refine ⟨_, (pss_one (ps_ret (pe_op op_mod (pe_callB (r := rSum K) (cr_sum rfl) (by rfl) T.n_sum (by decide +kernel) (pa_cons (pe_lc (own := [("factor", 2), ("number", 3)]) (g := (gTup K 2 (gCons (gName 2) (gCons (gName 3) gNil)))) (by rfl) sc_sum_of_products.nd (pi_zip (by rfl) T.n_zip (pa_cons (pv 0) (pa_cons (pv 1) pa_nil))) (blkOk_by (own := [("factor", 2), ("number", 3)]) (N := ["factors", "numbers", "factor", "number"]) (sc := defScope s_sum_of_products) (by decide +kernel)) (fun _ _ _ _ _ => (pg_tup rfl (pgs_cons (pg_name (i := 2) sc_sum_of_products.nd rfl (by first | exact Or.inl rfl | exact Or.inr rfl) (by first | exact Or.inr rfl | exact Or.inl rfl)) (pgs_cons (pg_name (i := 3) sc_sum_of_products.nd rfl (by first | exact Or.inl rfl | exact Or.inr rfl) (by first | exact Or.inr rfl | exact Or.inl rfl)) pgs_nil)))) (fun _ _ _ _ _ => pts_nil) (fun _ _ _ _ _ => (pe_op op_mul (pv 2) (pv 3)))) pa_nil)) (pe_glob rfl T.g_PRIME (by exact T.v_PRIME))))), ?_⟩
    refine ⟨_, rfl, _, rfl, _, _, _, _, rfl, ha, hb, fun D nD => lc_ints (walk_zip rfl) (fun i => fs.getD i default * ns.getD i default) nD ?_ (fun H' s => ⟨s.seq ha, s.seq hb⟩) ?_ ?_⟩
    · rw [List.length_map, List.length_map]
      exact small1000' (by omega)
    · intro i x H1 H2 R R' hi s1 y k
      obtain ⟨t, x1, x2, rfl, nt, rfl, e1, e2⟩ := y
      have z1 : i < fs.length := by simp at hi; omega
      have z2 : i < ns.length := by simp at hi; omega
      obtain rfl := map_get z1 e1
      obtain rfl := map_get z2 e2
      refine ⟨_, _, rfl, SqT.of upd_same, rfl, _, _, rfl, _, _, rfl, rfl, rfl, _, rfl, _, rfl, _, _, rfl, rfl, .inl (hf _ (getD_in z1)), k _ (Same.new nt)⟩
    · intro H1 s1 e1
      refine ⟨_, _, rfl, SqL.of e1, ?_⟩
      refine ⟨_, _, rfl, rfl, (by show (0 : Int) < 97; decide), ?_⟩
      have z := q H1 s1
      unfold dot at z
      rw [← zip_range] at z
      simpa using z
theorem local_bd (g z p i : Int) : 0 ≤ localZ g z p i ∧ localZ g z p i ≤ 96 := by
  unfold localZ
  split <;> (try split) <;> (try split) <;> decide
theorem over_bd (g z p n : Int) : 0 ≤ overZ g z p n ∧ overZ g z p n ≤ 96 := by
  unfold overZ
  split
  · split <;> decide
  · split
    · decide
    · omega
theorem checks_bd {g z m : Int} {row : List Int} (h : row ∈ checksM g z m) : ∀ f ∈ row, 0 ≤ f ∧ f ≤ 96 := by
  intro f hf
  unfold checksM at h
  rcases List.mem_append.mp h with h | h
  · obtain ⟨i, _, rfl⟩ := List.mem_map.mp h
    obtain ⟨p, _, rfl⟩ := List.mem_map.mp hf
    exact local_bd ..
  · obtain ⟨i, _, rfl⟩ := List.mem_map.mp h
    obtain ⟨p, _, rfl⟩ := List.mem_map.mp hf
    exact over_bd ..
theorem checks_row {g z m : Int} {row : List Int} (h : row ∈ checksM g z m) : row.length = (manyZ g z m).toNat := by
  unfold checksM at h
  rcases List.mem_append.mp h with h | h
  · obtain ⟨i, _, rfl⟩ := List.mem_map.mp h
    unfold rowL
    rw [List.length_map, List.length_range]
  · obtain ⟨i, _, rfl⟩ := List.mem_map.mp h
    unfold rowO
    rw [List.length_map, List.length_range]
theorem checks_len (g z m : Int) : (checksM g z m).length = g.toNat + m.toNat := by
  unfold checksM
  rw [List.length_append, List.length_map, List.length_map, List.length_range, List.length_range]
theorem Mould.nat {K : PySem.W.Frag} {H : Hp} {a : Addr} {g z m : Int} (M : Mould K H a g z m) : ∃ G Z N : Nat, g = G ∧ z = Z ∧ m = N := by
  obtain ⟨_, g1, g4, z1, z4, m0, m2⟩ := M
  exact ⟨g.toNat, z.toNat, m.toNat, by omega, by omega, by omega⟩
-- F
theorem dat_listM {G Z N : Nat} (hG : G ≤ 4) (hZ : Z ≤ 4) (hN : N ≤ 2) : ((List.range (G * (Z + 1) + N)).filter fun i : Nat => isData (G : Int) Z (i : Int)) = (List.range (G * Z)).map (dp Z) := by
  have key : ∀ G : Fin 5, ∀ Z : Fin 5, ∀ N : Fin 3, ((List.range (G.val * (Z.val + 1) + N.val)).filter fun i : Nat => isData (G.val : Int) (Z.val : Int) (i : Int)) = (List.range (G.val * Z.val)).map (dp Z.val) := by decide +kernel
  exact key ⟨G, by omega⟩ ⟨Z, by omega⟩ ⟨N, by omega⟩
def placesL (G Z : Nat) : List Int := (List.range (G * Z)).map fun t => ((dp Z t : Nat) : Int)
def spPlaces (K : PySem.W.Frag) : Sp := fun vs H Q _ => ∃ (a : Addr) (g s m : Int), vs = [.ref a] ∧ Mould K H a g s m ∧ ∀ r H', Same H H' → H r = none → H' r = some (.lst ((placesL g.toNat s.toNat).map V.int)) → Q (.ref r) H'
theorem kind_head {g s p : Int} : ∃ w r, kindV g s p = .str w :: r ∧ (w = "data" ↔ isData g s p = true) := by
  unfold kindV isData
  by_cases h1 : p / (s + 1) ≥ g
  · rw [if_pos h1, decide_eq_false (by omega)]
    exact ⟨_, _, rfl, by rw [Bool.false_and]; decide⟩
  · rw [if_neg h1, decide_eq_true (by omega)]
    by_cases h2 : p % (s + 1) = s
    · rw [if_pos h2, decide_eq_false (by simpa using h2)]
      exact ⟨_, _, rfl, by decide⟩
    · rw [if_neg h2, decide_eq_true h2]
      exact ⟨_, _, rfl, by decide⟩
theorem ok_places (T : Txt K mg) {dv : V} (D_count : DnK P w K mg base CX0 5 "count" [] "shape" dv (spCount K)) (D_kind_of : DnK P w K mg base CX0 8 "kind_of" ["place"] "shape" dv (spKind K)) (F : AtK K mg "data_places" s_data_places [] "shape" dv) : DnK P w K mg base CX0 9 "data_places" [] "shape" dv (spPlaces K) := by
  refine F.ok sc_data_places (fun vs H Q E h => ?_) (fun f cdv A outer s H vs Q E hr h => ?_)
  · obtain ⟨a, g, s, m, rfl, _⟩ := h
    rfl
  · obtain ⟨a, g, z, m, rfl, M, q⟩ := h
    obtain ⟨G, Z, N, rfl, rfl, rfl⟩ := M.nat
    obtain ⟨ha, g1, g4, z1, z4, m0, m2⟩ := id M
    obtain ⟨l1, l2, l3, l4⟩ := M.le
    have mz : manyZ (G : Int) Z N = ((G * (Z + 1) + N : Nat) : Int) := by have := many_nat G Z N; omega
    refine ⟨_, (pss_cons (ps_set (i := 1) sc_data_places.nd rfl (by first | exact Or.inl rfl | exact Or.inr rfl) (pe_callTy cr_range1 (by rfl) T.n_range (by decide +kernel) (pa_cons (pe_callW0 D_count (by first | exact hr | exact hr.mono (by decide)) (pv 0)) pa_nil)))
  (pss_one (ps_ret (pe_lc (own := [("place", 2)]) (g := (gName 2)) (by rfl) sc_data_places.nd (pi_rng (pv 1)) (blkOk_by (own := [("place", 2)]) (N := ["shape", "places", "place"]) (sc := defScope s_data_places) (by decide +kernel)) (fun _ _ _ _ _ => (pg_name (i := 2) sc_data_places.nd rfl (by first | exact Or.inl rfl | exact Or.inr rfl) (by first | exact Or.inr rfl | exact Or.inl rfl))) (fun _ _ _ _ _ => (pts_one (pt_cmpR op_eq (pe_ix (r := rIxT K) ix_tup (pe_callW D_kind_of (by first | exact hr | exact hr.mono (by decide)) (pa_cons (pv 2) pa_nil) (pv 0)) pe_int (fun _ _ => rfl)) pe_str (nomark _)))) (fun _ _ _ _ _ => (pv 2)))))), ?_⟩
    refine ⟨_, rfl, rfl, a, G, Z, N, rfl, M, _, rfl, fun r nr => ?_⟩
    have sr := Same.new (o := .rng 0 (manyZ G Z N)) nr
    have er : upd H r (.rng 0 (manyZ G Z N)) r = some (.rng 0 (manyZ G Z N)) := upd_same
    have M1 := M.same sr
    generalize upd H r (.rng 0 (manyZ G Z N)) = H1 at *
    refine ⟨_, rfl, r, 0, _, rfl, er, ⟨by omega, by omega, by omega, by omega⟩, fun D nD => ?_⟩
    refine lc_filt (fun i : Nat => V.int i) walk_range (fun i => i) (fun i => isData G Z i) nD (small1000' (by omega)) (fun _ _ => trivial) ?_ ?_
    · intro i x H2 H3 R R' hi s2 y k1 k2
      obtain ⟨rfl, rfl⟩ := y
      refine ⟨rfl, _, rfl, _, rfl, rfl, rfl, _, a, G, Z, N, rfl, M1.same s2, by omega, by omega, fun t H4 s4 et => ?_⟩
      rw [Int.zero_add] at et
      obtain ⟨w, rr, ek, iw⟩ := kind_head (g := (G : Int)) (s := (Z : Int)) (p := (i : Int))
      rw [ek] at et
      have i0 : V.int (0 + (i : Int)) = V.int (i : Int) := by rw [Int.zero_add]
      refine ⟨_, _, _, .str w, rfl, rfl, SqT.of et, at_of (j := 0) rfl rfl, rfl, _, rfl, iteD (fun h => ?_) fun h => ?_⟩
      · refine ⟨_, rfl, ?_⟩
        show R (V.int (0 + (i : Int))) H4
        rw [i0]
        exact k1 H4 s4 (iw.mp (V.str.inj h))
      · refine k2 H4 s4 ?_
        cases hd : isData G Z i with
        | false => rfl
        | true => exact absurd (congrArg V.str (iw.mpr hd)) h
    · intro H2 s2 e2
      have e3 : (manyZ (G : Int) Z N - 0).toNat = G * (Z + 1) + N := by omega
      rw [List.map_id', e3, dat_listM (by omega) (by omega) (by omega), List.map_map] at e2
      refine q D H2 (Same.trans sr s2) (Same.low sr nD) ?_
      rw [e2, Int.toNat_natCast, Int.toNat_natCast]
      unfold placesL
      rw [List.map_map]
      rfl
theorem in_places {G Z N p : Nat} (hG : G ≤ 4) (hZ : Z ≤ 4) (hN : N ≤ 2) (hp : p < G * (Z + 1) + N) : inV (.int p) ((placesL G Z).map V.int) = isData G Z p := by
  have e := dat_listM hG hZ hN
  unfold inV placesL
  rw [Bool.eq_iff_iff, List.any_eq_true]
  constructor
  · rintro ⟨v, hv, h⟩
    simp only [List.mem_map] at hv
    obtain ⟨q, ⟨t, ht, rfl⟩, rfl⟩ := hv
    have hm : dp Z t ∈ (List.range (G * Z)).map (dp Z) := List.mem_map_of_mem ht
    rw [← e, List.mem_filter] at hm
    have h : (((dp Z t : Nat) : Int) == (p : Int)) = true := h
    rw [beq_iff_eq] at h
    rw [show p = dp Z t by omega]
    exact hm.2
  · intro h
    have hm : p ∈ (List.range (G * (Z + 1) + N)).filter fun i : Nat => isData (G : Int) Z (i : Int) := List.mem_filter.mpr ⟨List.mem_range.mpr hp, h⟩
    rw [e] at hm
    obtain ⟨t, ht, rfl⟩ := List.mem_map.mp hm
    refine ⟨_, List.mem_map_of_mem (List.mem_map_of_mem ht), ?_⟩
    show (((dp Z t : Nat) : Int) == ((dp Z t : Nat) : Int)) = true
    rw [beq_iff_eq]
theorem flat_ints (xs : List Int) : (xs.map V.int).all flatV = true := by
  rw [List.all_eq_true]
  intro v hv
  obtain ⟨x, _, rfl⟩ := List.mem_map.mp hv
  rfl
-- F
theorem range_blk (F : Nat → Int) (i Z : Nat) : (List.range ((i + 1) * (Z + 1))).map F = ((List.range (i * (Z + 1))).map F ++ (List.range Z).map fun j => F (i * (Z + 1) + j)) ++ [F (i * (Z + 1) + Z)] := by
  rw [Nat.succ_mul, List.range_add, List.map_append, List.range_succ]
  simp [Function.comp_def]
theorem cut_ints {ds : List Int} {lo n : Nat} {a b : Int} (ha : a = lo) (hb : b = ((lo + n : Nat) : Int)) (h : lo + n ≤ ds.length) : cutV (ds.map V.int) (some a) (some b) = ((List.range n).map fun j => ds.getD (lo + j) 0).map V.int := by
  subst ha hb
  unfold cutV
  have e1 : HT.sIx (ds.map V.int).length 0 (some (lo : Int)) = lo := by
    unfold HT.sIx
    rw [List.length_map]
    simp only
    split <;> omega
  have e2 : HT.sIx (ds.map V.int).length (ds.map V.int).length (some ((lo + n : Nat) : Int)) = lo + n := by
    unfold HT.sIx
    rw [List.length_map]
    simp only
    split <;> omega
  rw [e1, e2]
  apply List.ext_getElem
  · simp
    omega
  · intro i h1 h2
    have hi : i < n := by simpa using h2
    have h3 : lo + i < ds.length := by omega
    simp [List.getD, h3]
/-- what an over sum has behind i groups and j numbers -/
def ovI (Z : Nat) (d : Nat → Int) (n i : Nat) : Int := sm (fun i => sm (fun j => sgn i j ^ (n + 1) * d (i * Z + j)) Z) i
def ovJ (Z : Nat) (d : Nat → Int) (n i j : Nat) : Int := ovI Z d n i + sm (fun j => sgn i j ^ (n + 1) * d (i * Z + j)) j
theorem sgn_at (i : Nat) (h : i < 4) : atI ([.int 1, .int 11, .int 40, .int 30] : List V) (0 + (i : Int)) = some (.int (([1, 11, 40, 30] : List Int).getD i 0)) := by
  obtain rfl | rfl | rfl | rfl : i = 0 ∨ i = 1 ∨ i = 2 ∨ i = 3 := by omega
  all_goals rfl
theorem sgn_bd {i j : Nat} (h : j < 5) : 0 ≤ sgn i j ∧ sgn i j ≤ 50 := by
  unfold sgn
  have k2 : ∀ i : Nat, 0 ≤ ([1, 11, 40, 30] : List Int).getD i 0 ∧ ([1, 11, 40, 30] : List Int).getD i 0 ≤ 40
    | 0 | 1 | 2 | 3 => by decide
    | n + 4 => ⟨Int.le_refl 0, by show (0 : Int) ≤ 40; decide⟩
  have := k2 i
  omega
def spFilled (K : PySem.W.Frag) : Sp := fun vs H Q _ => ∃ (a b : Addr) (g s m : Int) (ds : List Int), vs = [.ref a, .ref b] ∧ Mould K H a g s m ∧ SqL K H b (ds.map V.int) ∧ ds.length = g.toNat * s.toNat ∧
  ∀ r H', Same H H' → H r = none → H' r = some (.lst ((fillL g.toNat s.toNat m.toNat ds).map V.int)) → Q (.ref r) H'
theorem ok_filled (T : Txt K mg) (F : At K mg "_law_filled" s__law_filled ["mould", "data"]) : Dn P w K mg base CX0 1 "_law_filled" ["mould", "data"] (spFilled K) := by
  refine F.ok sc__law_filled (fun vs H Q E h => ?_) (fun f cdv A outer s H vs Q E hr h => ?_)
  · obtain ⟨a, b, g, s, m, ds, rfl, _⟩ := h
    rfl
  · obtain ⟨a, b, g, z, m, ds, rfl, M, hb, hl, q⟩ := h
    obtain ⟨G, Z, N, rfl, rfl, rfl⟩ := M.nat
    simp only [Int.toNat_natCast] at hl q
    obtain ⟨ha, g1, g4, z1, z4, m0, m2⟩ := id M
    have gz : G * Z ≤ 16 := Nat.mul_le_mul (show G ≤ 4 by omega) (show Z ≤ 4 by omega)
    have gz2 : G * (Z + 1) ≤ 20 := Nat.mul_le_mul (show G ≤ 4 by omega) (show Z + 1 ≤ 5 by omega)
    refine ⟨_, (pss_cons (ps_asg (pv 0) (pg_tup (by rfl) (pgs_cons (pg_name (i := 2) sc__law_filled.nd rfl (by first | exact Or.inl rfl | exact Or.inr rfl)) (pgs_cons (pg_name (i := 3) sc__law_filled.nd rfl (by first | exact Or.inl rfl | exact Or.inr rfl)) (pgs_cons (pg_name (i := 4) sc__law_filled.nd rfl (by first | exact Or.inl rfl | exact Or.inr rfl)) pgs_nil)))))
  (pss_cons (ps_set (i := 5) sc__law_filled.nd rfl (by first | exact Or.inl rfl | exact Or.inr rfl) (pe_lstF pa_nil))
  (pss_cons (ps_set (i := 6) sc__law_filled.nd rfl (by first | exact Or.inl rfl | exact Or.inr rfl) (pe_lstF (pa_cons pe_int (pa_cons pe_int pa_nil))))
  (pss_cons (ps_for PassesOwn.never rfl (pi_range1 (by rfl) T.n_range (pa_cons (pv 2) pa_nil)) (pg_name (i := 7) sc__law_filled.nd rfl (by first | exact Or.inl rfl | exact Or.inr rfl))
  (pss_cons (ps_set (i := 8) sc__law_filled.nd rfl (by first | exact Or.inl rfl | exact Or.inr rfl) (pe_slice (r := rSlLF K) sl_listF (pv 1) (po_some (pe_op op_mul (pv 7) (pv 3))) (po_some (pe_op op_add (pe_op op_mul (pv 7) (pv 3)) (pv 3)))))
  (pss_cons (ps_set (i := 5) sc__law_filled.nd rfl (by first | exact Or.inl rfl | exact Or.inr rfl) (pe_op op_catF (pe_op op_catF (pv 5) (pv 8)) (pe_lstF (pa_cons (pe_op op_mod (pe_callB (r := rSum K) (cr_sum rfl) (by rfl) T.n_sum (by decide +kernel) (pa_cons (pv 8) pa_nil)) pe_int) pa_nil))))
  (pss_one (ps_for PassesOwn.never rfl (pi_range1 (by rfl) T.n_range (pa_cons (pv 3) pa_nil)) (pg_name (i := 9) sc__law_filled.nd rfl (by first | exact Or.inl rfl | exact Or.inr rfl))
  (pss_cons (ps_set (i := 10) sc__law_filled.nd rfl (by first | exact Or.inl rfl | exact Or.inr rfl) (pe_op op_add (pe_ix (r := rIxL K) ix_list (pe_lstF (pa_cons pe_int (pa_cons pe_int (pa_cons pe_int (pa_cons pe_int pa_nil))))) (pv 7) (fun _ _ => rfl)) (pv 9)))
  (pss_one (ps_set (i := 6) sc__law_filled.nd rfl (by first | exact Or.inl rfl | exact Or.inr rfl) (pe_lstF (pa_cons (pe_op op_add (pe_ix (r := rIxL K) ix_list (pv 6) pe_int (fun _ _ => rfl)) (pe_op op_mul (pv 10) (pe_ix (r := rIxL K) ix_list (pv 8) (pv 9) (fun _ _ => rfl)))) (pa_cons (pe_op op_add (pe_ix (r := rIxL K) ix_list (pv 6) pe_int (fun _ _ => rfl)) (pe_op op_mul (pe_op op_mul (pv 10) (pv 10)) (pe_ix (r := rIxL K) ix_list (pv 8) (pv 9) (fun _ _ => rfl)))) pa_nil)))))))))))
  (pss_one (ps_ret (pe_op op_catF (pv 5) (pe_lc (own := [("one", 11)]) (g := (gName 11)) (by rfl) sc__law_filled.nd (pi_list (pe_slice (r := rSlLF K) sl_listF (pv 6) po_none (po_some (pv 4)))) (blkOk_by (own := [("one", 11)]) (N := ["mould", "data", "groups", "size", "sums", "found", "overs", "group", "own", "at", "sign", "one"]) (sc := defScope s__law_filled) (by decide +kernel)) (fun _ _ _ _ _ => (pg_name (i := 11) sc__law_filled.nd rfl (by first | exact Or.inl rfl | exact Or.inr rfl) (by first | exact Or.inr rfl | exact Or.inl rfl))) (fun _ _ _ _ _ => pts_nil) (fun _ _ _ _ _ => (pe_op op_mod (pv 11) pe_int)))))))))), ?_⟩
    refine ⟨_, rfl, _, _, rfl, ha, rfl, _, _, rfl, _, _, rfl, _, _, rfl, rfl, ?_⟩
    refine ⟨(by show 0 ≤ sizeLine; decide), fun fo H1 nfo s1 efo => ?_⟩
    refine ⟨(by show 2 ≤ sizeLine; decide), fun ov H2 nov s2 eov => ?_⟩
    refine ⟨_, rfl, _, rfl, by omega, by omega, ?_⟩
    refine for_range (lo := 0) (fun i σ H' => ∃ fo ov v7 v8 v9 v10 v11, σ = [some (.ref a), some (.ref b), some (.int G), some (.int Z), some (.int N), some (.ref fo), some (.ref ov), v7, v8, v9, v10, v11] ∧ Same H H' ∧
      H' fo = some (.lst (((List.range (i * (Z + 1))).map (fillF G Z fun t => ds.getD t 0)).map V.int)) ∧ H' ov = some (.lst [.int (ovI Z (fun t => ds.getD t 0) 0 i), .int (ovI Z (fun t => ds.getD t 0) 1 i)]))
      ⟨fo, ov, none, none, none, none, none, rfl, Same.trans s1 s2, by rw [Nat.zero_mul]; exact s2 _ _ efo, eov⟩ ?_ ?_
    · rintro i σ H1 hi ⟨fo, ov, v7, v8, v9, v10, v11, rfl, p1, p2, p3⟩
      have hi4 : i < 4 := by omega
      have hiG : i < G := by omega
      have low : i * Z + Z ≤ ds.length := by
        have : (i + 1) * Z ≤ G * Z := Nat.mul_le_mul_right _ hiG
        rw [Nat.succ_mul] at this
        omega
      refine ⟨_, rfl, _, rfl, _, rfl, _, _, rfl, rfl, .inr ⟨by omega, by omega⟩, _, rfl, _, rfl, _, rfl, _, _, rfl, rfl, .inr ⟨by omega, by omega⟩, _, rfl, _, _, rfl, rfl, _, rfl, _, _, rfl, p1.seq hb, fun ow H2 now s2 e1o => ?_⟩
      have elo : (0 + (i : Int)) * (Z : Int) = ((i * Z : Nat) : Int) := by rw [Int.zero_add, Int.natCast_mul]
      rw [cut_ints (lo := i * Z) (n := Z) elo (by rw [elo]; omega) low] at e1o
      have gi : i * (Z + 1) ≤ G * (Z + 1) := Nat.mul_le_mul_right _ (by omega)
      refine ⟨_, rfl, _, rfl, _, _, _, _, rfl, rfl, s2 _ _ p2, e1o, ?_, fun c1 H3 nc1 s3 ec1 => ?_⟩
      · simp only [List.length_map, List.length_range]
        exact small1000' (by omega)
      refine ⟨_, rfl, _, _, rfl, SqL.of (s3 _ _ e1o), ?_⟩
      refine ⟨_, _, rfl, rfl, (by show (0 : Int) < 97; decide), (by show 1 ≤ sizeLine; decide), fun c2 H4 nc2 s4 ec2 => ?_⟩
      refine ⟨_, _, _, _, rfl, rfl, s4 _ _ ec1, ec2, ?_, fun c3 H5 nc3 s5 ec3 => ?_⟩
      · simp only [List.length_map, List.length_range, List.length_append]
        exact small1000' (by simp; omega)
      have p2' : H5 c3 = some (.lst (((List.range ((i + 1) * (Z + 1))).map (fillF G Z fun t => ds.getD t 0)).map V.int)) := by
        have eb : ((List.range Z).map fun j => fillF G Z (fun t => ds.getD t 0) (i * (Z + 1) + j)) = (List.range Z).map fun j => ds.getD (i * Z + j) 0 :=
          List.map_congr_left fun j hj => fill_data _ hiG (List.mem_range.mp hj)
        rw [range_blk, ec3, sum_range, eb, fill_local _ hiG]
        simp only [List.map_append, List.map_cons, List.map_nil]
      have p3' := s5 _ _ (s4 _ _ (s3 _ _ (s2 _ _ p3)))
      have e1o' := s5 _ _ (s4 _ _ (s3 _ _ e1o))
      have s15 := Same.trans p1 (Same.trans s2 (Same.trans s3 (Same.trans s4 s5)))
      refine ⟨_, rfl, _, rfl, by omega, by omega, ?_⟩
      refine for_range (lo := 0) (fun j σ H' => ∃ ov v9 v10 v11, σ = [some (.ref a), some (.ref b), some (.int G), some (.int Z), some (.int N), some (.ref c3), some (.ref ov), some (.int (0 + (i : Int))), some (.ref ow), v9, v10, v11] ∧ Same H5 H' ∧
        H' ov = some (.lst [.int (ovJ Z (fun t => ds.getD t 0) 0 i j), .int (ovJ Z (fun t => ds.getD t 0) 1 i j)]))
        ⟨ov, v9, v10, v11, rfl, Same.refl _, by unfold ovJ sm; rw [Int.add_zero, Int.add_zero]; exact p3'⟩ ?_ ?_
      · rintro j σ H6 hj ⟨ov, v9, v10, v11, rfl, r1, r2⟩
        have hjZ : j < Z := by omega
        have eat : atI (((List.range Z).map fun j => ds.getD (i * Z + j) 0).map V.int) (0 + (j : Int)) = some (.int (ds.getD (i * Z + j) 0)) := by
          rw [Int.zero_add]
          exact atI_nat (by simp [hjZ])
        refine ⟨(by show 4 ≤ sizeLine; decide), fun l1 H7 nl1 s7 el1 => ?_⟩
        refine ⟨_, rfl, _, _, _, _, rfl, rfl, SqL.of el1, sgn_at i hi4, _, rfl, _, _, rfl, rfl, ?_⟩
        have sg : ([1, 11, 40, 30] : List Int).getD i 0 + (0 + (j : Int)) = sgn i j := by rw [Int.zero_add]; rfl
        have sb := sgn_bd (i := i) (j := j) (by omega)
        have e7 := s7 _ _ r2
        have o7 := s7 _ _ (r1 _ _ e1o')
        refine ⟨_, rfl, _, _, _, _, rfl, rfl, SqL.of e7, rfl, _, rfl, _, rfl, _, rfl, _, _, _, _, rfl, rfl, SqL.of o7, eat, _, _, rfl, rfl, .inl ⟨by omega, by omega⟩, _, _, rfl, rfl, ?_⟩
        refine ⟨_, rfl, _, _, _, _, rfl, rfl, SqL.of e7, rfl, _, rfl, _, rfl, _, _, rfl, rfl, .inl ⟨by omega, by omega⟩, _, rfl, _, rfl, _, _, _, _, rfl, rfl, SqL.of o7, eat, _, _, rfl, rfl, .inl ⟨?_, ?_⟩, _, _, rfl, rfl, ?_⟩
        · rw [sg]
          have : 0 ≤ sgn i j * sgn i j := Int.mul_nonneg sb.1 sb.1
          omega
        · rw [sg]
          have : sgn i j * sgn i j ≤ 50 * 50 := Int.mul_le_mul sb.2 sb.2 sb.1 (by decide)
          omega
        refine ⟨(by show 2 ≤ sizeLine; decide), fun l2 H8 nl2 s8 el2 => ?_⟩
        refine ⟨_, _, _, _, rfl, Same.trans r1 (Same.trans s7 s8), ?_⟩
        rw [el2]
        unfold ovJ
        rw [sm, sm, sg, ← Int.add_assoc, ← Int.add_assoc]
        congr 4
        · rw [Int.pow_succ, Int.pow_zero, Int.one_mul]
        · rw [Int.pow_succ, Int.pow_succ]
          simp
      · rintro σ H6 ⟨ov, v9, v10, v11, rfl, r1, r2⟩
        refine ⟨_, _, _, _, _, _, _, rfl, Same.trans s15 r1, r1 _ _ p2', ?_⟩
        rw [r2, Int.toNat_natCast]
        rfl
    · rintro σ H1 ⟨fo, ov, v7, v8, v9, v10, v11, rfl, p1, p2, p3⟩
      rw [Int.toNat_natCast] at p2 p3
      refine ⟨_, rfl, _, rfl, _, rfl, _, rfl, _, _, rfl, SqL.of p3, fun c1 H2 nc1 s2 ec1 => ?_⟩
      have ecut : cutV [V.int (ovI Z (fun t => ds.getD t 0) 0 G), V.int (ovI Z (fun t => ds.getD t 0) 1 G)] none (some (N : Int)) = ((List.range N).map fun n => ovI Z (fun t => ds.getD t 0) n G).map V.int := by
        obtain rfl | rfl | rfl : N = 0 ∨ N = 1 ∨ N = 2 := by omega
        all_goals rfl
      rw [ecut] at ec1
      refine ⟨_, rfl, ⟨_, SqL.of ec1⟩, fun D nD => ?_⟩
      refine lc_ints walk_list (fun n => ovI Z (fun t => ds.getD t 0) n G % 97) nD (by simp; exact small1000' (by omega)) (fun H s => s.seq (SqL.of ec1)) ?_ ?_
      · intro n x H3 H4 R R' hn s3 y k
        obtain ⟨rfl, ex⟩ := y
        simp only [List.length_map, List.length_range] at hn
        have ex2 : x = .int (ovI Z (fun t => ds.getD t 0) n G) := by
          rw [List.getElem?_map, List.getElem?_map, List.getElem?_range hn] at ex
          exact (Option.some.inj ex).symm
        subst ex2
        exact ⟨rfl, _, rfl, _, _, rfl, rfl, (by show (0 : Int) < 97; decide), k _ (Same.refl _)⟩
      · intro H3 s3 e3
        simp only [List.length_map, List.length_range] at e3
        refine ⟨_, _, _, _, rfl, rfl, s3 _ _ (s2 _ _ p2), e3, ?_, fun r H4 nr s4 er => ?_⟩
        · simp only [List.length_map, List.length_range]
          exact small1000' (by omega)
        · refine q r H4 (Same.trans p1 (Same.trans s2 (Same.trans s3 s4))) (Same.low p1 (Same.low s2 (Same.low s3 nr))) ?_
          rw [er, ← List.map_append]
          congr 3
          unfold fillL
          rw [List.range_add, List.map_append, List.map_map]
          congr 1
          refine List.map_congr_left fun n _ => ?_
          exact (fill_over (G := G) (Z := Z) (fun t => ds.getD t 0)).symm
theorem fill_bd {G Z N : Nat} {ds : List Int} (hl : ds.length = G * Z) (hd : ∀ d ∈ ds, 0 ≤ d ∧ d ≤ 96) {x : Int} (h : x ∈ fillL G Z N ds) : 0 ≤ x ∧ x ≤ 96 := by
  unfold fillL at h
  obtain ⟨p, hp, rfl⟩ := List.mem_map.mp h
  rcases place_cases (List.mem_range.mp hp) with ⟨i, j, hi, hj, rfl⟩ | ⟨i, hi, rfl⟩ | ⟨t, ht, rfl⟩
  · rw [fill_data _ hi hj]
    have : (i + 1) * Z ≤ G * Z := Nat.mul_le_mul_right _ hi
    rw [Nat.succ_mul] at this
    have h : i * Z + j < ds.length := by omega
    rw [List.getD_eq_getElem?_getD, List.getElem?_eq_getElem h]
    exact hd _ (List.getElem_mem h)
  · rw [fill_local _ hi]
    omega
  · rw [fill_over]
    omega
theorem fill_len (G Z N : Nat) (ds : List Int) : (fillL G Z N ds).length = G * (Z + 1) + N := by
  unfold fillL
  rw [List.length_map, List.length_range]
theorem data_fill {G Z N : Nat} {ds : List Int} (hl : ds.length = G * Z) : dataL G Z (fillL G Z N ds) = ds := by
  conv => rhs; rw [list_getD ds]
  unfold dataL
  rw [hl]
  refine List.map_congr_left fun t ht => ?_
  have ht := List.mem_range.mp ht
  have hZ : 0 < Z := by
    cases Z with
    | zero => simp at ht
    | succ n => omega
  have e : t / Z * Z + t % Z = t := by rw [Nat.mul_comm]; exact Nat.div_add_mod t Z
  have hi : t / Z < G := (Nat.div_lt_iff_lt_mul hZ).mpr ht
  have hj : t % Z < Z := Nat.mod_lt _ hZ
  have hp : dp Z t < G * (Z + 1) + N := by
    have := blk_lt (Z := Z) (j := t % Z) hi (by omega)
    unfold dp
    omega
  unfold fillL
  rw [getD_range _ hp]
  unfold dp
  rw [fill_data _ hi hj, e]
theorem cut_sqt {K : PySem.W.Frag} {H : Hp} {p a : Addr} {xs : List V} (h : SqT K H a xs) (n : a ≠ p) : SqT K (cutP p H) a xs := by
  rcases h with (h | ⟨o, h⟩) | h
  · exact .inl (.inl (cutP_of h n))
  · exact .inl (.inr ⟨o, cutP_of h n⟩)
  · exact .inr h
theorem Mould.kp {K : PySem.W.Frag} {H H' : Hp} {a p : Addr} {g s m : Int} (h : Mould K H a g s m) (n : a ≠ p) (k : Kp p H H') : Mould K H' a g s m := ⟨Same.sqt (cutP_same p H') (Same.sqt k.cut (cut_sqt h.1 n)), h.2⟩
-- F
/-- the number of unit t at place p, as the dict of the fixed places tells it -/
theorem unit_get {G Z N t p : Nat} (ht : t < G * Z) (hp : p < G * (Z + 1) + N) :
    (valV (putK ((List.range (G + N)).map fun i => ((Sum.inl ((fx G Z i : Nat) : Int) : Key), V.int (((checksM G Z N).getD i []).getD (dp Z t) 0))) (Sum.inl ((dp Z t : Nat) : Int)) (.int 1)) (Sum.inl (p : Int))).getD (.int 0) = .int (unitF G Z t p) := by
  obtain ⟨i', j', hi', hj', rfl⟩ := t_cases ht
  rw [dp_at hj', valV_put]
  have uk : ∀ i j, i < j → j < G + N → (Sum.inl ((fx G Z i : Nat) : Int) : Key) ≠ Sum.inl ((fx G Z j : Nat) : Int) := fun i j h _ => inl_ne (fx_lt h)
  have at_fx : ∀ i, i < G + N → valV ((List.range (G + N)).map fun i => ((Sum.inl ((fx G Z i : Nat) : Int) : Key), V.int (((checksM G Z N).getD i []).getD (i' * (Z + 1) + j') 0))) (Sum.inl ((fx G Z i : Nat) : Int)) = some (.int (((checksM G Z N).getD i []).getD (i' * (Z + 1) + j') 0)) := fun i h => valV_range uk (Nat.le_refl _) h
  have hdp : i' * (Z + 1) + j' < G * (Z + 1) + N := by have := blk_lt (Z := Z) (j := j') hi' (by omega); omega
  have inl_iff : ∀ a b : Nat, (Sum.inl (a : Int) : Key) = Sum.inl (b : Int) ↔ a = b := fun a b => ⟨fun e => by have := Sum.inl.inj e; omega, fun e => by rw [e]⟩
  rcases place_cases hp with ⟨i, j, hi, hj, rfl⟩ | ⟨i, hi, rfl⟩ | ⟨n, hn, rfl⟩
  · rw [unit_data _ hi hj]
    by_cases h : i * Z + j = i' * Z + j'
    · have e1 := congrArg (· / Z) h
      simp only [bz_div hj, bz_div hj'] at e1
      subst e1
      have : j = j' := by omega
      subst this
      rw [if_pos rfl, if_pos rfl]
      rfl
    · rw [if_neg h, if_neg fun e => ?_, valV_none]
      · rfl
      · intro q hq
        obtain ⟨i2, h2, rfl⟩ := List.mem_map.mp hq
        intro e
        exact fx_not_data (List.mem_range.mp h2) hi hj ((inl_iff _ _).mp e)
      · have e2 := (inl_iff _ _).mp e
        have c1 := congrArg (· / (Z + 1)) e2
        have c2 := congrArg (· % (Z + 1)) e2
        simp only [blk_div (show j < Z + 1 by omega), blk_div (show j' < Z + 1 by omega), blk_mod (show j < Z + 1 by omega), blk_mod (show j' < Z + 1 by omega)] at c1 c2
        subst c1 c2
        exact h rfl
  · have hn : i * (Z + 1) + Z ≠ i' * (Z + 1) + j' := by rw [← fx_local hi]; exact fx_not_data (M := N) (by omega) hi' hj'
    rw [if_neg fun e => hn ((inl_iff _ _).mp e)]
    have := at_fx i (by omega)
    rw [fx_local hi] at this
    rw [this, unit_local hi hj']
    have hrow : (checksM (G : Int) Z N).getD i [] = rowL G Z N i := by
      unfold checksM
      rw [List.getD_eq_getElem?_getD, List.getElem?_append_left (by simp; exact hi)]
      simp [hi]
    rw [hrow]
    unfold rowL
    rw [many_nat, getD_range _ hdp, local_at hi' (by omega), if_neg (show ¬ j' = Z by omega)]
    rfl
  · have hn2 : G * (Z + 1) + n ≠ i' * (Z + 1) + j' := by rw [← fx_over]; exact fx_not_data (M := N) (by omega) hi' hj'
    rw [if_neg fun e => hn2 ((inl_iff _ _).mp e)]
    have := at_fx (G + n) (by omega)
    rw [fx_over] at this
    rw [this, unit_over hi' hj']
    have hrow : (checksM (G : Int) Z N).getD (G + n) [] = rowO G Z N n := by
      unfold checksM
      rw [List.getD_eq_getElem?_getD, List.getElem?_append_right (by simp)]
      simp [hn]
    rw [hrow]
    unfold rowO
    rw [many_nat, getD_range _ hdp, over_at n hi' (by omega), if_neg (show ¬ j' = Z by omega)]
    rfl
theorem fixed_list {G Z N : Nat} (hG : G ≤ 4) (hZ : Z ≤ 4) (hN : N ≤ 2) : ((List.range (G * (Z + 1) + N)).filter fun i : Nat => !isData (G : Int) Z (i : Int)) = (List.range (G + N)).map (fx G Z) := by
  have key : ∀ G : Fin 5, ∀ Z : Fin 5, ∀ N : Fin 3, ((List.range (G.val * (Z.val + 1) + N.val)).filter fun i : Nat => !isData (G.val : Int) (Z.val : Int) (i : Int)) = (List.range (G.val + N.val)).map (fx G.val Z.val) := by decide +kernel
  exact key ⟨G, by omega⟩ ⟨Z, by omega⟩ ⟨N, by omega⟩
/-- the units, as lists -/
def unitsL (G Z N : Nat) : List (List Int) := (List.range (G * Z)).map fun t => (List.range (G * (Z + 1) + N)).map (unitF G Z t)
def spUnits (K : PySem.W.Frag) : Sp := fun vs H Q _ => ∃ (a : Addr) (g s m : Int), vs = [.ref a] ∧ Mould K H a g s m ∧ ∀ r as H', Same H H' → Mat H' r as (unitsL g.toNat s.toNat m.toNat) → (∀ b ∈ r :: as, H b = none) → Q (.ref r) H'
theorem ok_units (T : Txt K mg) {dv : V} (D_count : DnK P w K mg base CX0 5 "count" [] "shape" dv (spCount K)) (D_checks : DnK P w K mg base CX0 11 "checks" [] "shape" dv (spChecks K)) (D_data_places : DnK P w K mg base CX0 9 "data_places" [] "shape" dv (spPlaces K)) (F : AtN K mg "units" s_units [] "shape") : DnN P w K mg base CX0 12 "units" [] "shape" (spUnits K) := by
  refine F.ok sc_units (fun vs H Q E h => ?_) (fun f cdv A outer s H vs Q E hr h => ?_)
  · obtain ⟨a, g, s, m, rfl, _⟩ := h
    rfl
  · obtain ⟨a, g, z, m, rfl, M, q⟩ := h
    obtain ⟨G, Z, N, rfl, rfl, rfl⟩ := M.nat
    obtain ⟨ha, g1, g4, z1, z4, m0, m2⟩ := id M
    obtain ⟨l1, l2, l3, l4⟩ := M.le
    have mz : manyZ (G : Int) Z N = ((G * (Z + 1) + N : Nat) : Int) := by have := many_nat G Z N; omega
    refine ⟨_, (pss_cons (ps_set (i := 1) sc_units.nd rfl (by first | exact Or.inl rfl | exact Or.inr rfl) (pe_callW0 D_checks (by first | exact hr | exact hr.mono (by decide)) (pv 0)))
  (pss_cons (ps_set (i := 2) sc_units.nd rfl (by first | exact Or.inl rfl | exact Or.inr rfl) (pe_callW0 D_data_places (by first | exact hr | exact hr.mono (by decide)) (pv 0)))
  (pss_cons (ps_set (i := 3) sc_units.nd rfl (by first | exact Or.inl rfl | exact Or.inr rfl) (pe_callTy cr_range1 (by rfl) T.n_range (by decide +kernel) (pa_cons (pe_callW0 D_count (by first | exact hr | exact hr.mono (by decide)) (pv 0)) pa_nil)))
  (pss_cons (ps_setLc (i := 5) (own := [("place", 4)]) (g := (gName 4)) (by rfl) sc_units.nd rfl rfl (sw_true rfl rfl rfl (by decide +kernel)) (pi_rng (pv 3)) (blkOk_by (own := [("place", 4)]) (N := ["shape", "rows", "data", "places", "place", "fixed", "out", "one", "row", "numbers"]) (sc := defScope s_units) (by decide +kernel)) (fun _ _ _ _ _ => (pg_name (i := 4) sc_units.nd rfl (by first | exact Or.inl rfl | exact Or.inr rfl) (by first | exact Or.inr rfl | exact Or.inl rfl))) (fun _ _ _ _ _ => (pts_one (pt_cmpR (r := rIn K true) op_notIn_seq (pv 4) (pv 2) rfl))) (fun _ _ _ _ _ => (pv 4)))
  (pss_cons (ps_set (i := 6) sc_units.nd rfl (by first | exact Or.inl rfl | exact Or.inr rfl) (pe_lstF pa_nil))
  (pss_cons (ps_for PassesOwn.never rfl (pi_list (pv 2)) (pg_name (i := 7) sc_units.nd rfl (by first | exact Or.inl rfl | exact Or.inr rfl))
  (pss_cons (ps_set (i := 9) sc_units.nd rfl (by first | exact Or.inl rfl | exact Or.inr rfl) (pe_dc (own := [("place", 4), ("row", 8)]) (g := (gTup K 2 (gCons (gName 4) (gCons (gName 8) gNil)))) (by rfl) sc_units.nd (pi_zip (by rfl) T.n_zip (pa_cons (pv 5) (pa_cons (pv 1) pa_nil))) (blkOk_by (own := [("place", 4), ("row", 8)]) (N := ["shape", "rows", "data", "places", "place", "fixed", "out", "one", "row", "numbers"]) (sc := defScope s_units) (by decide +kernel)) (fun _ _ _ _ _ => (pg_tup rfl (pgs_cons (pg_name (i := 4) sc_units.nd rfl (by first | exact Or.inl rfl | exact Or.inr rfl) (by first | exact Or.inr rfl | exact Or.inl rfl)) (pgs_cons (pg_name (i := 8) sc_units.nd rfl (by first | exact Or.inl rfl | exact Or.inr rfl) (by first | exact Or.inr rfl | exact Or.inl rfl)) pgs_nil)))) (fun _ _ _ _ _ => pts_nil) (fun _ _ _ _ _ => (pv 4)) (fun _ _ _ _ _ => (pe_ix (r := rIxL K) ix_list (pv 8) (pv 7) (fun _ _ => rfl)))))
  (pss_cons (ps_dput (hu1 hr.units) (pv 9) (pv 7) pe_int rfl)
  (pss_one (ps_expr (pe_bmK K PySem.F.plainAttrs_list PySem.F.slot_list_append PySem.F.type_list_append mt_append (pv 6) (pa_cons (pe_lc (own := [("place", 4)]) (g := (gName 4)) (by rfl) sc_units.nd (pi_rng (pv 3)) (blkOk_by (own := [("place", 4)]) (N := ["shape", "rows", "data", "places", "place", "fixed", "out", "one", "row", "numbers"]) (sc := defScope s_units) (by decide +kernel)) (fun _ _ _ _ _ => (pg_name (i := 4) sc_units.nd rfl (by first | exact Or.inl rfl | exact Or.inr rfl) (by first | exact Or.inr rfl | exact Or.inl rfl))) (fun _ _ _ _ _ => pts_nil) (fun _ _ _ _ _ => (pe_dget2 (hu1 hr.units) (pv 9) (pv 4) pe_int ⟨rfl, rfl, rfl, rfl⟩))) pa_nil)))))))
  (pss_one (ps_ret (pv 6))))))))), ?_⟩
    refine ⟨_, rfl, rfl, a, G, Z, N, rfl, M, fun ro rs H1 s1 MC fR => ?_⟩
    refine ⟨_, rfl, rfl, a, G, Z, N, rfl, M.same s1, fun da H2 s2 nda eda => ?_⟩
    simp only [Int.toNat_natCast] at eda q
    have s02 := Same.trans s1 s2
    refine ⟨_, rfl, rfl, a, G, Z, N, rfl, M.same s02, _, rfl, fun r nr => ?_⟩
    have sr := Same.new (o := .rng 0 (manyZ G Z N)) nr
    have er : upd H2 r (.rng 0 (manyZ G Z N)) r = some (.rng 0 (manyZ G Z N)) := upd_same
    have M1 := (M.same s02).same sr
    have MC1 := (MC.same s2).same sr
    replace eda := sr _ _ eda
    generalize upd H2 r (.rng 0 (manyZ G Z N)) = H3 at *
    have hown : SqL K H3 da ((placesL G Z).map V.int) := SqL.of eda
    have lp : (placesL G Z).length = G * Z := by
      unfold placesL
      rw [List.length_map, List.length_range]
    have gz : G * Z ≤ 16 := Nat.mul_le_mul (show G ≤ 4 by omega) (show Z ≤ 4 by omega)
    refine ⟨_, rfl, r, 0, _, rfl, er, ⟨by omega, by omega, by omega, by omega⟩, fun D nD => ?_⟩
    refine lc_filt (fun i : Nat => V.int i) walk_range (fun i => i) (fun i => !isData G Z i) nD (small1000' (by omega)) (fun _ _ => trivial) ?_ ?_
    · intro i x H4 H5 R R' hi s4 y k1 k2
      obtain ⟨rfl, rfl⟩ := y
      have ip := in_places (G := G) (Z := Z) (N := N) (by omega) (by omega) (by omega) (p := i) (by omega)
      have i0 : V.int (0 + (i : Int)) = V.int (i : Int) := by rw [Int.zero_add]
      refine ⟨rfl, _, rfl, _, rfl, _, _, rfl, .inl (s4.seq hown), rfl, flat_ints _, ?_⟩
      show ∃ k, V.bl (!inV (V.int (0 + (i : Int))) _) = V.bl k ∧ _
      rw [i0, ip]
      have k1' : ∀ H6, Same H5 H6 → (!isData (G : Int) Z i) = true → R (V.int (0 + (i : Int))) H6 := by rw [i0]; exact k1
      refine ⟨_, rfl, iteBn (fun h2 => ?_) fun h2 => ?_⟩
      · exact ⟨_, rfl, k1' _ (Same.refl _) (by rw [h2]; rfl)⟩
      · exact k2 _ (Same.refl _) (by rw [h2]; rfl)
    intro H4 s4 e4
    have e5 : (manyZ (G : Int) Z N - 0).toNat = G * (Z + 1) + N := by omega
    rw [List.map_id', e5, fixed_list (by omega) (by omega) (by omega), List.map_map] at e4
    refine ⟨Nat.zero_le _, fun out H5 nout s5 eout => ?_⟩
    have s35 := Same.trans s4 s5
    refine ⟨_, rfl, _, rfl, ⟨_, s35.seq hown⟩, ?_⟩
    have fixe := s5 _ _ e4
    have MC5 := MC1.same s35
    have al : rs.length = G + N := by rw [MC.len, checks_len]; omega
    have lf : ((List.range (G + N)).map ((fun i : Nat => V.int (i : Int)) ∘ fx G Z)).length = G + N := by rw [List.length_map, List.length_range]
    refine for_list (xs := (placesL G Z).map V.int) (fun t σ H' => ∃ v4 v7 v8 v9, σ = [some (.ref a), some (.ref ro), some (.ref da), some (.ref r), v4, some (.ref D), some (.ref out), v7, v8, v9] ∧ Same H4 H' ∧ ∃ as, Mat H' out as ((List.range t).map fun t => (List.range (G * (Z + 1) + N)).map (unitF G Z t)) ∧ ∀ b ∈ as, H4 b = none)
      ⟨none, none, none, none, rfl, s5, [], Mat.nil eout, fun _ h => by cases h⟩ (fun i σ H' _ p => ?_) ?_ ?_
    · obtain ⟨_, _, _, _, _, p1, _⟩ := p
      exact p1.seq (s4.seq hown)
    · rintro t x σ H6 ex ⟨v4, v7, v8, v9, rfl, s46, as, p2, p3⟩
      rw [List.getElem?_map] at ex
      obtain ⟨one, eo, rfl⟩ := Option.map_eq_some_iff.mp ex
      have ht : t < G * Z := by rw [← lp]; exact (List.getElem?_eq_some_iff.mp eo).1
      have e1 : one = ((dp Z t : Nat) : Int) := by
        unfold placesL at eo
        rw [List.getElem?_map, List.getElem?_range ht] at eo
        exact (Option.some.inj eo).symm
      subst e1
      obtain ⟨i', j', hi', hj', et⟩ := t_cases ht
      have hdp : dp Z t < G * (Z + 1) + N := by rw [et, dp_at hj']; have := blk_lt (Z := Z) (j := j') hi' (by omega); omega
      have s36 := Same.trans s4 s46
      have MC6 := MC1.same s36
      refine ⟨_, rfl, _, rfl, _, _, _, _, rfl, SqL.of (s46 _ _ e4), SqL.of MC6.hd, fun nu nnu => ?_⟩
      refine dc_map (walk_zip rfl) (fun i => Sum.inl ((fx G Z i : Nat) : Int)) (fun i => V.int (((checksM G Z N).getD i []).getD (dp Z t) 0)) (fun i j h _ => inl_ne (fx_lt h)) nnu (by rw [lf, List.length_map, al, Nat.min_self]; exact Nat.lt_of_lt_of_le (m := 1000) (by omega) (by decide)) (fun H' s => ⟨SqL.of (s _ _ (s46 _ _ e4)), SqL.of (s _ _ MC6.hd)⟩) ?_ ?_
      · intro i x H7 H8 R R' hi s7 y k
        obtain ⟨tu, x1, x2, rfl, ntu, rfl, ex1, ex2⟩ := y
        rw [lf, List.length_map, al, Nat.min_self] at hi
        have ex1' : x1 = V.int ((fx G Z i : Nat) : Int) := by
          have := ex1
          simp only [List.getElem?_map, List.getElem?_range hi] at this
          exact (Option.some.inj this).symm
        obtain ⟨c, ec, ex2'⟩ : ∃ c, rs[i]? = some c ∧ x2 = V.ref c := by
          have := ex2
          simp only [List.getElem?_map] at this
          obtain ⟨c, e1, e2⟩ := Option.map_eq_some_iff.mp this
          exact ⟨c, e1, e2.symm⟩
        subst ex1' ex2'
        have hi2 : i < (checksM (G : Int) Z N).length := by rw [← MC.len, al]; exact hi
        have erow := MC6.get i c _ ec (List.getElem?_eq_getElem hi2)
        have lrow : (checksM (G : Int) Z N)[i].length = G * (Z + 1) + N := by rw [checks_row (List.getElem_mem hi2), many_nat]
        have eat : atI (((checksM (G : Int) Z N)[i]).map V.int) ((dp Z t : Nat) : Int) = some (.int (((checksM (G : Int) Z N).getD i []).getD (dp Z t) 0)) := by
          refine atI_nat ?_
          have h2 : dp Z t < (checksM (G : Int) Z N)[i].length := by omega
          rw [List.getElem?_map, List.getElem?_eq_getElem h2]
          simp [List.getD, hi2, h2]
        have sn := Same.new (o := .tup [V.int ((fx G Z i : Nat) : Int), V.ref c]) ntu
        refine ⟨_, _, rfl, SqT.of upd_same, rfl, _, _, rfl, _, _, rfl, rfl, rfl, _, rfl, _, rfl, _, rfl, _, _, _, _, rfl, rfl, SqL.of (sn _ _ (s7 _ _ erow)), eat, ?_⟩
        exact k _ sn
      · intro H7 s7 e7
        rw [lf, List.length_map, al, Nat.min_self] at e7
        have s47 := Same.trans s46 s7
        refine ⟨_, rfl, _, rfl, _, _, rfl, DPut.k (k := Sum.inl ((dp Z t : Nat) : Int)) e7 (by rw [List.length_map, List.length_range]; exact Nat.lt_of_lt_of_le (m := 1000) (by omega) (by decide)), ?_⟩
        have enu2 : upd H7 nu (.dK (putK ((List.range (G + N)).map fun i => ((Sum.inl ((fx G Z i : Nat) : Int) : Key), V.int (((checksM G Z N).getD i []).getD (dp Z t) 0))) (Sum.inl ((dp Z t : Nat) : Int)) (.int 1))) nu = some _ := upd_same
        have s68 : Same H6 (upd H7 nu (.dK (putK ((List.range (G + N)).map fun i => ((Sum.inl ((fx G Z i : Nat) : Int) : Key), V.int (((checksM G Z N).getD i []).getD (dp Z t) 0))) (Sum.inl ((dp Z t : Nat) : Int)) (.int 1)))) := fun b o e => by
          rw [upd_ne (ne_of_none e nnu)]
          exact s7 _ _ e
        generalize upd H7 nu (.dK (putK ((List.range (G + N)).map fun i => ((Sum.inl ((fx G Z i : Nat) : Int) : Key), V.int (((checksM G Z N).getD i []).getD (dp Z t) 0))) (Sum.inl ((dp Z t : Nat) : Int)) (.int 1))) = H8 at *
        refine ⟨_, rfl, .inl ⟨rfl, _, SqL.of (s68 _ _ p2.hd)⟩, ?_⟩
        refine ⟨_, rfl, r, 0, _, rfl, s68 _ _ (s36 _ _ er), ⟨by omega, by omega, by omega, by omega⟩, fun d nd => ?_⟩
        refine lc_ints walk_range (fun p => unitF G Z t p) nd (small1000' (by omega)) (fun _ _ => trivial) ?_ ?_
        · intro p x H9 H10 R R' hp s9 y k
          obtain ⟨rfl, rfl⟩ := y
          have hp' : p < G * (Z + 1) + N := by omega
          have en9 := s9 _ _ enu2
          have gd := unit_get (N := N) ht hp'
          refine ⟨rfl, _, rfl, _, rfl, .inl ⟨_, .inl en9⟩, _, rfl, ?_⟩
          refine ⟨_, .inl ⟨_, Sum.inl (p : Int), .inl en9, (by show V.int (0 + (p : Int)) = V.int (p : Int); rw [Int.zero_add]), rfl⟩, ?_⟩
          rw [gd]
          exact k _ (Same.refl _)
        · intro H9 s9 e9
          rw [e5] at e9
          have al2 : as.length = t := by rw [p2.len, List.length_map, List.length_range]
          have s69 := Same.trans s68 s9
          refine ⟨_, _, _, rfl, rfl, s69 _ _ p2.hd, by rw [List.length_map, al2]; exact Nat.lt_of_lt_of_le (m := 1000) (by omega) (by decide), ?_⟩
          refine ⟨_, _, _, _, rfl, fun b o e => ?_, as ++ [d], ?_, fun b hb => ?_⟩
          · have : b ≠ out := fun e2 => by rw [e2, nout] at e; cases e
            rw [upd_ne this]
            exact s69 _ _ (s46 _ _ e)
          · rw [List.range_succ, List.map_append]
            exact p2.snoc s69 (Same.low s68 nd) e9
          · rcases List.mem_append.mp hb with hb | hb
            · exact p3 b hb
            · rw [List.mem_singleton.mp hb]
              exact Same.low s46 (Same.low s68 nd)
    · rintro σ H6 ⟨v4, v7, v8, v9, rfl, s46, as, p2, p3⟩
      rw [List.length_map, lp] at p2
      have s06 : Same H H6 := Same.trans s02 (Same.trans sr (Same.trans s4 s46))
      have s04 : Same H H4 := Same.trans s02 (Same.trans sr s4)
      refine ⟨_, rfl, q out as H6 s06 p2 fun b hb => ?_⟩
      rcases List.mem_cons.mp hb with rfl | hb
      · exact Same.low s04 nout
      · exact Same.low s04 (p3 b hb)
-- F
theorem dot_two (ds : List Int) (f : Nat → Int) {n : Nat} (hl : ds.length = n) : dot ds ((List.range n).map f) = sm (fun t => ds.getD t 0 * f t) n := by
  subst hl
  unfold dot
  conv => lhs; rw [list_getD ds]
  rw [List.length_map, List.length_range, zip_map, sum_range]
theorem units_len (G Z N : Nat) : (unitsL G Z N).length = G * Z := by
  unfold unitsL
  rw [List.length_map, List.length_range]
theorem units_at {G Z N t : Nat} (h : t < (unitsL G Z N).length) : (unitsL G Z N)[t] = (List.range (G * (Z + 1) + N)).map (unitF G Z t) := by
  simp [unitsL]
def spFillU (K : PySem.W.Frag) : Sp := fun vs H Q _ => ∃ (nb ba : Addr) (as : List Addr) (G Z N : Nat) (ds : List Int), vs = [.ref nb, .ref ba] ∧ SqL K H nb (ds.map V.int) ∧ Mat H ba as (unitsL G Z N) ∧ 1 ≤ G ∧ G ≤ 4 ∧ 1 ≤ Z ∧ Z ≤ 4 ∧ N ≤ 2 ∧ ds.length = G * Z ∧ (∀ d ∈ ds, 0 ≤ d ∧ d ≤ 96) ∧
  ∀ r H', Same H H' → H r = none → H' r = some (.lst ((fillL G Z N ds).map V.int)) → Q (.ref r) H'
theorem ok_filledU (T : Txt K mg) (D_sum_of_products : Dn P w K mg base CX0 1 "sum_of_products" ["factors", "numbers"] (spSop K)) (F : At K mg "filled" s_filled ["numbers", "basis"]) : Dn P w K mg base CX0 2 "filled" ["numbers", "basis"] (spFillU K) := by
  refine F.ok sc_filled (fun vs H Q E h => ?_) (fun f cdv A outer s H vs Q E hr h => ?_)
  · obtain ⟨nb, ba, as, G, Z, N, ds, rfl, _⟩ := h
    rfl
  · obtain ⟨nb, ba, as, G, Z, N, ds, rfl, hn, MU, g1, g4, z1, z4, n2, hl, hd, q⟩ := h
    have gz : G * Z ≤ 16 := Nat.mul_le_mul g4 z4
    have gz2 : G * (Z + 1) ≤ 20 := Nat.mul_le_mul g4 (show Z + 1 ≤ 5 by omega)
    have gz1 : 1 ≤ G * Z := Nat.mul_le_mul g1 z1
    have al : as.length = G * Z := by rw [MU.len, units_len]
    refine ⟨_, (pss_cons (ps_set (i := 2) sc_filled.nd rfl (by first | exact Or.inl rfl | exact Or.inr rfl) (pe_callTy cr_range1 (by rfl) T.n_range (by decide +kernel) (pa_cons (pe_callB (r := rLen K) call_len (by rfl) T.n_len (by decide +kernel) (pa_cons (pe_ix (r := rIxL K) ix_list (pv 1) pe_int (fun _ _ => rfl)) pa_nil)) pa_nil)))
  (pss_one (ps_ret (pe_lc (own := [("place", 3)]) (g := (gName 3)) (by rfl) sc_filled.nd (pi_rng (pv 2)) (blkOk_by (own := [("place", 3)]) (N := ["numbers", "basis", "places", "place", "unit"]) (sc := defScope s_filled) (by decide +kernel)) (fun _ _ _ _ _ => (pg_name (i := 3) sc_filled.nd rfl (by first | exact Or.inl rfl | exact Or.inr rfl) (by first | exact Or.inr rfl | exact Or.inl rfl))) (fun _ _ _ _ _ => pts_nil) (fun _ _ _ _ _ => (pe_callD D_sum_of_products (by first | exact hr | exact hr.mono (by decide)) (pa_cons (pv 0) (pa_cons (by exact (pe_lc (own := [("unit", 4)]) (g := (gName 4)) (by rfl) sc_filled.nd (pi_listK K (pv 1)) (blkOk_by (own := [("unit", 4)]) (by kernel_rfl)) (fun _ _ _ _ _ => (pg_name (i := 4) sc_filled.nd rfl (by first | exact Or.inl rfl | exact Or.inr rfl) (by first | exact Or.inr rfl | exact Or.inl rfl))) (fun _ _ _ _ _ => pts_nil) (fun _ _ _ _ _ => (pe_ix (r := rIxL K) ix_list (pv 4) (pv 3) (fun _ _ => rfl))))) pa_nil)))))))), ?_⟩
    have h0 : 0 < as.length := by omega
    have e0 : as[0]? = some as[0] := List.getElem?_eq_getElem h0
    have hu0 : 0 < (unitsL G Z N).length := by rw [units_len]; omega
    have r0 := MU.get 0 _ _ e0 (List.getElem?_eq_getElem hu0)
    rw [units_at] at r0
    refine ⟨_, rfl, _, _, _, _, rfl, rfl, SqL.of MU.hd, at_of (v := .ref as[0]) (j := 0) rfl (by rw [List.getElem?_map, e0]; rfl), ?_⟩
    refine ⟨_, _, rfl, .inl ⟨_, SqL.of r0, rfl⟩, _, rfl, fun rg nr => ?_⟩
    rw [List.length_map, List.length_map, List.length_range]
    have sr := Same.new (o := .rng 0 ((G * (Z + 1) + N : Nat) : Int)) nr
    have er : upd H rg (.rng 0 ((G * (Z + 1) + N : Nat) : Int)) rg = some (.rng 0 ((G * (Z + 1) + N : Nat) : Int)) := upd_same
    have MU1 := MU.same sr
    have hn1 := sr.seq hn
    generalize upd H rg (.rng 0 ((G * (Z + 1) + N : Nat) : Int)) = H1 at *
    refine ⟨_, rfl, rg, 0, _, rfl, er, ⟨by omega, by omega, by omega, by omega⟩, fun D nD => ?_⟩
    refine lc_ints walk_range (fillF G Z fun t => ds.getD t 0) nD (small1000' (by omega)) (fun _ _ => trivial) ?_ ?_
    · intro p x H2 H3 R R' hp s2 y k
      obtain ⟨rfl, rfl⟩ := y
      have hp' : p < G * (Z + 1) + N := by omega
      have MU2 := MU1.same s2
      refine ⟨rfl, _, rfl, _, rfl, _, rfl, ⟨_, SqL.of MU2.hd⟩, fun d nd => ?_⟩
      refine lc_ints walk_list (fun t => unitF G Z t p) nd (by rw [List.length_map]; exact small1000' (by omega)) (fun H' s => s.seq (SqL.of MU2.hd)) ?_ ?_
      · intro t x H4 H5 R2 R2' ht s4 y2 k2
        obtain ⟨rfl, ex⟩ := y2
        rw [List.length_map] at ht
        rw [List.getElem?_map] at ex
        obtain ⟨c, ec, rfl⟩ := Option.map_eq_some_iff.mp ex
        have hu : t < (unitsL G Z N).length := by rw [units_len]; omega
        have er2 := MU2.get t c _ ec (List.getElem?_eq_getElem hu)
        rw [units_at] at er2
        refine ⟨rfl, _, rfl, _, rfl, _, _, _, _, rfl, rfl, SqL.of (s4 _ _ er2), ?_, k2 _ (Same.refl _)⟩
        rw [Int.zero_add]
        exact atI_nat (by simp [hp'])
      · intro H4 s4 e4
        rw [List.length_map, al] at e4
        refine ⟨nb, d, ds, _, rfl, s4.seq (s2.seq hn1), SqL.of e4, by omega, fun f hf => ?_, fun H5 s5 => ?_⟩
        · have := hd f hf
          omega
        · rw [dot_two ds (fun t => unitF G Z t p) hl, unit_comb (fun t ht => ?_) hp']
          · exact k _ (Same.trans s4 s5)
          · rw [List.getD_eq_getElem?_getD, List.getElem?_eq_getElem (by omega)]
            exact hd _ (List.getElem_mem (by omega))
    · intro H2 s2 e2
      refine q D H2 (Same.trans sr s2) (Same.low sr nD) ?_
      rw [e2, Int.sub_zero, Int.toNat_natCast]
      rfl
def spChkRow (K : PySem.W.Frag) : Sp := fun vs H Q _ => ∃ (r : Addr) (ns : List Int), vs = [.ref r] ∧ SqL K H r (ns.map V.int) ∧ ns.length ≤ 60 ∧ (∀ d ∈ ns, 0 ≤ d ∧ d ≤ 96) ∧ ∀ H', Same H H' → Q .non H'
theorem ok_check_row (T : Txt K mg) (D_is_rest : Dn P w K mg base CX0 3 "is_rest" ["thing"] (spRest K)) (F : At K mg "check_row" s_check_row ["thing"]) : Dn P w K mg base CX0 4 "check_row" ["thing"] (spChkRow K) := by
  refine F.ok sc_check_row (fun vs H Q E h => ?_) (fun f cdv A outer s H vs Q E hr h => ?_)
  · obtain ⟨r, ns, rfl, _⟩ := h
    rfl
  · obtain ⟨r, ns, rfl, hr', hl, hd, q⟩ := h
    refine ⟨_, (pss_cons (ps_if (PW.pt (pw_or (pt_not (pt_val (pe_callB (r := rIsi K) call_isi (by rfl) T.n_isinstance (by decide +kernel) (pa_cons (pv 0) (pa_cons (pe_bltn (v := .ty "list") (u := .type "list") (by rfl) T.n_list (by decide +kernel) (by exact rfl)) pa_nil))))) (pw_or1 (pt_cmpR op_gt (pe_callB (r := rLen K) call_len (by rfl) T.n_len (by decide +kernel) (pa_cons (pv 0) pa_nil)) (pe_glob rfl T.g_MOST (by exact T.v_MOST)) (nomark _))))) (pss_one ps_never) pss_nil)
  (pss_one (ps_for PassesOwn.never rfl (pi_enum (by rfl) T.n_enumerate (pa_cons (pv 0) pa_nil)) (pg_tup (by rfl) (pgs_cons (pg_name (i := 1) sc_check_row.nd rfl (by first | exact Or.inl rfl | exact Or.inr rfl)) (pgs_cons (pg_name (i := 2) sc_check_row.nd rfl (by first | exact Or.inl rfl | exact Or.inr rfl)) pgs_nil)))
  (pss_one (ps_if (pt_not (pt_val (pe_callD D_is_rest (by first | exact hr | exact hr.mono (by decide)) (pa_cons (pv 2) pa_nil)))) (pss_one ps_never) pss_nil))))), ?_⟩
    have tl : Ty K H (.ref r) "list" := .lst hr'
    refine ⟨_, rfl, _, _, _, _, _, rfl, .ty "list", tl.x, tl.kit "list", _, rfl, ?_⟩
    refine ⟨_, rfl, _, _, rfl, .inl ⟨_, hr', rfl⟩, _, _, rfl, rfl, _, rfl, iteD (fun h => ?_) fun _ => ?_⟩
    · rw [List.length_map] at h
      omega
    refine ⟨_, rfl, _, _, rfl, hr', ?_⟩
    refine for_it (walk_enum (xs := ns.map V.int)) (fun i σ H' => ∃ v1 v2, σ = [some (.ref r), v1, v2] ∧ Same H H') ⟨_, _, rfl, Same.refl _⟩ (fun i σ H' _ p => ?_) ?_ ?_
    · obtain ⟨_, _, _, p1⟩ := p
      exact p1.seq hr'
    · rintro i x σ H1 H2 hi ⟨v1, v2, rfl, p1⟩ y
      obtain ⟨t, x1, x2, rfl, nt, rfl, ex1, ex2⟩ := y
      rw [List.length_map] at hi
      have ex2' : x2 = .int ns[i] := by
        have := ex2
        simp only [List.getElem?_map, List.getElem?_eq_getElem hi] at this
        exact (Option.some.inj this).symm
      subst ex2'
      have sn := Same.new (o := .tup [x1, .int ns[i]]) nt
      refine ⟨_, _, rfl, SqT.of upd_same, rfl, _, _, rfl, _, _, rfl, rfl, _, rfl, _, _, rfl, .int _, ?_⟩
      obtain ⟨h1, h2⟩ := hd _ (List.getElem_mem hi)
      rw [show betw (.int ns[i]) 0 96 = true from betw_t h1 h2]
      exact ⟨_, rfl, _, _, rfl, Same.trans p1 sn⟩
    · rintro σ H1 ⟨v1, v2, rfl, p1⟩
      exact q _ p1
def spCells (K : PySem.W.Frag) : Sp := fun vs H Q _ => ∃ (many : Int) (a : Addr) (g s m : Int), vs = [.int many, .ref a] ∧ Mould K H a g s m ∧ 0 ≤ many ∧ many ≤ 1000 ∧ ∀ H', Same H H' → Q (.int ((many + ((g.toNat * s.toNat : Nat) : Int) - 1) / ((g.toNat * s.toNat : Nat) : Int))) H'
theorem ok_cells (T : Txt K mg) {dv : V} (D_data_places : DnK P w K mg base CX0 9 "data_places" [] "shape" dv (spPlaces K)) (F : AtK K mg "cells_for" s_cells_for ["many"] "shape" dv) : DnK P w K mg base CX0 10 "cells_for" ["many"] "shape" dv (spCells K) := by
  refine F.ok sc_cells_for (fun vs H Q E h => ?_) (fun f cdv A outer s H vs Q E hr h => ?_)
  · obtain ⟨many, a, g, s, m, rfl, _⟩ := h
    rfl
  · obtain ⟨many, a, g, z, m, rfl, M, m0, m1, q⟩ := h
    obtain ⟨G, Z, N, rfl, rfl, rfl⟩ := M.nat
    obtain ⟨ha, g1, g4, z1, z4, _, _⟩ := id M
    simp only [Int.toNat_natCast] at q
    have gz : G * Z ≤ 16 := Nat.mul_le_mul (show G ≤ 4 by omega) (show Z ≤ 4 by omega)
    have gz1 : 1 ≤ G * Z := Nat.mul_le_mul (show 1 ≤ G by omega) (show 1 ≤ Z by omega)
    refine ⟨_, (pss_cons (ps_set (i := 2) sc_cells_for.nd rfl (by first | exact Or.inl rfl | exact Or.inr rfl) (pe_callB (r := rLen K) call_len (by rfl) T.n_len (by decide +kernel) (pa_cons (pe_callW0 D_data_places (by first | exact hr | exact hr.mono (by decide)) (pv 1)) pa_nil)))
  (pss_one (ps_ret (pe_op op_fdivW (pe_op op_sub (pe_op op_add (pv 0) (pv 2)) pe_int) (pv 2))))), ?_⟩
    refine ⟨_, rfl, rfl, a, G, Z, N, rfl, M, fun d H1 s1 nd ed => ?_⟩
    simp only [Int.toNat_natCast] at ed
    have lp : ((placesL G Z).map V.int).length = G * Z := by
      unfold placesL
      rw [List.length_map, List.length_map, List.length_range]
    refine ⟨_, _, rfl, .inl ⟨_, SqL.of ed, rfl⟩, ?_⟩
    rw [lp]
    have : 16 < 2 ^ 10 := by decide
    refine ⟨_, rfl, _, rfl, _, _, rfl, rfl, _, _, rfl, rfl, _, rfl, _, _, rfl, rfl, wide_div (by omega) (b := 10) (by omega) (by decide) (by decide), q _ s1⟩
/-- how many cells many numbers have -/
def cellsN (gz n : Nat) : Nat := (n + gz - 1) / gz
/-- the pieces of ns, by places -/
def laidL (G Z N : Nat) (ns : List Int) : List (List Int) := (List.range (G * (Z + 1) + N)).map fun p => (List.range (cellsN (G * Z) ns.length)).map fun c => fillF G Z (fun t => ns.getD (c * (G * Z) + t) 0) p
theorem cells_ge {gz n : Nat} (h : 1 ≤ gz) : n ≤ cellsN gz n * gz := by
  unfold cellsN
  have := Nat.div_add_mod (n + gz - 1) gz
  have h2 := Nat.mod_lt (n + gz - 1) (show 0 < gz by omega)
  rw [Nat.mul_comm] at this
  omega
theorem cells_int {gz n : Nat} (h : 1 ≤ gz) : (((n : Int) + ((gz : Nat) : Int) - 1) / ((gz : Nat) : Int)) = ((cellsN gz n : Nat) : Int) := by
  unfold cellsN
  rw [Int.natCast_ediv]
  congr 1
  omega
theorem cells_le {gz n : Nat} (h : 1 ≤ gz) : cellsN gz n ≤ n := by
  unfold cellsN
  rcases Nat.eq_zero_or_pos n with rfl | hn
  · rw [Nat.div_eq_of_lt (by omega)]
    omega
  · refine (Nat.div_le_iff_le_mul_add_pred (by omega)).mpr ?_
    have : n ≤ gz * n := Nat.le_mul_of_pos_left n (by omega)
    omega
theorem fill_row {G Z N : Nat} (f : Nat → Int) {ds : List Int} (h : ds = (List.range (G * Z)).map f) : fillL G Z N ds = (List.range (G * (Z + 1) + N)).map (fillF G Z f) := by
  unfold fillL
  refine List.map_congr_left fun p hp => fill_congr (M := N) (fun t ht => ?_) (List.mem_range.mp hp)
  rw [h, getD_range _ ht]
def spLaid (K : PySem.W.Frag) : Sp := fun vs H Q _ => ∃ (r a : Addr) (g s m : Int) (ns : List Int), vs = [.ref r, .ref a] ∧ Mould K H a g s m ∧ H r = some (.lst (ns.map V.int)) ∧ ns.length ≤ 60 ∧ (∀ d ∈ ns, 0 ≤ d ∧ d ≤ 96) ∧
  ∀ d as H', Same H H' → DMat H' d as (laidL g.toNat s.toNat m.toNat ns) → (∀ b ∈ d :: as, H b = none) → Q (.ref d) H'
theorem ok_laid (T : Txt K mg) {dv : V} (D_count : DnK P w K mg base CX0 5 "count" [] "shape" dv (spCount K)) (D_units : DnN P w K mg base CX0 12 "units" [] "shape" (spUnits K)) (D_check_row : Dn P w K mg base CX0 4 "check_row" ["thing"] (spChkRow K)) (D_cells_for : DnK P w K mg base CX0 10 "cells_for" ["many"] "shape" dv (spCells K))
    (D_filled : Dn P w K mg base CX0 2 "filled" ["numbers", "basis"] (spFillU K)) (F : AtK K mg "laid" s_laid ["row"] "shape" dv) : DnK P w K mg base CX0 13 "laid" ["row"] "shape" dv (spLaid K) := by
  refine F.ok sc_laid (fun vs H Q E h => ?_) (fun f cdv A outer s H vs Q E hr h => ?_)
  · obtain ⟨r, a, g, s, m, ns, rfl, _⟩ := h
    rfl
  · obtain ⟨r, a, g, z, m, ns, rfl, M, er, hl, hd, q⟩ := h
    obtain ⟨G, Z, N, rfl, rfl, rfl⟩ := M.nat
    obtain ⟨ha, g1, g4, z1, z4, m0, m2⟩ := id M
    obtain ⟨l1, l2, l3, l4⟩ := M.le
    simp only [Int.toNat_natCast] at q
    have mz : manyZ (G : Int) Z N = ((G * (Z + 1) + N : Nat) : Int) := by have := many_nat G Z N; omega
    have gz : G * Z ≤ 16 := Nat.mul_le_mul (show G ≤ 4 by omega) (show Z ≤ 4 by omega)
    have gz1 : 1 ≤ G * Z := Nat.mul_le_mul (show 1 ≤ G by omega) (show 1 ≤ Z by omega)
    refine ⟨_, (pss_cons (ps_set (i := 2) sc_laid.nd rfl (by first | exact Or.inl rfl | exact Or.inr rfl) (pe_callV0 D_units (by first | exact hr | exact hr.mono (by decide)) (pv 1)))
  (pss_cons (ps_expr (pe_callD D_check_row (by first | exact hr | exact hr.mono (by decide)) (pa_cons (pv 0) pa_nil)))
  (pss_cons (ps_set (i := 3) sc_laid.nd rfl (by first | exact Or.inl rfl | exact Or.inr rfl) (pe_callB (r := rLen K) call_len (by rfl) T.n_len (by decide +kernel) (pa_cons (pv 2) pa_nil)))
  (pss_cons (ps_set (i := 4) sc_laid.nd rfl (by first | exact Or.inl rfl | exact Or.inr rfl) (pe_callW D_cells_for (by first | exact hr | exact hr.mono (by decide)) (pa_cons (pe_callB (r := rLen K) call_len (by rfl) T.n_len (by decide +kernel) (pa_cons (pv 0) pa_nil)) pa_nil) (pv 1)))
  (pss_cons (ps_set (i := 5) sc_laid.nd rfl (by first | exact Or.inl rfl | exact Or.inr rfl) (pe_op op_catF (pv 0) (pe_op op_repF (pe_lstF (pa_cons pe_int pa_nil)) (pe_op op_sub (pe_op op_mul (pv 4) (pv 3)) (pe_callB (r := rLen K) call_len (by rfl) T.n_len (by decide +kernel) (pa_cons (pv 0) pa_nil))))))
  (pss_cons (ps_set (i := 7) sc_laid.nd rfl (by first | exact Or.inl rfl | exact Or.inr rfl) (pe_lc (own := [("cell", 6)]) (g := (gName 6)) (by rfl) sc_laid.nd (pi_range1 (by rfl) T.n_range (pa_cons (pv 4) pa_nil)) (blkOk_by (own := [("cell", 6)]) (N := ["row", "shape", "basis", "wide", "cells", "numbers", "cell", "fillings", "place", "filling"]) (sc := defScope s_laid) (by decide +kernel)) (fun _ _ _ _ _ => (pg_name (i := 6) sc_laid.nd rfl (by first | exact Or.inl rfl | exact Or.inr rfl) (by first | exact Or.inr rfl | exact Or.inl rfl))) (fun _ _ _ _ _ => pts_nil) (fun _ _ _ _ _ => (pe_callD D_filled (by first | exact hr | exact hr.mono (by decide)) (pa_cons (pe_slice (r := rSlLF K) sl_listF (pv 5) (po_some (pe_op op_mul (pv 6) (pv 3))) (po_some (pe_op op_mul (pe_op op_add (pv 6) pe_int) (pv 3)))) (pa_cons (pv 2) pa_nil))))))
  (pss_one (ps_ret (pe_dc (own := [("place", 8)]) (g := (gName 8)) (by rfl) sc_laid.nd (pi_range1 (by rfl) T.n_range (pa_cons (pe_callW0 D_count (by first | exact hr | exact hr.mono (by decide)) (pv 1)) pa_nil)) (blkOk_by (own := [("place", 8)]) (N := ["row", "shape", "basis", "wide", "cells", "numbers", "cell", "fillings", "place", "filling"]) (sc := defScope s_laid) (by decide +kernel)) (fun _ _ _ _ _ => (pg_name (i := 8) sc_laid.nd rfl (by first | exact Or.inl rfl | exact Or.inr rfl) (by first | exact Or.inr rfl | exact Or.inl rfl))) (fun _ _ _ _ _ => pts_nil) (fun _ _ _ _ _ => (pv 8)) (fun _ _ _ _ _ => (pe_lc (own := [("filling", 9)]) (g := (gName 9)) (by rfl) sc_laid.nd (pi_listK K (pv 7)) (blkOk_by (own := [("filling", 9)]) (by kernel_rfl)) (fun _ _ _ _ _ => (pg_name (i := 9) sc_laid.nd rfl (by first | exact Or.inl rfl | exact Or.inr rfl) (by first | exact Or.inr rfl | exact Or.inl rfl))) (fun _ _ _ _ _ => pts_nil) (fun _ _ _ _ _ => (pe_ix (r := rIxL K) ix_list (pv 9) (pv 8) (fun _ _ => rfl)))))))))))))), ?_⟩
    refine ⟨_, rfl, rfl, a, G, Z, N, rfl, M, fun ba bs H1 s1 MU fU => ?_⟩
    simp only [Int.toNat_natCast] at MU
    refine ⟨_, rfl, r, ns, rfl, SqL.of (s1 _ _ er), hl, hd, fun H2 s2 => ?_⟩
    have MU2 := MU.same s2
    have s02 := Same.trans s1 s2
    refine ⟨_, rfl, _, _, rfl, .inl ⟨_, SqL.of MU2.hd, rfl⟩, ?_⟩
    rw [List.length_map, MU.len, units_len]
    refine ⟨_, rfl, _, _, rfl, .inl ⟨_, SqL.of (s02 _ _ er), rfl⟩, ?_⟩
    rw [List.length_map]
    refine ⟨_, rfl, rfl, rfl, _, a, G, Z, N, rfl, M.same s02, by omega, by omega, fun H3 s3 => ?_⟩
    simp only [Int.toNat_natCast]
    rw [cells_int gz1]
    have cn := cells_ge (n := ns.length) gz1
    have cl := cells_le (n := ns.length) gz1
    generalize hC : cellsN (G * Z) ns.length = C at *
    have cz : (C : Int) * ((G * Z : Nat) : Int) = ((C * (G * Z) : Nat) : Int) := (Int.natCast_mul ..).symm
    have cb : C * (G * Z) ≤ 1000 := Nat.le_trans (Nat.mul_le_mul (show C ≤ 60 by omega) gz) (by decide)
    have s03 := Same.trans s02 s3
    have MU3 := MU2.same s3
    refine ⟨_, rfl, (by show 1 ≤ sizeLine; decide), fun l1 H4 nl1 s4 el1 => ?_⟩
    refine ⟨_, rfl, _, rfl, _, _, rfl, rfl, .inl ⟨by omega, by omega⟩, _, rfl, _, _, rfl, .inl ⟨_, SqL.of (s4 _ _ (s03 _ _ er)), rfl⟩, _, _, rfl, rfl, ?_⟩
    rw [List.length_map, cz]
    refine ⟨_, _, _, rfl, rfl, el1, by omega, by omega, (by show 1 * _ ≤ _; rw [Nat.one_mul]; exact small1000' (by omega)), fun l2 H5 nl2 s5 el2 => ?_⟩
    have rep0 : ∀ n : Nat, (List.replicate n [V.int 0]).flatten = (List.replicate n (0 : Int)).map V.int := fun n => by
      induction n with
      | zero => rfl
      | succ n ih => rw [List.replicate_succ, List.flatten_cons, ih, List.replicate_succ]; rfl
    rw [rep0] at el2
    have s05 := Same.trans s03 (Same.trans s4 s5)
    refine ⟨_, _, _, _, rfl, rfl, s05 _ _ er, el2, (by rw [List.length_map, List.length_map, List.length_replicate]; exact small1000' (by omega)), fun nu H6 nnu s6 enu => ?_⟩
    rw [← List.map_append] at enu
    generalize hX : ns ++ List.replicate (((C * (G * Z) : Nat) : Int) - (ns.length : Int)).toNat (0 : Int) = X at enu
    have lX : X.length = C * (G * Z) := by rw [← hX, List.length_append, List.length_replicate]; omega
    have aX : ∀ t, X.getD t 0 = ns.getD t 0 := fun t => by
      rw [← hX, List.getD_eq_getElem?_getD, List.getD_eq_getElem?_getD]
      by_cases h : t < ns.length
      · rw [List.getElem?_append_left h]
      · rw [List.getElem?_append_right (by omega), List.getElem?_replicate, List.getElem?_eq_none (by omega)]
        split <;> rfl
    have s36 := Same.trans s4 (Same.trans s5 s6)
    have s06 := Same.trans s05 s6
    have MU6 := MU3.same s36
    refine ⟨_, rfl, _, rfl, by omega, by omega, fun D nD => ?_⟩
    refine lc_rows walk_range (fun c => fillL G Z N ((List.range (G * Z)).map fun t => ns.getD (c * (G * Z) + t) 0)) nD (Nat.lt_of_lt_of_le (m := 1000) (by omega) (by decide)) (fun _ _ => trivial) ?_ ?_
    · intro c x H7 H8 R R' hc s7 y k
      obtain ⟨rfl, rfl⟩ := y
      have hc' : c < C := by omega
      have low : c * (G * Z) + G * Z ≤ X.length := by
        have : (c + 1) * (G * Z) ≤ C * (G * Z) := Nat.mul_le_mul_right _ hc'
        rw [Nat.succ_mul] at this
        omega
      have e1 : (0 + (c : Int)) * ((G * Z : Nat) : Int) = ((c * (G * Z) : Nat) : Int) := by rw [Int.zero_add]; exact (Int.natCast_mul ..).symm
      have e2 : (0 + (c : Int) + 1) * ((G * Z : Nat) : Int) = ((c * (G * Z) + G * Z : Nat) : Int) := by rw [Int.add_mul, e1]; omega
      refine ⟨rfl, _, rfl, _, rfl, _, rfl, _, _, rfl, rfl, .inl ⟨by omega, by omega⟩, _, rfl, _, rfl, _, _, rfl, rfl, _, rfl, _, _, rfl, rfl, .inl ⟨by omega, by omega⟩, _, rfl, _, _, rfl, SqL.of (s7 _ _ enu), fun sl H9 nsl s9 esl => ?_⟩
      rw [cut_ints e1 e2 low] at esl
      have ef : ((List.range (G * Z)).map fun j => X.getD (c * (G * Z) + j) 0) = (List.range (G * Z)).map fun t => ns.getD (c * (G * Z) + t) 0 := List.map_congr_left fun j _ => aX _
      rw [ef] at esl
      refine ⟨_, rfl, sl, ba, bs, G, Z, N, _, rfl, SqL.of esl, (MU6.same s7).same s9, by omega, by omega, by omega, by omega, by omega, by rw [List.length_map, List.length_range], fun x hx => ?_, fun d H10 s10 nd ed => ?_⟩
      · obtain ⟨t, _, rfl⟩ := List.mem_map.mp hx
        rw [List.getD_eq_getElem?_getD]
        cases h : ns[c * (G * Z) + t]? with
        | none => exact ⟨Int.le_refl 0, by decide⟩
        | some v => exact hd _ (List.mem_of_getElem? h)
      · exact k d H10 (Same.trans s9 s10) (Same.low s9 nd) ed
    · intro H7 as s7 MF fF
      have s07 := Same.trans s06 s7
      rw [Int.toNat_natCast] at MF
      have al : as.length = C := by rw [MF.len, List.length_map, List.length_range]
      refine ⟨_, rfl, rfl, a, G, Z, N, rfl, M.same s07, _, rfl, by omega, by omega, fun D2 nD2 => ?_⟩
      refine dc_rows walk_range (fun p => (List.range C).map fun c => fillF G Z (fun t => ns.getD (c * (G * Z) + t) 0) p) nD2 (Nat.lt_of_lt_of_le (m := 1000) (by omega) (by decide)) (fun _ _ => trivial) ?_ ?_
      · intro p x H8 H9 R R' hp s8 y k
        obtain ⟨rfl, rfl⟩ := y
        have hp' : p < G * (Z + 1) + N := by omega
        have MF8 := MF.same s8
        refine ⟨rfl, _, rfl, ?_⟩
        refine ⟨_, rfl, _, rfl, ⟨_, SqL.of MF8.hd⟩, fun d nd => ?_⟩
        refine lc_ints walk_list (fun c => fillF G Z (fun t => ns.getD (c * (G * Z) + t) 0) p) nd (by rw [List.length_map]; exact small1000' (by omega)) (fun H' s => s.seq (SqL.of MF8.hd)) ?_ ?_
        · intro c x H10 H11 R2 R2' hc s10 y2 k2
          obtain ⟨rfl, ex⟩ := y2
          rw [List.length_map, al] at hc
          rw [List.getElem?_map] at ex
          obtain ⟨b, eb, rfl⟩ := Option.map_eq_some_iff.mp ex
          have erow := MF8.get c b _ eb (by rw [List.getElem?_map, List.getElem?_range hc]; rfl)
          replace erow : H9 b = some (.lst ((fillL G Z N ((List.range (G * Z)).map fun t => ns.getD (c * (G * Z) + t) 0)).map V.int)) := erow
          rw [fill_row (fun t => ns.getD (c * (G * Z) + t) 0) rfl] at erow
          refine ⟨rfl, _, rfl, _, rfl, _, _, _, _, rfl, rfl, SqL.of (s10 _ _ erow), ?_, k2 _ (Same.refl _)⟩
          rw [Int.zero_add]
          exact atI_nat (by simp [hp'])
        · intro H10 s10 e10
          rw [List.length_map, al] at e10
          have := k d H10 s10 nd e10
          rw [show (p : Int) = 0 + (p : Int) by rw [Int.zero_add]] at this
          exact this
      · intro H8 as2 s8 MD fD
        have s68 := Same.trans s7 s8
        rw [show (manyZ (G : Int) Z N).toNat = G * (Z + 1) + N by omega] at MD
        have MD' : DMat H8 D2 as2 (laidL G Z N ns) := by
          unfold laidL
          rw [hC]
          exact MD
        refine q D2 as2 H8 (Same.trans s07 s8) MD' fun b hb => ?_
        rcases List.mem_cons.mp hb with rfl | hb
        · exact Same.low s07 nD2
        · exact Same.low s07 (fD b hb)
mutual
/-- lists and tuples of at most a million members -/
def wide : PyData → Bool
  | .list xs | .tuple xs => decide (xs.length ≤ 1000000) && wideAll xs
  | .dict _ => false
  | .none | .bool _ | .int _ | .str _ => true
def wideAll : List PyData → Bool
  | [] => true
  | x :: xs => wide x && wideAll xs
end
theorem wideAll_get : ∀ {ds : List PyData} {i : Nat} {d : PyData}, wideAll ds = true → ds[i]? = some d → wide d = true
  | [], _, _, _, e => by simp at e
  | x :: xs, 0, d, h, e => by
    rw [wideAll, Bool.and_eq_true] at h
    simp at e
    exact e ▸ h.1
  | x :: xs, i + 1, d, h, e => by
    rw [wideAll, Bool.and_eq_true] at h
    exact wideAll_get h.2 (by simpa using e)
theorem wide_ints (xs : List Int) : wideAll (xs.map PyData.int) = true := by
  induction xs with
  | nil => rfl
  | cons x xs ih => rw [List.map_cons, wideAll, ih]; rfl
theorem depth_get : ∀ {ds : List PyData} {i : Nat} {d : PyData}, ds[i]? = some d → PyData.depth d ≤ PyData.depthAll ds
  | [], _, _, e => by simp at e
  | x :: xs, 0, d, e => by
    simp at e
    rw [PyData.depthAll, e]
    exact Nat.le_max_left _ _
  | x :: xs, i + 1, d, e => by
    rw [PyData.depthAll]
    exact Nat.le_trans (depth_get (ds := xs) (i := i) (by simpa using e)) (Nat.le_max_right _ _)
theorem dpAll_len {K : PySem.W.Frag} {H : Hp} : ∀ {xs : List V} {ds : List PyData}, DpAll K H xs ds → xs.length = ds.length
  | [], [], .nil => rfl
  | _ :: _, _ :: _, .cons _ t => by rw [List.length_cons, List.length_cons, dpAll_len t]
theorem dpAll_get {K : PySem.W.Frag} {H : Hp} : ∀ {xs : List V} {ds : List PyData}, DpAll K H xs ds → ∀ {i : Nat} {v : V}, xs[i]? = some v → ∃ d, ds[i]? = some d ∧ Dp K H v d
  | [], [], .nil, i, v, e => by simp at e
  | x :: xs, d :: ds, .cons h t, 0, v, e => by
    simp at e
    exact ⟨d, by simp, e ▸ h⟩
  | x :: xs, d :: ds, .cons h t, i + 1, v, e => by
    obtain ⟨d', e1, e2⟩ := dpAll_get t (i := i) (v := v) (by simpa using e)
    exact ⟨d', by simpa using e1, e2⟩
mutual
theorem dp_same {K : PySem.W.Frag} {H H' : Hp} (s : Same H H') : ∀ {v : V} {d : PyData}, Dp K H v d → Dp K H' v d
  | _, _, .non => .non
  | _, _, .bl b => .bl b
  | _, _, .int i => .int i
  | _, _, .str x => .str x
  | _, _, .lst h a => .lst (s.seq h) (dpAll_same s a)
  | _, _, .tup h a => .tup (Same.sqt s h) (dpAll_same s a)
theorem dpAll_same {K : PySem.W.Frag} {H H' : Hp} (s : Same H H') : ∀ {xs : List V} {ds : List PyData}, DpAll K H xs ds → DpAll K H' xs ds
  | _, _, .nil => .nil
  | _, _, .cons h t => .cons (dp_same s h) (dpAll_same s t)
end
def tyD : PyData → String
  | .none => "NoneType"
  | .bool _ => "bool"
  | .int _ => "int"
  | .str _ => "str"
  | .list _ => "list"
  | .tuple _ => "tuple"
  | .dict _ => "dict"
theorem Dp.ty {K : PySem.W.Frag} {H : Hp} {v : V} {d : PyData} (h : Dp K H v d) : Ty K H v (tyD d) := by
  cases h with
  | non => exact .non
  | bl b => exact .bl b
  | int i => exact .int i
  | str x => exact .str x
  | lst h _ => exact .lst h
  | tup h _ => exact .tup h
theorem kitAnyLT {K : PySem.W.Frag} {n : String} (h : n ∈ ["NoneType", "bool", "int", "str", "list", "tuple", "dict"]) : PySem.W.kitAny K (.type n) [.type "list", .type "tuple"] = some (n == "list" || n == "tuple") := by
  unfold PySem.W.kitAny
  rw [kit_ty (K := K) (kit_names (c := "list") (by decide) h)]
  unfold PySem.W.kitAny
  rw [kit_ty (K := K) (kit_names (c := "tuple") (by decide) h)]
  unfold PySem.W.kitAny
  simp only [List.mem_cons, List.not_mem_nil, or_false] at h
  rcases h with rfl | rfl | rfl | rfl | rfl | rfl | rfl <;> rfl
/-- both are the same data, of depth below k -/
def spSame (K : PySem.W.Frag) : Nat → Sp
  | 0 => fun _ _ _ _ => False
  | k + 1 => fun vs H Q _ => ∃ (x y : V) (d : PyData), vs = [x, y] ∧ Dp K H x d ∧ Dp K H y d ∧ wide d = true ∧ PyData.depth d ≤ k ∧ ∀ H', Same H H' → Q (.bl true) H'
theorem ok_same (T : Txt K mg) (F : At K mg "_law_same" s__law_same ["found", "due"]) : ∀ k, Dn P w K mg base CX0 k "_law_same" ["found", "due"] (spSame K k)
  | 0 => F.none 0
  | k + 1 => by
    have D__law_same := ok_same T F k
    refine F.ok sc__law_same (fun vs H Q E h => ?_) (fun f cdv A outer s H vs Q E hr h => ?_)
    · obtain ⟨x, y, d, rfl, _⟩ := h
      rfl
    · obtain ⟨x, y, d, rfl, hx, hy, hw, hk, q⟩ := h
      refine ⟨_, (pss_cons (ps_if (pt_val (pe_callB (r := rIsiT K) call_isiT (by rfl) T.n_isinstance (by decide +kernel) (pa_cons (pv 1) (pa_cons (pe_tup (pa_cons (pe_bltn (v := .ty "list") (u := .type "list") (by rfl) T.n_list (by decide +kernel) (by exact rfl)) (pa_cons (pe_bltn (v := .ty "tuple") (u := .type "tuple") (by rfl) T.n_tuple (by decide +kernel) (by exact rfl)) pa_nil))) pa_nil)))) (pss_cons (ps_if (PW.pt (pw_or (pt_cmpR op_ne (pe_callB (r := rIsi K) call_isi (by rfl) T.n_isinstance (by decide +kernel) (pa_cons (pv 0) (pa_cons (pe_bltn (v := .ty "list") (u := .type "list") (by rfl) T.n_list (by decide +kernel) (by exact rfl)) pa_nil))) (pe_callB (r := rIsi K) call_isi (by rfl) T.n_isinstance (by decide +kernel) (pa_cons (pv 1) (pa_cons (pe_bltn (v := .ty "list") (u := .type "list") (by rfl) T.n_list (by decide +kernel) (by exact rfl)) pa_nil))) (nomark _)) (pw_or1 (pt_not (pt_val (pe_callB (r := rIsiT K) call_isiT (by rfl) T.n_isinstance (by decide +kernel) (pa_cons (pv 0) (pa_cons (pe_tup (pa_cons (pe_bltn (v := .ty "list") (u := .type "list") (by rfl) T.n_list (by decide +kernel) (by exact rfl)) (pa_cons (pe_bltn (v := .ty "tuple") (u := .type "tuple") (by rfl) T.n_tuple (by decide +kernel) (by exact rfl)) pa_nil))) pa_nil)))))))) (pss_one (ps_ret pe_bl)) pss_nil)
  (pss_one (ps_ret (pe_and (pe_cmpR op_eq (pe_callB (r := rLen K) call_len (by rfl) T.n_len (by decide +kernel) (pa_cons (pv 0) pa_nil)) (pe_callB (r := rLen K) call_len (by rfl) T.n_len (by decide +kernel) (pa_cons (pv 1) pa_nil)) (nomark _)) (pe_one (pe_callB (r := rAll K) (cr_all rfl) (by rfl) T.n_all (by decide +kernel) (pa_cons (pe_lc (own := [("k", 2)]) (g := (gName 2)) (by rfl) sc__law_same.nd (pi_range1 (by rfl) T.n_range (pa_cons (pe_callB (r := rLen K) call_len (by rfl) T.n_len (by decide +kernel) (pa_cons (pv 1) pa_nil)) pa_nil)) (blkOk_by (own := [("k", 2)]) (N := ["found", "due", "k"]) (sc := defScope s__law_same) (by decide +kernel)) (fun _ _ _ _ _ => (pg_name (i := 2) sc__law_same.nd rfl (by first | exact Or.inl rfl | exact Or.inr rfl) (by first | exact Or.inr rfl | exact Or.inl rfl))) (fun _ _ _ _ _ => pts_nil) (fun _ _ _ _ _ => (pe_callD D__law_same (by first | exact hr | exact hr.mono (by decide)) (pa_cons (pe_ix (r := rIx K) ix_seq (pv 0) (pv 2) (fun _ _ => rfl)) (pa_cons (pe_ix (r := rIx K) ix_seq (pv 1) (pv 2) (fun _ _ => rfl)) pa_nil))))) pa_nil))))))) pss_nil)
  (pss_one (ps_ret (pe_and (pe_cmpR op_eq (pv 0) (pv 1) (nomark _)) (pe_one (pe_cmpR op_eq (pe_callB (r := rIsi K) call_isi (by rfl) T.n_isinstance (by decide +kernel) (pa_cons (pv 0) (pa_cons (pe_bltn (v := .ty "bool") (u := .type "bool") (by rfl) T.n_bool (by decide +kernel) (by exact rfl)) pa_nil))) (pe_callB (r := rIsi K) call_isi (by rfl) T.n_isinstance (by decide +kernel) (pa_cons (pv 1) (pa_cons (pe_bltn (v := .ty "bool") (u := .type "bool") (by rfl) T.n_bool (by decide +kernel) (by exact rfl)) pa_nil))) (nomark _))))))), ?_⟩
      have tx := Dp.ty hx
      have ty := Dp.ty hy
      refine ⟨_, rfl, (by show 2 ≤ sizeLine; decide), fun t nt => ?_⟩
      have s1 := Same.new (o := .tup [.ty "list", .ty "tuple"]) nt
      refine ⟨_, _, _, _, _, _, rfl, upd_same, .cons (.ty _) (.cons (.ty _) .nil), (ty.same s1).x, kitAnyLT ty.names, ?_⟩
      have hx1 := dp_same s1 hx
      have hy1 := dp_same s1 hy
      generalize upd H t (.tup [.ty "list", .ty "tuple"]) = H1 at *
      cases d with
      | dict kv => cases hx
      | list ds =>
        have tx1 : Ty K H1 _ _ := Dp.ty hx1
        have ty1 : Ty K H1 _ _ := Dp.ty hy1
        obtain ⟨a, xs, rfl, sa, pa⟩ : ∃ a xs, x = .ref a ∧ SqL K H1 a xs ∧ DpAll K H1 xs ds := by
          cases hx1 with | lst h1 h2 => exact ⟨_, _, rfl, h1, h2⟩
        obtain ⟨b, ys, rfl, sb, pb⟩ : ∃ b ys, y = .ref b ∧ SqL K H1 b ys ∧ DpAll K H1 ys ds := by
          cases hy1 with | lst h1 h2 => exact ⟨_, _, rfl, h1, h2⟩
        have lx := dpAll_len pa
        have ly := dpAll_len pb
        rw [wide, Bool.and_eq_true, decide_eq_true_eq] at hw
        rw [PyData.depth] at hk
        refine ⟨_, rfl, ?_⟩
        refine ⟨_, rfl, _, _, _, _, _, rfl, .ty "list", tx1.x, tx1.kit "list", _, rfl, _, _, _, _, _, rfl, .ty "list", ty1.x, ty1.kit "list", rfl, _, rfl, iteDn (fun z => absurd rfl z) fun _ => ?_⟩
        refine ⟨_, rfl, (by show 2 ≤ sizeLine; decide), fun t2 nt2 => ?_⟩
        have s2 := Same.new (o := .tup [.ty "list", .ty "tuple"]) nt2
        refine ⟨_, _, _, _, _, _, rfl, upd_same, .cons (.ty _) (.cons (.ty _) .nil), (tx1.same s2).x, kitAnyLT tx1.names, _, rfl, ?_⟩
        have s3 := Same.trans s1 s2
        have sa := Same.seq s2 sa
        have sb := Same.seq s2 sb
        have pa := dpAll_same s2 pa
        have pb := dpAll_same s2 pb
        generalize upd H1 t2 (.tup [.ty "list", .ty "tuple"]) = H2 at *
        refine ⟨_, rfl, ?_⟩
        refine ⟨_, _, rfl, .inl ⟨_, sa, rfl⟩, ?_⟩
        refine ⟨_, rfl, _, _, rfl, .inl ⟨_, sb, rfl⟩, rfl, ?_⟩
        rw [lx, ly, decide_eq_true rfl]
        refine ⟨_, rfl, ?_⟩
        refine ⟨_, rfl, _, _, rfl, .inl ⟨_, sb, rfl⟩, ?_⟩
        rw [ly]
        obtain ⟨k, rfl⟩ : ∃ k', k = k' + 1 := ⟨k - 1, by omega⟩
        refine ⟨_, rfl, by omega, by omega, fun D nD => ?_⟩
        rw [Int.toNat_natCast]
        refine lc_bools walk_range (fun _ => true) nD (small1000' hw.1) (fun _ _ => trivial) ?_ ?_
        · intro i x H3 H4 R R' hi s4 y kk
          obtain ⟨rfl, rfl⟩ := y
          have hx' : i < xs.length := by omega
          have hy' : i < ys.length := by omega
          have e1 : xs[i]? = some xs[i] := List.getElem?_eq_getElem hx'
          have e2 : ys[i]? = some ys[i] := List.getElem?_eq_getElem hy'
          obtain ⟨d1, g1, p1⟩ := dpAll_get pa e1
          obtain ⟨d2, g2, p2⟩ := dpAll_get pb e2
          rw [g1] at g2
          cases g2
          have a1 : atI xs (0 + (i : Int)) = some xs[i] := by rw [Int.zero_add]; exact atI_nat e1
          have a2 : atI ys (0 + (i : Int)) = some ys[i] := by rw [Int.zero_add]; exact atI_nat e2
          refine ⟨rfl, _, rfl, _, rfl, .inl ⟨_, _, _, _, rfl, rfl, Same.seq s4 sa, a1, ?_⟩⟩
          refine ⟨_, rfl, _, rfl, .inl ⟨_, _, _, _, rfl, rfl, Same.seq s4 sb, a2, ?_⟩⟩
          exact ⟨_, _, d1, rfl, dp_same s4 p1, dp_same s4 p2, wideAll_get hw.2 g1, Nat.le_trans (depth_get g1) (by omega), kk⟩
        · intro H3 s4 e4
          refine ⟨_, _, rfl, SqL.of e4, ?_⟩
          rw [show ((List.range ds.length).map fun _ => true).all id = true by simp]
          exact q _ (Same.trans s3 s4)
      | tuple ds =>
        have tx1 : Ty K H1 _ _ := Dp.ty hx1
        have ty1 : Ty K H1 _ _ := Dp.ty hy1
        obtain ⟨a, xs, rfl, sa, pa⟩ : ∃ a xs, x = .ref a ∧ SqT K H1 a xs ∧ DpAll K H1 xs ds := by
          cases hx1 with | tup h1 h2 => exact ⟨_, _, rfl, h1, h2⟩
        obtain ⟨b, ys, rfl, sb, pb⟩ : ∃ b ys, y = .ref b ∧ SqT K H1 b ys ∧ DpAll K H1 ys ds := by
          cases hy1 with | tup h1 h2 => exact ⟨_, _, rfl, h1, h2⟩
        have lx := dpAll_len pa
        have ly := dpAll_len pb
        rw [wide, Bool.and_eq_true, decide_eq_true_eq] at hw
        rw [PyData.depth] at hk
        refine ⟨_, rfl, ?_⟩
        refine ⟨_, rfl, _, _, _, _, _, rfl, .ty "list", tx1.x, tx1.kit "list", _, rfl, _, _, _, _, _, rfl, .ty "list", ty1.x, ty1.kit "list", rfl, _, rfl, iteDn (fun z => absurd rfl z) fun _ => ?_⟩
        refine ⟨_, rfl, (by show 2 ≤ sizeLine; decide), fun t2 nt2 => ?_⟩
        have s2 := Same.new (o := .tup [.ty "list", .ty "tuple"]) nt2
        refine ⟨_, _, _, _, _, _, rfl, upd_same, .cons (.ty _) (.cons (.ty _) .nil), (tx1.same s2).x, kitAnyLT tx1.names, _, rfl, ?_⟩
        have s3 := Same.trans s1 s2
        have sa := Same.sqt s2 sa
        have sb := Same.sqt s2 sb
        have pa := dpAll_same s2 pa
        have pb := dpAll_same s2 pb
        generalize upd H1 t2 (.tup [.ty "list", .ty "tuple"]) = H2 at *
        refine ⟨_, rfl, ?_⟩
        refine ⟨_, _, rfl, .inr ⟨_, sa, rfl⟩, ?_⟩
        refine ⟨_, rfl, _, _, rfl, .inr ⟨_, sb, rfl⟩, rfl, ?_⟩
        rw [lx, ly, decide_eq_true rfl]
        refine ⟨_, rfl, ?_⟩
        refine ⟨_, rfl, _, _, rfl, .inr ⟨_, sb, rfl⟩, ?_⟩
        rw [ly]
        obtain ⟨k, rfl⟩ : ∃ k', k = k' + 1 := ⟨k - 1, by omega⟩
        refine ⟨_, rfl, by omega, by omega, fun D nD => ?_⟩
        rw [Int.toNat_natCast]
        refine lc_bools walk_range (fun _ => true) nD (small1000' hw.1) (fun _ _ => trivial) ?_ ?_
        · intro i x H3 H4 R R' hi s4 y kk
          obtain ⟨rfl, rfl⟩ := y
          have hx' : i < xs.length := by omega
          have hy' : i < ys.length := by omega
          have e1 : xs[i]? = some xs[i] := List.getElem?_eq_getElem hx'
          have e2 : ys[i]? = some ys[i] := List.getElem?_eq_getElem hy'
          obtain ⟨d1, g1, p1⟩ := dpAll_get pa e1
          obtain ⟨d2, g2, p2⟩ := dpAll_get pb e2
          rw [g1] at g2
          cases g2
          have a1 : atI xs (0 + (i : Int)) = some xs[i] := by rw [Int.zero_add]; exact atI_nat e1
          have a2 : atI ys (0 + (i : Int)) = some ys[i] := by rw [Int.zero_add]; exact atI_nat e2
          refine ⟨rfl, _, rfl, _, rfl, .inr (.inl ⟨_, _, _, _, rfl, rfl, Same.sqt s4 sa, a1, ?_⟩)⟩
          refine ⟨_, rfl, _, rfl, .inr (.inl ⟨_, _, _, _, rfl, rfl, Same.sqt s4 sb, a2, ?_⟩)⟩
          exact ⟨_, _, d1, rfl, dp_same s4 p1, dp_same s4 p2, wideAll_get hw.2 g1, Nat.le_trans (depth_get g1) (by omega), kk⟩
        · intro H3 s4 e4
          refine ⟨_, _, rfl, SqL.of e4, ?_⟩
          rw [show ((List.range ds.length).map fun _ => true).all id = true by simp]
          exact q _ (Same.trans s3 s4)
      | none =>
        have tx1 : Ty K H1 _ _ := Dp.ty hx1
        have ty1 : Ty K H1 _ _ := Dp.ty hy1
        cases hx1
        cases hy1
        refine ⟨_, rfl, ?_⟩
        refine ⟨_, rfl, _, rfl, rfl, ?_⟩
        rw [decide_eq_true rfl]
        refine ⟨_, rfl, _, rfl, _, _, _, _, _, rfl, .ty "bool", tx1.x, tx1.kit "bool", _, rfl, _, _, _, _, _, rfl, .ty "bool", ty1.x, ty1.kit "bool", rfl, ?_⟩
        rw [decide_eq_true rfl]
        exact q _ s1
      | bool b =>
        have tx1 : Ty K H1 _ _ := Dp.ty hx1
        have ty1 : Ty K H1 _ _ := Dp.ty hy1
        cases hx1
        cases hy1
        refine ⟨_, rfl, ?_⟩
        refine ⟨_, rfl, _, rfl, rfl, ?_⟩
        rw [decide_eq_true rfl]
        refine ⟨_, rfl, _, rfl, _, _, _, _, _, rfl, .ty "bool", tx1.x, tx1.kit "bool", _, rfl, _, _, _, _, _, rfl, .ty "bool", ty1.x, ty1.kit "bool", rfl, ?_⟩
        rw [decide_eq_true rfl]
        exact q _ s1
      | int i =>
        have tx1 : Ty K H1 _ _ := Dp.ty hx1
        have ty1 : Ty K H1 _ _ := Dp.ty hy1
        cases hx1
        cases hy1
        refine ⟨_, rfl, ?_⟩
        refine ⟨_, rfl, _, rfl, rfl, ?_⟩
        rw [decide_eq_true rfl]
        refine ⟨_, rfl, _, rfl, _, _, _, _, _, rfl, .ty "bool", tx1.x, tx1.kit "bool", _, rfl, _, _, _, _, _, rfl, .ty "bool", ty1.x, ty1.kit "bool", rfl, ?_⟩
        rw [decide_eq_true rfl]
        exact q _ s1
      | str u =>
        have tx1 : Ty K H1 _ _ := Dp.ty hx1
        have ty1 : Ty K H1 _ _ := Dp.ty hy1
        cases hx1
        cases hy1
        refine ⟨_, rfl, ?_⟩
        refine ⟨_, rfl, _, rfl, rfl, ?_⟩
        rw [decide_eq_true rfl]
        refine ⟨_, rfl, _, rfl, _, _, _, _, _, rfl, .ty "bool", tx1.x, tx1.kit "bool", _, rfl, _, _, _, _, _, rfl, .ty "bool", ty1.x, ty1.kit "bool", rfl, ?_⟩
        rw [decide_eq_true rfl]
        exact q _ s1
def spPurse (K : PySem.W.Frag) : Sp := fun vs H Q _ => ∃ (a : Addr) (ns : List Int) (k : Int), vs = [.ref a, .int k] ∧ SqL K H a (ns.map V.int) ∧ ns.length ≤ 1000 ∧ 0 ≤ k ∧ k ≤ 1000 ∧
  ∀ p x y, H p = none → 0 ≤ x → 0 ≤ y → y < 2 ^ 210 → Q (.ref p) (upd H p (.lst [.int x, .int y, .int 0]))
theorem ok_purse (T : Txt K mg) (F : At K mg "_law_purse" s__law_purse ["script", "k"]) : Dn P w K mg base CX0 1 "_law_purse" ["script", "k"] (spPurse K) := by
  refine F.ok sc__law_purse (fun vs H Q E h => ?_) (fun f cdv A outer s H vs Q E hr h => ?_)
  · obtain ⟨a, ns, k, rfl, _⟩ := h
    rfl
  · obtain ⟨a, ns, k, rfl, hS, hl, k0, k1, q⟩ := h
    have fin : ∀ cell : Int, ∀ p, H p = none → Q (.ref p) (upd H p (.lst [.int (if cell - 10 ^ (18 : Int).toNat > 0 then cell - 10 ^ (18 : Int).toNat else 0), .int (cell % (10 ^ (60 : Int).toNat + 7) + 611953 * k), .int 0])) := fun cell p hp => by
      have h1 : 0 ≤ cell % (10 ^ (60 : Int).toNat + 7) := Int.emod_nonneg _ (by decide)
      have h2 : cell % (10 ^ (60 : Int).toNat + 7) < 10 ^ (60 : Int).toNat + 7 := Int.emod_lt_of_pos _ (by decide)
      have h3 : (10 : Int) ^ (60 : Int).toNat + 7 + 611953 * 1000 < 2 ^ 210 := by decide
      refine q p _ _ hp ?_ ?_ ?_
      · split <;> omega
      · omega
      · omega
    refine ⟨_, (pss_cons (ps_set (i := 2) sc__law_purse.nd rfl (by first | exact Or.inl rfl | exact Or.inr rfl) pe_int)
  (pss_cons (ps_if (pt_cmpR op_lt (pv 1) (pe_callB (r := rLen K) call_len (by rfl) T.n_len (by decide +kernel) (pa_cons (pv 0) pa_nil)) (nomark _)) (pss_one (ps_set (i := 2) sc__law_purse.nd rfl (by first | exact Or.inl rfl | exact Or.inr rfl) (pe_ix (r := rIxL K) ix_list (pv 0) (pv 1) (fun _ _ => rfl)))) pss_nil)
  (pss_one (ps_ret (pe_lst (pa_cons (pe_callB (call_max2 rfl) (by rfl) T.n_max (by decide +kernel) (pa_cons pe_int (pa_cons (pe_op op_sub (pv 2) (pe_op op_pow pe_int pe_int)) pa_nil))) (pa_cons (pe_op op_add (pe_op op_mod (pv 2) (pe_op op_add (pe_op op_pow pe_int pe_int) pe_int)) (pe_op op_mul pe_int (pv 1))) (pa_cons pe_int pa_nil)))))))), ?_⟩
    walk_at "rd"
    refine ⟨_, _, rfl, .inl ⟨_, hS, rfl⟩, _, _, rfl, rfl, _, rfl, iteD (fun hk => ?_) fun _ => ?_⟩
    · obtain ⟨z, _, _, hz⟩ := at_ints (ns := ns) (k := k) k0 (by rw [List.length_map] at hk; exact hk)
      walk_at "rd"
      refine ⟨_, _, _, _, rfl, rfl, hS, hz, _, rfl, _, _, rfl, rfl, ⟨by decide, by decide, by decide⟩, _, _, rfl, rfl, _, _, rfl, _, rfl, _, _, rfl, rfl, ⟨by decide, by decide, by decide⟩, _, _, rfl, rfl, _, _, rfl, rfl, (by show (0 : Int) < _; decide), _, rfl, _, _, rfl, rfl, .inl ⟨by decide, by decide⟩, _, _, rfl, rfl, (by show 3 ≤ sizeLine; decide), fun p hp => fin z p hp⟩
    · refine ⟨_, rfl, _, _, rfl, rfl, ⟨by decide, by decide, by decide⟩, _, _, rfl, rfl, _, _, rfl, _, rfl, _, _, rfl, rfl, ⟨by decide, by decide, by decide⟩, _, _, rfl, rfl, _, _, rfl, rfl, (by show (0 : Int) < _; decide), _, rfl, _, _, rfl, rfl, .inl ⟨by decide, by decide⟩, _, _, rfl, rfl, (by show 3 ≤ sizeLine; decide), fun p hp => fin 0 p hp⟩
/-- a purse at p, of which at most c turns are taken -/
def Purse (H : Hp) (p : Addr) (c : Int) : Prop := ∃ x y z : Int, H p = some (.lst [.int x, .int y, .int z]) ∧ 0 ≤ x ∧ 0 ≤ y ∧ y < 2 ^ 210 ∧ 0 ≤ z ∧ z ≤ c
theorem Purse.mono {H : Hp} {p : Addr} {c d : Int} (h : Purse H p c) (l : c ≤ d) : Purse H p d := by
  obtain ⟨x, y, z, h1, h2, h3, h4, h5, h6⟩ := h
  exact ⟨x, y, z, h1, h2, h3, h4, h5, by omega⟩
theorem Purse.same {H H' : Hp} {p : Addr} {c : Int} (h : Purse H p c) (s : Same H H') : Purse H' p c := by
  obtain ⟨x, y, z, h1, h2⟩ := h
  exact ⟨x, y, z, s _ _ h1, h2⟩
/-- a draw: any number below many -/
def spDrawn : Sp := fun vs H Q _ => ∃ (p : Addr) (c many : Int), vs = [.ref p, .int many] ∧ Purse H p c ∧ c ≤ 100000 ∧ 0 < many ∧ many < 2 ^ 200 ∧
  ∀ v H', 0 ≤ v → v < many → Purse H' p (c + 1) → Kp p H H' → Q (.int v) H'
theorem ok_drawn (F : At K mg "_law_drawn" s__law_drawn ["purse", "many"]) : Dn P w K mg base CX0 1 "_law_drawn" ["purse", "many"] spDrawn := by
  refine F.ok sc__law_drawn (fun vs H Q E h => ?_) (fun f cdv A outer s H vs Q E hr h => ?_)
  · obtain ⟨p, c, many, rfl, _⟩ := h
    rfl
  · obtain ⟨p, c, many, rfl, ⟨x, y, z, hp, x0, y0, y1, z0, zc⟩, c1, m0, m1, q⟩ := h
    refine ⟨_, (pss_cons (ps_if (pt_cmpR op_gt (pe_ix (r := rIxL K) ix_list (pv 0) pe_int (fun _ _ => rfl)) pe_int (nomark _)) (pss_cons (ps_set (i := 2) sc__law_drawn.nd rfl (by first | exact Or.inl rfl | exact Or.inr rfl) (pe_op op_mod (pe_ix (r := rIxL K) ix_list (pv 0) pe_int (fun _ _ => rfl)) (pv 1)))
  (pss_cons (ps_asg (pe_op op_fdivW (pe_ix (r := rIxL K) ix_list (pv 0) pe_int (fun _ _ => rfl)) (pv 1)) (pg_sub (pv 0) pe_int set_list))
  (pss_one (ps_ret (pv 2))))) pss_nil)
  (pss_cons (ps_set (i := 3) sc__law_drawn.nd rfl (by first | exact Or.inl rfl | exact Or.inr rfl) (pe_op op_add (pe_ix (r := rIxL K) ix_list (pv 0) pe_int (fun _ _ => rfl)) pe_int))
  (pss_cons (ps_asg (pv 3) (pg_sub (pv 0) pe_int set_list))
  (pss_cons (ps_set (i := 4) sc__law_drawn.nd rfl (by first | exact Or.inl rfl | exact Or.inr rfl) (pe_op op_mod (pe_op op_powW (pe_op op_add (pe_op op_add (pe_ix (r := rIxL K) ix_list (pv 0) pe_int (fun _ _ => rfl)) (pe_op op_mul (pe_op op_mul pe_int (pv 3)) (pv 3))) (pe_op op_mul pe_int (pv 3))) pe_int) (pe_op op_add (pe_op op_pow pe_int pe_int) pe_int)))
  (pss_cons (ps_set (i := 4) sc__law_drawn.nd rfl (by first | exact Or.inl rfl | exact Or.inr rfl) (pe_op op_mod (pe_op op_powW (pe_op op_add (pv 4) (pe_op op_mul pe_int (pv 3))) pe_int) (pe_op op_add (pe_op op_pow pe_int pe_int) pe_int)))
  (pss_one (ps_ret (pe_op op_mod (pe_op op_fdiv (pv 4) pe_int) (pv 1))))))))), ?_⟩
    refine ⟨_, rfl, _, _, _, _, rfl, rfl, SqL.of hp, rfl, _, _, rfl, rfl, _, rfl, iteD (fun hx => ?_) fun hx => ?_⟩
    · refine ⟨_, rfl, _, _, _, _, rfl, rfl, SqL.of hp, rfl, _, rfl, _, _, rfl, rfl, m0, ?_⟩
      refine ⟨_, rfl, _, _, _, _, rfl, rfl, SqL.of hp, rfl, _, rfl, _, _, rfl, rfl, wide_div m0 (b := 200) (by omega) (by decide) (by decide), ?_⟩
      refine ⟨_, rfl, _, _, _, 0, rfl, rfl, hp, rfl, _, rfl, ?_⟩
      refine q _ _ (Int.emod_nonneg _ (by omega)) (Int.emod_lt_of_pos _ m0) ⟨_, y, z, upd_same, Int.ediv_nonneg x0 (by omega), y0, y1, z0, by omega⟩ Kp.put
    · have t0 : 0 ≤ z + 1 := by omega
      have t1 : z + 1 ≤ 100001 := by omega
      refine ⟨_, rfl, _, _, _, _, rfl, rfl, SqL.of hp, rfl, _, _, rfl, rfl, _, rfl, _, rfl, _, _, _, 2, rfl, rfl, hp, rfl, ?_⟩
      refine ⟨_, rfl, _, _, _, _, rfl, rfl, SqL.of upd_same, rfl, _, rfl, _, _, rfl, rfl, .inl ⟨by decide, by decide⟩, _, rfl, _, _, rfl, rfl, .inl ⟨by omega, by omega⟩, _, _, rfl, rfl, _, rfl, _, _, rfl, rfl, .inl ⟨by decide, by decide⟩, _, _, rfl, rfl, ?_⟩
      have b1 : (15485863 * (z + 1)) * (z + 1) ≤ 15485863 * 100001 * 100001 := Int.mul_le_mul (by omega) t1 t0 (by omega)
      have b0 : 0 ≤ (15485863 * (z + 1)) * (z + 1) := Int.mul_nonneg (by omega) t0
      refine ⟨_, _, rfl, rfl, CPowW.mk (a := 220) (n := 5) ?_ (by decide) (by decide), _, _, rfl, rfl, ⟨by decide, by decide, by decide⟩, _, _, rfl, rfl, _, _, rfl, rfl, (by show (0 : Int) < _; decide), ?_⟩
      · have e : (2 : Int) ^ 210 + 15485863 * 100001 * 100001 + 32452843 * 100001 < 2 ^ 220 := by decide
        have e2 : ((2 : Nat) ^ 220 : Nat) = (2 ^ 220 : Nat) := rfl
        omega
      generalize hm : ((y + 15485863 * (z + 1) * (z + 1) + 32452843 * (z + 1)) ^ (5 : Int).toNat % (10 ^ (18 : Int).toNat + 9) : Int) = m
      have m2 : 0 ≤ m := by rw [← hm]; exact Int.emod_nonneg _ (by decide)
      have m3 : m < 10 ^ (18 : Int).toNat + 9 := by rw [← hm]; exact Int.emod_lt_of_pos _ (by decide)
      refine ⟨_, rfl, _, rfl, _, _, rfl, rfl, .inl ⟨by decide, by decide⟩, _, _, rfl, rfl, _, _, rfl, rfl, CPowW.mk (a := 220) (n := 5) ?_ (by decide) (by decide), _, _, rfl, rfl, ⟨by decide, by decide, by decide⟩, _, _, rfl, rfl, _, _, rfl, rfl, (by show (0 : Int) < _; decide), ?_⟩
      · have e : (10 : Int) ^ (18 : Int).toNat + 9 + 49979687 * 100001 < 2 ^ 220 := by decide
        omega
      refine ⟨_, rfl, _, _, rfl, rfl, ⟨by decide, by decide⟩, _, rfl, _, _, rfl, rfl, m0, ?_⟩
      refine q _ _ (Int.emod_nonneg _ (by omega)) (Int.emod_lt_of_pos _ m0) ⟨x, y, z + 1, upd_same, x0, y0, y1, by omega, by omega⟩ Kp.put
/-- a tuple that is a shape of at most most places -/
def Good (most : Int) (H : Hp) (a : Addr) : Prop := ∃ g s m : Int, H a = some (.tup [.int g, .int s, .int m]) ∧ 1 ≤ g ∧ g ≤ 4 ∧ 1 ≤ s ∧ s ≤ 4 ∧ 0 ≤ m ∧ m ≤ 2 ∧ manyZ g s m ≤ most
theorem Good.same {most : Int} {H H' : Hp} {a : Addr} (h : Good most H a) (e : Same H H') : Good most H' a := by
  obtain ⟨g, s, m, e1, r⟩ := h
  exact ⟨g, s, m, e _ _ e1, r⟩
theorem Good.put {most : Int} {H : Hp} {a D : Addr} {xs : List V} {o : HO} (h : Good most H a) (e : H D = some (.lst xs)) : Good most (upd H D o) a := by
  obtain ⟨g, s, m, e1, r⟩ := h
  refine ⟨g, s, m, ?_, r⟩
  rw [upd_ne fun z => by rw [z, e] at e1; cases e1]
  exact e1
def spMould (K : PySem.W.Frag) : Sp := fun vs H Q _ => ∃ (p : Addr) (c most : Int), vs = [.ref p, .int most] ∧ Purse H p c ∧ c ≤ 100000 ∧ 2 ≤ most ∧
  ∀ a g s m H', Mould K H' a g s m → manyZ g s m ≤ most → Purse H' p (c + 1) → Kp p H H' → H a = none → Q (.ref a) H'
theorem ok_law_shape (T : Txt K mg) (D__law_drawn : Dn P w K mg base CX0 1 "_law_drawn" ["purse", "many"] spDrawn) (F : At K mg "_law_shape" s__law_shape ["purse", "most"]) : Dn P w K mg base CX0 2 "_law_shape" ["purse", "most"] (spMould K) := by
  refine F.ok sc__law_shape (fun vs H Q E h => ?_) (fun f cdv A outer s H vs Q E hr h => ?_)
  · obtain ⟨p, c, most, rfl, _⟩ := h
    rfl
  · obtain ⟨p, c, most, rfl, hp, c1, l0, q⟩ := h
    refine ⟨_, (pss_cons (ps_set (i := 2) sc__law_shape.nd rfl (by first | exact Or.inl rfl | exact Or.inr rfl) (pe_lst pa_nil))
  (pss_cons (ps_for PassesOwn.never rfl (pi_range2 (by rfl) T.n_range (pa_cons pe_int (pa_cons pe_int pa_nil))) (pg_name (i := 3) sc__law_shape.nd rfl (by first | exact Or.inl rfl | exact Or.inr rfl))
  (pss_one (ps_for PassesOwn.never rfl (pi_range2 (by rfl) T.n_range (pa_cons pe_int (pa_cons pe_int pa_nil))) (pg_name (i := 4) sc__law_shape.nd rfl (by first | exact Or.inl rfl | exact Or.inr rfl))
  (pss_one (ps_expr (pe_bmK K PySem.F.plainAttrs_list PySem.F.slot_list_extend PySem.F.type_list_extend mt_extend (pv 2) (pa_cons (pe_lc (own := [("sums", 5)]) (g := (gName 5)) (by rfl) sc__law_shape.nd (pi_range1 (by rfl) T.n_range (pa_cons pe_int pa_nil)) (blkOk_by (own := [("sums", 5)]) (N := ["purse", "most", "found", "groups", "size", "sums"]) (sc := defScope s__law_shape) (by decide +kernel)) (fun _ _ _ _ _ => (pg_name (i := 5) sc__law_shape.nd rfl (by first | exact Or.inl rfl | exact Or.inr rfl) (by first | exact Or.inr rfl | exact Or.inl rfl))) (fun _ _ _ _ _ => (pts_one (pt_cmpR op_le (pe_op op_add (pe_op op_mul (pv 3) (pe_op op_add (pv 4) pe_int)) (pv 5)) (pv 1) (nomark _)))) (fun _ _ _ _ _ => (pe_tup (pa_cons (pv 3) (pa_cons (pv 4) (pa_cons (pv 5) pa_nil)))))) pa_nil)))))))
  (pss_one (ps_ret (pe_ix (r := rIxL K) ix_list (pv 2) (pe_callD D__law_drawn (by first | exact hr | exact hr.mono (by decide)) (pa_cons (pv 0) (pa_cons (pe_callB (r := rLen K) call_len (by rfl) T.n_len (by decide +kernel) (pa_cons (pv 2) pa_nil)) pa_nil))) (fun _ _ => rfl)))))), ?_⟩
    refine ⟨(by show 0 ≤ sizeLine; decide), fun D nD => ?_⟩
    have pD : p ≠ D := fun e => by
      obtain ⟨_, _, _, e1, _⟩ := hp
      rw [e, nD] at e1
      cases e1
    refine ⟨_, _, rfl, ⟨by decide, by decide, by decide, by decide⟩, ?_⟩
    refine for_range (fun i σ H' => ∃ v3 v4 v5, σ = [some (.ref p), some (.int most), some (.ref D), v3, v4, v5] ∧ Same H H' ∧ ∃ as : List Addr, H' D = some (.lst (as.map V.ref)) ∧ as.length ≤ 12 * i ∧ (0 < i → as ≠ []) ∧ ∀ a ∈ as, Good most H' a ∧ H a = none)
      ⟨none, none, none, rfl, Same.new nD, [], upd_same, by decide, fun h => absurd h (by decide), fun _ h => by cases h⟩ ?_ ?_
    · rintro i σ H1 hi ⟨v3, v4, v5, rfl, p1, as, p2, p3, p4, p5⟩
      refine ⟨_, _, rfl, ⟨by decide, by decide, by decide, by decide⟩, ?_⟩
      refine for_range (fun j σ H' => ∃ v4 v5, σ = [some (.ref p), some (.int most), some (.ref D), some (.int (1 + (i : Int))), v4, v5] ∧ Same H H' ∧ ∃ as : List Addr, H' D = some (.lst (as.map V.ref)) ∧ as.length ≤ 12 * i + 3 * j ∧ (0 < i ∨ 0 < j → as ≠ []) ∧ ∀ a ∈ as, Good most H' a ∧ H a = none)
        ⟨v4, v5, rfl, p1, as, p2, by omega, fun h => p4 (by omega), p5⟩ ?_ ?_
      · rintro j σ H2 hj ⟨v4, v5, rfl, p1, as, p2, p3, p4, p5⟩
        refine ⟨_, rfl, .inl ⟨rfl, _, SqL.of p2⟩, ?_⟩
        refine ⟨_, rfl, by decide, by decide, fun d nd => ?_⟩
        refine lc_it walk_range (fun k H' => Same H2 H' ∧ ∃ bs : List Addr, H' d = some (.lst (bs.map V.ref)) ∧ bs.length ≤ k ∧ (0 < k → i = 0 → j = 0 → bs ≠ []) ∧ ∀ a ∈ bs, Good most H' a ∧ H2 a = none) ⟨Same.new nd, [], upd_same, by decide, fun h => absurd h (by decide), fun _ h => by cases h⟩ (fun _ _ _ _ => trivial) ?_ ?_
        · intro k x H' H3 hk pp y
          obtain ⟨rfl, rfl⟩ := y
          obtain ⟨q1, bs, q2, q3, q4, q5⟩ := pp
          have nb : ∀ {t : Addr}, H3 t = none → H2 t = none := fun {t} n => by
            cases h : H2 t with
            | none => rfl
            | some o => rw [q1 _ _ h] at n; cases n
          refine ⟨rfl, _, rfl, _, rfl, _, _, rfl, rfl, _, _, rfl, rfl, .inl ⟨by omega, by omega⟩, _, rfl, _, _, rfl, rfl, _, rfl, _, _, rfl, rfl, _, rfl, iteD (fun hle => ?_) fun hgt => ?_⟩
          · refine ⟨_, rfl, _, rfl, _, rfl, (by show 3 ≤ sizeLine; decide), fun t nt => ?_⟩
            have s3 := Same.new (o := .tup [.int (1 + (i : Int)), .int (1 + (j : Int)), .int (0 + (k : Int))]) nt
            have td : d ≠ t := fun e => by rw [e] at q2; rw [q2] at nt; cases nt
            have ed : upd H3 t (.tup [.int (1 + (i : Int)), .int (1 + (j : Int)), .int (0 + (k : Int))]) d = some (.lst (bs.map V.ref)) := s3 _ _ q2
            refine ⟨_, ed, ?_, fun b o e => ?_, bs ++ [t], by rw [upd_same, List.map_append]; rfl, by rw [List.length_append, List.length_singleton]; omega, fun _ _ _ => by simp, fun a ha => ?_⟩
            · rw [List.length_map]
              exact Nat.lt_of_lt_of_le (m := 1000) (by omega) (by decide)
            · rw [upd_ne (ne_of_none e nd)]
              exact s3 _ _ (q1 _ _ e)
            · rcases List.mem_append.mp ha with ha | ha
              · exact ⟨((q5 a ha).1.same s3).put ed, (q5 a ha).2⟩
              · rw [List.mem_singleton.mp ha]
                refine ⟨⟨1 + (i : Int), 1 + (j : Int), 0 + (k : Int), ?_, by omega, by omega, by omega, by omega, by omega, by omega, hle⟩, nb nt⟩
                rw [upd_ne (Ne.symm td)]
                exact upd_same
          · refine ⟨q1, bs, q2, by omega, fun _ i0 j0 => ?_, q5⟩
            subst i0 j0
            by_cases k0 : k = 0
            · subst k0
              exfalso
              apply hgt
              show _ ≤ _
              omega
            · exact q4 (by omega) rfl rfl
        · intro H3 pp
          obtain ⟨q1, bs, q2, q3, q4, q5⟩ := pp
          have s2 : (3 : Int).toNat = 3 := rfl
          rw [s2] at q3
          refine ⟨_, _, _, _, rfl, rfl, q1 _ _ p2, q2, ?_, _, v5, rfl, fun b o e => ?_, as ++ bs, by rw [upd_same, List.map_append], ?_, fun _ => ?_, fun a ha => ?_⟩
          · rw [List.length_map, List.length_map]
            exact Nat.le_trans (m := 1000) (by omega) (by decide)
          · rw [upd_ne (ne_of_none e nD)]
            exact q1 _ _ (p1 _ _ e)
          · rw [List.length_append]
            omega
          · intro e
            obtain ⟨e1, e2⟩ := List.append_eq_nil_iff.mp e
            by_cases h : 0 < i ∨ 0 < j
            · exact p4 h e1
            · exact q4 (by decide) (by omega) (by omega) e2
          · rcases List.mem_append.mp ha with ha | ha
            · exact ⟨((p5 a ha).1.same q1).put (q1 _ _ p2), (p5 a ha).2⟩
            · refine ⟨(q5 a ha).1.put (q1 _ _ p2), ?_⟩
              cases h : H a with
              | none => rfl
              | some o => have z := (q5 a ha).2; rw [p1 _ _ h] at z; cases z
      · rintro σ H2 ⟨v4, v5, rfl, p1, as, p2, p3, p4, p5⟩
        exact ⟨_, _, _, rfl, p1, as, p2, by omega, fun _ => p4 (.inr (by decide)), p5⟩
    · rintro σ H1 ⟨v3, v4, v5, rfl, p1, as, p2, p3, p4, p5⟩
      have n0 : as ≠ [] := p4 (by decide)
      have l0' : 0 < as.length := by
        cases as with
        | nil => exact absurd rfl n0
        | cons x y => simp
      have lt200 : ((as.length : Nat) : Int) < 2 ^ 200 := by
        have h4 : (5 - 1 : Int).toNat = 4 := rfl
        rw [h4] at p3
        have : (48 : Int) < 2 ^ 200 := by decide
        omega
      refine ⟨_, rfl, _, rfl, _, rfl, _, _, rfl, .inl ⟨_, SqL.of p2, rfl⟩, p, c, _, rfl, hp.same p1, c1, by rw [List.length_map]; omega, by rw [List.length_map]; exact lt200, fun v H2 v0 v1 hp2 k2 => ?_⟩
      rw [List.length_map] at v1
      have hv : v.toNat < as.length := by omega
      have ha : as[v.toNat] ∈ as := List.getElem_mem _
      obtain ⟨g, z, m, e, g1, g4, s1, s4, m0, m2, hm⟩ := (p5 _ ha).1
      have eD := k2 _ _ p2 (Ne.symm pD)
      have ea : H2 as[v.toNat] = some (.tup [.int g, .int z, .int m]) := k2 _ _ e fun z => by
        obtain ⟨_, _, _, e1, _⟩ := hp
        have := (p5 _ ha).2
        rw [z] at this
        rw [this] at e1
        cases e1
      have hat : atI (as.map V.ref) v = some (.ref as[v.toNat]) := by
        obtain ⟨n, rfl⟩ : ∃ n : Nat, v = (n : Int) := ⟨v.toNat, by omega⟩
        refine atI_nat ?_
        rw [List.getElem?_map, List.getElem?_eq_getElem (by simpa using hv)]
        rfl
      refine ⟨_, _, _, _, rfl, rfl, SqL.of eD, hat, ?_⟩
      exact q _ g z m H2 ⟨SqT.of ea, g1, g4, s1, s4, m0, m2⟩ hm hp2 ((Kp.of p1).trans k2) (p5 _ ha).2
-- F
def spData (K : PySem.W.Frag) : Sp := fun vs H Q _ => ∃ (p : Addr) (c wide : Int), vs = [.ref p, .int wide] ∧ Purse H p c ∧ c ≤ 50000 ∧ 0 ≤ wide ∧ wide ≤ 100 ∧
  ∀ (ds : List Int) r H', ds.length = wide.toNat → (∀ d ∈ ds, 0 ≤ d ∧ d ≤ 96) → H' r = some (.lst (ds.map V.int)) → H r = none → Kp p H H' → Purse H' p (c + 1 + 2 * wide) → Q (.ref r) H'
theorem Purse.ne {H : Hp} {p D : Addr} {c : Int} (h : Purse H p c) (n : H D = none) : p ≠ D := fun e => by
  obtain ⟨_, _, _, e1, _⟩ := h
  rw [e, n] at e1
  cases e1
-- F
/-- a list of lists of ints, whatever objects they are -/
structure Rows (K : PySem.W.Frag) (H : Hp) (r : Addr) (bs : List Addr) (rows : List (List Int)) : Prop where
  hd : SqL K H r (bs.map V.ref)
  len : bs.length = rows.length
  get : ∀ (i : Nat) (b : Addr) (row : List Int), bs[i]? = some b → rows[i]? = some row → SqL K H b (row.map V.int)
theorem Mat.rows {K : PySem.W.Frag} {H : Hp} {r : Addr} {as : List Addr} {rows : List (List Int)} (M : Mat H r as rows) : Rows K H r as rows := ⟨SqL.of M.hd, M.len, fun i b row e1 e2 => SqL.of (M.get i b row e1 e2)⟩
theorem Rows.same {K : PySem.W.Frag} {H H' : Hp} {r : Addr} {as : List Addr} {rows : List (List Int)} (M : Rows K H r as rows) (s : Same H H') : Rows K H' r as rows := ⟨s.seq M.hd, M.len, fun i b row e1 e2 => s.seq (M.get i b row e1 e2)⟩
theorem dp_list {K : PySem.W.Frag} {H : Hp} {a : Addr} {xs : List Int} (h : SqL K H a (xs.map V.int)) (hl : xs.length ≤ 1000000) : Dp K H (.ref a) (.list (xs.map PyData.int)) ∧ wide (.list (xs.map PyData.int)) = true ∧ PyData.depth (.list (xs.map PyData.int)) ≤ 1 := by
  refine ⟨dpL h, ?_, ?_⟩
  · rw [wide, wide_ints, List.length_map, decide_eq_true hl]
    rfl
  · have : ∀ xs : List Int, PyData.depthAll (xs.map PyData.int) = 0 := fun xs => by
      induction xs with
      | nil => rfl
      | cons x xs ih => rw [List.map_cons, PyData.depthAll, ih]; rfl
    rw [PyData.depth, this]
    decide
def spInOrder (K : PySem.W.Frag) : Sp := fun vs H Q _ => ∃ (d r : Addr) (as bs : List Addr) (rows : List (List Int)), vs = [.ref d, .ref r] ∧ DMat H d as rows ∧ Rows K H r bs rows ∧ rows.length ≤ 1000 ∧ (∀ row ∈ rows, row.length ≤ 1000) ∧ ∀ H', Same H H' → Q (.bl true) H'
theorem ok_in_order (T : Txt K mg) (D__law_same : Dn P w K mg base CX0 2 "_law_same" ["found", "due"] (spSame K 2)) (F : At K mg "_law_in_order" s__law_in_order ["found", "due"]) : Dn P w K mg base CX0 3 "_law_in_order" ["found", "due"] (spInOrder K) := by
  refine F.ok sc__law_in_order (fun vs H Q E h => ?_) (fun f cdv A outer s H vs Q E hr h => ?_)
  · obtain ⟨d, r, as, bs, rows, rfl, _⟩ := h
    rfl
  · obtain ⟨d, r, as, bs, rows, rfl, MD, MR, hl, hrl, q⟩ := h
    refine ⟨_, (pss_cons (ps_if (PW.pt (pw_or (pt_not (pt_val (pe_callB (r := rIsi K) call_isi (by rfl) T.n_isinstance (by decide +kernel) (pa_cons (pv 0) (pa_cons (pe_bltn (v := .ty "dict") (u := .type "dict") (by rfl) T.n_dict (by decide +kernel) (by exact rfl)) pa_nil))))) (pw_or1 (pt_not (pt_val (pe_callD D__law_same (by first | exact hr | exact hr.mono (by decide)) (pa_cons (pe_callTy (call_listDF rfl) (by rfl) T.n_list (by decide +kernel) (pa_cons (pv 0) pa_nil)) (pa_cons (pe_listRg rfl (by rfl) T.n_list (prg_1 (by rfl) T.n_range (pe_callB (r := rLen K) call_len (by rfl) T.n_len (by decide +kernel) (pa_cons (pv 1) pa_nil)))) pa_nil)))))))) (pss_one (ps_ret pe_bl)) pss_nil)
  (pss_one (ps_ret (pe_callB (r := rAll K) (cr_all rfl) (by rfl) T.n_all (by decide +kernel) (pa_cons (pe_lc (own := [("place", 2)]) (g := (gName 2)) (by rfl) sc__law_in_order.nd (pi_range1 (by rfl) T.n_range (pa_cons (pe_callB (r := rLen K) call_len (by rfl) T.n_len (by decide +kernel) (pa_cons (pv 1) pa_nil)) pa_nil)) (blkOk_by (own := [("place", 2)]) (N := ["found", "due", "place"]) (sc := defScope s__law_in_order) (by decide +kernel)) (fun _ _ _ _ _ => (pg_name (i := 2) sc__law_in_order.nd rfl (by first | exact Or.inl rfl | exact Or.inr rfl) (by first | exact Or.inr rfl | exact Or.inl rfl))) (fun _ _ _ _ _ => pts_nil) (fun _ _ _ _ _ => (pe_callD D__law_same (by first | exact hr | exact hr.mono (by decide)) (pa_cons (pe_dget (hu1 hr.units) (pv 0) (pv 2) (fun _ _ => rfl)) (pa_cons (pe_ix (r := rIxL K) ix_list (pv 1) (pv 2) (fun _ _ => rfl)) pa_nil))))) pa_nil))))), ?_⟩
    have ty : Ty K H (.ref d) "dict" := .dK MD.hd
    have al := MD.len
    have bl := MR.len
    refine ⟨_, rfl, _, _, _, _, _, rfl, .ty "dict", ty.x, ty.kit "dict", _, rfl, ?_⟩
    refine ⟨_, rfl, d, _, rfl, MD.hd, fun l1 H1 n1 s1 e1 => ?_⟩
    refine ⟨_, rfl, _, _, rfl, .inl ⟨_, s1.seq MR.hd, rfl⟩, ?_⟩
    rw [List.length_map]
    refine ⟨_, rfl, RgOk.of_le (by omega) (by omega) (by omega) (by omega), fun l2 n2 => ?_⟩
    have s2 := Same.new (o := .lst (rgV 0 (bs.length : Int))) n2
    have e2 : upd H1 l2 (.lst (rgV 0 (bs.length : Int))) l2 = some (.lst (rgV 0 (bs.length : Int))) := upd_same
    generalize upd H1 l2 (.lst (rgV 0 (bs.length : Int))) = H2 at *
    have k1 : (pairsD as).map (fun kv => kV kv.1) = ((List.range rows.length).map fun i : Nat => (i : Int)).map V.int := by
      unfold pairsD
      rw [List.map_map, List.map_map, al]
      rfl
    have k2 : rgV 0 (bs.length : Int) = ((List.range rows.length).map fun i : Nat => (i : Int)).map V.int := by
      unfold rgV
      rw [List.map_map, bl, show ((rows.length : Int) - 0).toNat = rows.length by omega]
      refine List.map_congr_left fun i _ => ?_
      show V.int (0 + (i : Int)) = V.int (i : Int)
      rw [Int.zero_add]
    rw [k1] at e1
    rw [k2] at e2
    obtain ⟨p1, p2, p3⟩ := dp_list (K := K) (SqL.of (s2 _ _ e1)) (by rw [List.length_map, List.length_range]; omega)
    obtain ⟨p4, p5, p6⟩ := dp_list (K := K) (SqL.of e2) (by rw [List.length_map, List.length_range]; omega)
    refine ⟨_, _, _, rfl, p1, p4, p2, p3, fun H3 s3 => ?_⟩
    have s03 := Same.trans s1 (Same.trans s2 s3)
    refine ⟨_, rfl, ?_⟩
    refine ⟨_, rfl, _, _, rfl, .inl ⟨_, s03.seq MR.hd, rfl⟩, ?_⟩
    rw [List.length_map]
    refine ⟨_, rfl, by omega, by omega, fun D nD => ?_⟩
    rw [bl, Int.toNat_natCast]
    refine lc_bools walk_range (fun _ => true) nD (small1000' (by omega)) (fun _ _ => trivial) ?_ ?_
    · intro i x H4 H5 R R' hi s4 y k
      obtain ⟨rfl, rfl⟩ := y
      have ha : i < as.length := by omega
      have hb : i < bs.length := by omega
      have ea : as[i]? = some as[i] := List.getElem?_eq_getElem ha
      have eb : bs[i]? = some bs[i] := List.getElem?_eq_getElem hb
      have er : rows[i]? = some rows[i] := List.getElem?_eq_getElem hi
      have s05 := Same.trans s03 s4
      have hrow := hrl _ (List.getElem_mem hi)
      have ga := s05 _ _ (MD.get i _ _ ea er)
      have gb := s05.seq (MR.get i _ _ eb er)
      obtain ⟨p1, p2, p3⟩ := dp_list (K := K) (SqL.of ga) (by omega)
      obtain ⟨p4, p5, p6⟩ := dp_list (K := K) gb (by omega)
      refine ⟨rfl, _, rfl, _, rfl, d, .ref as[i], rfl, .inl ⟨_, Sum.inl (i : Int), .inl (s05 _ _ MD.hd), (by show V.int (0 + (i : Int)) = V.int (i : Int); rw [Int.zero_add]), (pairsD_at ea).symm⟩, ?_⟩
      refine ⟨_, rfl, _, rfl, _, _, _, .ref bs[i], rfl, rfl, s05.seq MR.hd, ?_, ?_⟩
      · rw [Int.zero_add]
        exact atI_nat (by rw [List.getElem?_map, eb]; rfl)
      · exact ⟨_, _, _, rfl, p1, p4, p2, p3, k⟩
    · intro H4 s4 e4
      refine ⟨_, _, rfl, SqL.of e4, ?_⟩
      rw [show ((List.range rows.length).map fun _ => true).all id = true by simp]
      exact q _ (Same.trans s03 s4)
def spRow (K : PySem.W.Frag) : Sp := fun vs H Q _ => ∃ (p : Addr) (c most : Int), vs = [.ref p, .int most] ∧ Purse H p c ∧ c ≤ 50000 ∧ 0 ≤ most ∧ most ≤ 100 ∧
  ∀ (ns : List Int) r H', (ns.length : Int) ≤ most → (∀ d ∈ ns, 0 ≤ d ∧ d ≤ 96) → H' r = some (.lst (ns.map V.int)) → H r = none → Kp p H H' → Purse H' p (c + 1 + most) → Q (.ref r) H'
theorem ok_row (T : Txt K mg) (D__law_drawn : Dn P w K mg base CX0 1 "_law_drawn" ["purse", "many"] spDrawn) (F : At K mg "_law_row" s__law_row ["purse", "most"]) : Dn P w K mg base CX0 2 "_law_row" ["purse", "most"] (spRow K) := by
  refine F.ok sc__law_row (fun vs H Q E h => ?_) (fun f cdv A outer s H vs Q E hr h => ?_)
  · obtain ⟨p, c, most, rfl, _⟩ := h
    rfl
  · obtain ⟨p, c, most, rfl, hp, hc, m0, m1, q⟩ := h
    refine ⟨_, (pss_one (ps_ret (pe_lc (own := [("k", 2)]) (g := (gName 2)) (by rfl) sc__law_row.nd (pi_range1 (by rfl) T.n_range (pa_cons (pe_callD D__law_drawn (by first | exact hr | exact hr.mono (by decide)) (pa_cons (pv 0) (pa_cons (pe_op op_add (pv 1) pe_int) pa_nil))) pa_nil)) (blkOk_by (own := [("k", 2)]) (N := ["purse", "most", "k"]) (sc := defScope s__law_row) (by decide +kernel)) (fun _ _ _ _ _ => (pg_name (i := 2) sc__law_row.nd rfl (by first | exact Or.inl rfl | exact Or.inr rfl) (by first | exact Or.inr rfl | exact Or.inl rfl))) (fun _ _ _ _ _ => pts_nil) (fun _ _ _ _ _ => (pe_callD D__law_drawn (by first | exact hr | exact hr.mono (by decide)) (pa_cons (pv 0) (pa_cons pe_int pa_nil))))))), ?_⟩
    have b200 : (1000 : Int) < 2 ^ 200 := by decide
    refine ⟨_, rfl, _, rfl, _, _, rfl, rfl, p, c, _, rfl, hp, by omega, by omega, by omega, fun v H1 v0 v1 hp1 k1 => ?_⟩
    refine ⟨_, rfl, by omega, by omega, fun D nD => ?_⟩
    have pD : p ≠ D := hp1.ne nD
    have nD0 : H D = none := by
      cases h : H D with
      | none => rfl
      | some o => rw [k1 _ _ h (Ne.symm pD)] at nD; cases nD
    refine lc_it walk_range (fun i H' => Kp p H H' ∧ Purse H' p (c + 1 + i) ∧ ∃ ns : List Int, H' D = some (.lst (ns.map V.int)) ∧ ns.length = i ∧ ∀ d ∈ ns, 0 ≤ d ∧ d ≤ 96)
      ⟨k1.trans (Kp.new nD), by simpa using hp1.same (Same.new nD), [], upd_same, rfl, fun _ h => by cases h⟩ (fun _ _ _ _ => trivial) ?_ ?_
    · intro i x H2 H3 hi pp y
      obtain ⟨rfl, rfl⟩ := y
      obtain ⟨q1, q2, ns, q3, q4, q5⟩ := pp
      refine ⟨rfl, _, rfl, p, _, _, rfl, q2, by omega, by decide, by decide, fun d H4 d0 d1 hp4 k4 => ?_⟩
      have e4 := k4 _ _ q3 (Ne.symm pD)
      refine ⟨_, e4, by rw [List.length_map]; exact Nat.lt_of_lt_of_le (m := 1000000) (by omega) (by decide), fun b o e nb => ?_, ?_, ns ++ [d], by rw [upd_same, List.map_append]; rfl, by rw [List.length_append, q4]; rfl, fun x hx => ?_⟩
      · rw [upd_ne (ne_of_none e nD0)]
        exact k4 _ _ (q1 _ _ e nb) nb
      · obtain ⟨a1, a2, a3, a4, a5, a6, a7, a8, a9⟩ := hp4
        exact ⟨a1, a2, a3, by rw [upd_ne pD]; exact a4, a5, a6, a7, a8, by omega⟩
      · rcases List.mem_append.mp hx with hx | hx
        · exact q5 x hx
        · rw [List.mem_singleton.mp hx]
          exact ⟨d0, by omega⟩
    · intro H2 pp
      obtain ⟨q1, q2, ns, q3, q4, q5⟩ := pp
      exact q ns D H2 (by omega) q5 q3 nD0 q1 (q2.mono (by omega))
-- F
theorem rgc_cells {n w : Nat} (hn : n ≤ 60) (w1 : 1 ≤ w) (w2 : w ≤ 16) : RgC 0 (n : Int) (w : Int) (cellsN w n) := by
  have key : ∀ n : Fin 61, ∀ w : Fin 17, 1 ≤ w.val → (Builtin.Range.small 0 (n.val : Int) (w.val : Int) && decide (Builtin.Range.rangeSize 0 (n.val : Int) (w.val : Int) = cellsN w.val n.val)) = true := by decide +kernel
  have h := key ⟨n, by omega⟩ ⟨w, by omega⟩ w1
  rw [Bool.and_eq_true, decide_eq_true_eq] at h
  exact ⟨by omega, by omega, h.1, h.2⟩
theorem cut_any {ds : List Int} {lo n : Nat} {a b : Int} (ha : a = lo) (hb : b = ((lo + n : Nat) : Int)) : cutV (ds.map V.int) (some a) (some b) = ((ds.drop lo).take n).map V.int := by
  subst ha hb
  unfold cutV
  have e1 : HT.sIx (ds.map V.int).length 0 (some (lo : Int)) = min lo ds.length := by
    unfold HT.sIx
    rw [List.length_map]
    simp only
    split <;> omega
  have e2 : HT.sIx (ds.map V.int).length (ds.map V.int).length (some ((lo + n : Nat) : Int)) = min (lo + n) ds.length := by
    unfold HT.sIx
    rw [List.length_map]
    simp only
    split <;> omega
  rw [e1, e2, ← List.map_drop, ← List.map_take]
  congr 1
  apply List.ext_getElem?
  intro i
  rw [List.getElem?_take, List.getElem?_take, List.getElem?_drop, List.getElem?_drop]
  by_cases h : lo ≤ ds.length
  · rw [show min lo ds.length = lo by omega]
    by_cases h2 : i < n
    · rw [if_pos h2]
      split
      · rfl
      · rw [List.getElem?_eq_none (by omega)]
    · rw [if_neg h2, if_neg (by omega)]
  · rw [if_neg (by omega)]
    split
    · rw [List.getElem?_eq_none (by omega)]
    · rfl
theorem padded (ns : List Int) (lo n : Nat) : (ns.drop lo).take n ++ List.replicate (n - ((ns.drop lo).take n).length) (0 : Int) = (List.range n).map fun t => ns.getD (lo + t) 0 := by
  apply List.ext_getElem?
  intro i
  rw [List.getElem?_append, List.getElem?_map]
  by_cases h : i < n
  · rw [List.getElem?_range h]
    split
    · rename_i h1
      rw [List.getElem?_take, if_pos h, List.getElem?_drop]
      have : lo + i < ns.length := by rw [List.length_take, List.length_drop] at h1; omega
      simp [List.getD, this]
    · rename_i h1
      rw [List.length_take, List.length_drop] at h1 ⊢
      rw [List.getElem?_replicate, if_pos (by omega)]
      have : ns.length ≤ lo + i := by omega
      simp [List.getD, this]
  · have e : (List.range n)[i]? = none := by rw [List.getElem?_eq_none_iff, List.length_range]; omega
    rw [e]
    rw [if_neg (by rw [List.length_take]; omega), List.getElem?_replicate, if_neg (by omega)]
    rfl
def spPieces (K : PySem.W.Frag) : Sp := fun vs H Q _ => ∃ (a r : Addr) (g s m : Int) (ns : List Int), vs = [.ref a, .ref r] ∧ Mould K H a g s m ∧ SqL K H r (ns.map V.int) ∧ ns.length ≤ 60 ∧
  ∀ fo as H', Same H H' → Mat H' fo as (laidL g.toNat s.toNat m.toNat ns) → (∀ b ∈ fo :: as, H b = none) → Q (.ref fo) H'
theorem ok_pieces (T : Txt K mg) (D__law_filled : Dn P w K mg base CX0 1 "_law_filled" ["mould", "data"] (spFilled K)) (F : At K mg "_law_pieces" s__law_pieces ["mould", "row"]) : Dn P w K mg base CX0 2 "_law_pieces" ["mould", "row"] (spPieces K) := by
  refine F.ok sc__law_pieces (fun vs H Q E h => ?_) (fun f cdv A outer s H vs Q E hr h => ?_)
  · obtain ⟨a, r, g, s, m, ns, rfl, _⟩ := h
    rfl
  · obtain ⟨a, r, g, z, m, ns, rfl, M, hr', hl, q⟩ := h
    obtain ⟨G, Z, N, rfl, rfl, rfl⟩ := M.nat
    obtain ⟨ha, g1, g4, z1, z4, m0, m2⟩ := id M
    obtain ⟨l1, l2, l3, l4⟩ := M.le
    simp only [Int.toNat_natCast] at q
    have gz : G * Z ≤ 16 := Nat.mul_le_mul (show G ≤ 4 by omega) (show Z ≤ 4 by omega)
    have gz1 : 1 ≤ G * Z := Nat.mul_le_mul (show 1 ≤ G by omega) (show 1 ≤ Z by omega)
    have egz : (G : Int) * Z = ((G * Z : Nat) : Int) := (Int.natCast_mul ..).symm
    have mz : (G : Int) * ((Z : Int) + 1) + N = ((G * (Z + 1) + N : Nat) : Int) := by have := many_nat G Z N; unfold manyZ at this l2; unfold manyZ at l1; omega
    refine ⟨_, (pss_cons (ps_set (i := 2) sc__law_pieces.nd rfl (by first | exact Or.inl rfl | exact Or.inr rfl) (pe_op op_mul (pe_ix (r := rIxT K) ix_tup (pv 0) pe_int (fun _ _ => rfl)) (pe_ix (r := rIxT K) ix_tup (pv 0) pe_int (fun _ _ => rfl))))
  (pss_cons (ps_set (i := 3) sc__law_pieces.nd rfl (by first | exact Or.inl rfl | exact Or.inr rfl) (pe_op op_add (pe_op op_mul (pe_ix (r := rIxT K) ix_tup (pv 0) pe_int (fun _ _ => rfl)) (pe_op op_add (pe_ix (r := rIxT K) ix_tup (pv 0) pe_int (fun _ _ => rfl)) pe_int)) (pe_ix (r := rIxT K) ix_tup (pv 0) pe_int (fun _ _ => rfl))))
  (pss_cons (ps_setLc (i := 5) (own := [("place", 4)]) (g := (gName 4)) (by rfl) sc__law_pieces.nd rfl rfl (sw_true rfl rfl rfl (by decide +kernel)) (pi_range1 (by rfl) T.n_range (pa_cons (pv 3) pa_nil)) (blkOk_by (own := [("place", 4)]) (N := ["mould", "row", "wide", "many", "place", "found", "start", "data", "numbers"]) (sc := defScope s__law_pieces) (by decide +kernel)) (fun _ _ _ _ _ => (pg_name (i := 4) sc__law_pieces.nd rfl (by first | exact Or.inl rfl | exact Or.inr rfl) (by first | exact Or.inr rfl | exact Or.inl rfl))) (fun _ _ _ _ _ => pts_nil) (fun _ _ _ _ _ => (pe_lstF pa_nil)))
  (pss_cons (ps_for PassesOwn.never rfl (pi_range3 (by rfl) T.n_range (pa_cons pe_int (pa_cons (pe_callB (r := rLen K) call_len (by rfl) T.n_len (by decide +kernel) (pa_cons (pv 1) pa_nil)) (pa_cons (pv 2) pa_nil)))) (pg_name (i := 6) sc__law_pieces.nd rfl (by first | exact Or.inl rfl | exact Or.inr rfl))
  (pss_cons (ps_set (i := 7) sc__law_pieces.nd rfl (by first | exact Or.inl rfl | exact Or.inr rfl) (pe_slice (r := rSlLF K) sl_listF (pv 1) (po_some (pv 6)) (po_some (pe_op op_add (pv 6) (pv 2)))))
  (pss_cons (ps_set (i := 8) sc__law_pieces.nd rfl (by first | exact Or.inl rfl | exact Or.inr rfl) (pe_callD D__law_filled (by first | exact hr | exact hr.mono (by decide)) (pa_cons (pv 0) (pa_cons (pe_op op_catF (pv 7) (pe_op op_repF (pe_lstF (pa_cons pe_int pa_nil)) (pe_op op_sub (pv 2) (pe_callB (r := rLen K) call_len (by rfl) T.n_len (by decide +kernel) (pa_cons (pv 7) pa_nil))))) pa_nil))))
  (pss_one (ps_for PassesOwn.never rfl (pi_range1 (by rfl) T.n_range (pa_cons (pv 3) pa_nil)) (pg_name (i := 4) sc__law_pieces.nd rfl (by first | exact Or.inl rfl | exact Or.inr rfl))
  (pss_one (ps_expr (pe_bmK K PySem.F.plainAttrs_list PySem.F.slot_list_append PySem.F.type_list_append mt_append (pe_ix (r := rIxL K) ix_list (pv 5) (pv 4) (fun _ _ => rfl)) (pa_cons (pe_ix (r := rIxL K) ix_list (pv 8) (pv 4) (fun _ _ => rfl)) pa_nil)))))))))
  (pss_one (ps_ret (pv 5))))))), ?_⟩
    refine ⟨_, rfl, _, _, _, _, rfl, rfl, ha, rfl, _, rfl, _, _, _, _, rfl, rfl, ha, rfl, _, _, rfl, rfl, .inl ⟨by omega, by omega⟩, ?_⟩
    refine ⟨_, rfl, _, _, _, _, rfl, rfl, ha, rfl, _, rfl, _, _, _, _, rfl, rfl, ha, rfl, _, _, rfl, rfl, _, _, rfl, rfl, .inl ⟨by omega, by omega⟩, _, rfl, _, _, _, _, rfl, rfl, ha, rfl, _, _, rfl, rfl, ?_⟩
    simp only [egz, mz]
    refine ⟨_, rfl, _, rfl, by omega, by omega, fun fo nfo => ?_⟩
    rw [Int.toNat_natCast]
    refine lc_rows walk_range (fun _ => []) nfo (Nat.lt_of_lt_of_le (m := 1000) (by omega) (by decide)) (fun _ _ => trivial) ?_ ?_
    · intro i x H1 H2 R R' hi s1 y k
      obtain ⟨rfl, rfl⟩ := y
      exact ⟨rfl, Nat.zero_le _, fun d H3 nd s3 ed => k d H3 s3 nd ed⟩
    intro H1 as s1 M1 f1
    have al : as.length = G * (Z + 1) + N := by rw [M1.len, List.length_map, List.length_range]
    have fr : ∀ b ∈ fo :: as, H b = none := fun b hb => by
      rcases List.mem_cons.mp hb with rfl | hb
      · exact nfo
      · exact f1 b hb
    refine ⟨_, rfl, _, _, rfl, .inl ⟨_, s1.seq hr', rfl⟩, _, rfl, 0, _, _, cellsN (G * Z) ns.length, rfl, (by rw [List.length_map]; exact rgc_cells hl gz1 gz), ?_⟩
    refine for_it walk_rangeC (fun c σ H' => ∃ v4 v6 v7 v8, σ = [some (.ref a), some (.ref r), some (.int ((G * Z : Nat) : Int)), some (.int ((G * (Z + 1) + N : Nat) : Int)), v4, some (.ref fo), v6, v7, v8] ∧ Same H H' ∧
      Mat H' fo as ((List.range (G * (Z + 1) + N)).map fun p => (List.range c).map fun c => fillF G Z (fun t => ns.getD (c * (G * Z) + t) 0) p)) ⟨_, _, _, _, rfl, s1, by simpa using M1⟩ (fun _ _ _ _ _ => trivial) ?_ ?_
    · rintro c x σ H2 H3 hc ⟨v4, v6, v7, v8, rfl, s2, M2⟩ y
      obtain ⟨rfl, rfl⟩ := y
      have e1 : (0 : Int) + ((c : Nat) : Int) * ((G * Z : Nat) : Int) = ((c * (G * Z) : Nat) : Int) := by rw [Int.zero_add]; exact (Int.natCast_mul ..).symm
      have e2 : (0 : Int) + ((c : Nat) : Int) * ((G * Z : Nat) : Int) + ((G * Z : Nat) : Int) = ((c * (G * Z) + G * Z : Nat) : Int) := by rw [e1]; omega
      refine ⟨_, rfl, _, rfl, _, rfl, _, rfl, _, rfl, _, _, rfl, rfl, _, rfl, _, _, rfl, s2.seq hr', fun da H4 nda s4 eda => ?_⟩
      rw [cut_any e1 e2] at eda
      refine ⟨_, rfl, _, rfl, (by show 1 ≤ sizeLine; decide), fun l1 H5 nl1 s5 el1 => ?_⟩
      refine ⟨_, rfl, _, rfl, _, _, rfl, .inl ⟨_, SqL.of (s5 _ _ eda), rfl⟩, _, _, rfl, rfl, ?_⟩
      have rep0 : ∀ n : Nat, (List.replicate n [V.int 0]).flatten = (List.replicate n (0 : Int)).map V.int := fun n => by
        induction n with
        | zero => rfl
        | succ n ih => rw [List.replicate_succ, List.flatten_cons, ih, List.replicate_succ]; rfl
      have tl : ((ns.drop (c * (G * Z))).take (G * Z)).length ≤ G * Z := by rw [List.length_take]; omega
      refine ⟨_, _, _, rfl, rfl, el1, by rw [List.length_map]; omega, by rw [List.length_map]; omega, (by rw [List.length_map]; show 1 * _ ≤ _; rw [Nat.one_mul]; exact small1000' (by omega)), fun l2 H6 nl2 s6 el2 => ?_⟩
      rw [rep0, List.length_map, show (((G * Z : Nat) : Int) - ((((ns.drop (c * (G * Z))).take (G * Z)).length : Nat) : Int)).toNat = G * Z - ((ns.drop (c * (G * Z))).take (G * Z)).length by omega] at el2
      refine ⟨_, _, _, _, rfl, rfl, s6 _ _ (s5 _ _ eda), el2, (by simp only [List.length_map, List.length_replicate]; exact small1000' (by omega)), fun l3 H7 nl3 s7 el3 => ?_⟩
      rw [← List.map_append, padded] at el3
      have s37 := Same.trans s4 (Same.trans s5 (Same.trans s6 s7))
      have s07 := Same.trans s2 s37
      refine ⟨a, l3, G, Z, N, _, rfl, M.same s07, SqL.of el3, by rw [List.length_map, List.length_range]; simp, fun nu H8 s8 nnu enu => ?_⟩
      simp only [Int.toNat_natCast] at enu
      rw [fill_row (fun t => ns.getD (c * (G * Z) + t) 0) rfl] at enu
      have M8 := (M2.same s37).same s8
      have s08 := Same.trans s07 s8
      refine ⟨_, rfl, _, rfl, by omega, by omega, ?_⟩
      have nuf : nu ∉ fo :: as := fun h => by
        rcases List.mem_cons.mp h with rfl | h
        · rw [M2.same s37 |>.hd] at nnu
          cases nnu
        · obtain ⟨o, e⟩ := (M2.same s37).in h
          rw [e] at nnu
          cases nnu
      refine for_range (lo := 0) (fun j σ H' => ∃ v4, σ = [some (.ref a), some (.ref r), some (.int ((G * Z : Nat) : Int)), some (.int ((G * (Z + 1) + N : Nat) : Int)), v4, some (.ref fo), some (.int (0 + ((c : Nat) : Int) * ((G * Z : Nat) : Int))), some (.ref da), some (.ref nu)] ∧ Same H H' ∧ H' nu = some (.lst (((List.range (G * (Z + 1) + N)).map (fillF G Z fun t => ns.getD (c * (G * Z) + t) 0)).map V.int)) ∧
        Mat H' fo as ((List.range (G * (Z + 1) + N)).map fun p => (List.range (if p < j then c + 1 else c)).map fun c => fillF G Z (fun t => ns.getD (c * (G * Z) + t) 0) p)) ⟨v4, rfl, s08, enu, by simpa using M8⟩ ?_ ?_
      · rintro j σ H9 hj ⟨v4, rfl, s9, en9, M9⟩
        rw [Int.toNat_natCast] at hj
        have hja : j < as.length := by omega
        have ea : as[j]? = some as[j] := List.getElem?_eq_getElem hja
        have eaj : as[j] ∈ as := List.getElem_mem hja
        have er := M9.get j _ ((List.range c).map fun c => fillF G Z (fun t => ns.getD (c * (G * Z) + t) 0) j) ea (by rw [List.getElem?_map, List.getElem?_range hj]; simp)
        have at1 : atI (as.map V.ref) (0 + (j : Int)) = some (.ref as[j]) := by
          rw [Int.zero_add]
          exact atI_nat (by rw [List.getElem?_map, ea]; rfl)
        have at2 : atI (((List.range (G * (Z + 1) + N)).map (fillF G Z fun t => ns.getD (c * (G * Z) + t) 0)).map V.int) (0 + (j : Int)) = some (.int (fillF G Z (fun t => ns.getD (c * (G * Z) + t) 0) j)) := by
          rw [Int.zero_add]
          exact atI_nat (by simp [hj])
        refine ⟨_, rfl, _, rfl, _, _, _, .ref as[j], rfl, rfl, SqL.of M9.hd, at1, .inl ⟨rfl, _, SqL.of er⟩, ?_⟩
        refine ⟨_, rfl, _, rfl, _, _, _, _, rfl, rfl, SqL.of en9, at2, ?_⟩
        refine ⟨_, _, _, rfl, rfl, er, (by simp only [List.length_map, List.length_range]; have := cells_le (n := ns.length) gz1; exact Nat.lt_of_lt_of_le (m := 1000) (by omega) (by decide)), ?_⟩
        have rw1 : ((List.range c).map fun c => fillF G Z (fun t => ns.getD (c * (G * Z) + t) 0) j).map V.int ++ [V.int (fillF G Z (fun t => ns.getD (c * (G * Z) + t) 0) j)] = ((List.range (c + 1)).map fun c => fillF G Z (fun t => ns.getD (c * (G * Z) + t) 0) j).map V.int := by
          rw [List.range_succ]
          simp only [List.map_append, List.map_cons, List.map_nil]
        rw [rw1]
        refine ⟨_, rfl, fun b o e => ?_, ?_, ?_⟩
        · have : b ≠ as[j] := fun z => by rw [z, fr _ (List.mem_cons_of_mem _ eaj)] at e; cases e
          rw [upd_ne this]
          exact s9 _ _ e
        · rw [upd_ne fun z => nuf (List.mem_cons_of_mem _ (by rw [z]; exact eaj))]
          exact en9
        · have M10 := M9.put ea ((List.range (c + 1)).map fun c => fillF G Z (fun t => ns.getD (c * (G * Z) + t) 0) j)
          have ee : (((List.range (G * (Z + 1) + N)).map fun p => (List.range (if p < j then c + 1 else c)).map fun c => fillF G Z (fun t => ns.getD (c * (G * Z) + t) 0) p)).set j ((List.range (c + 1)).map fun c => fillF G Z (fun t => ns.getD (c * (G * Z) + t) 0) j) = (List.range (G * (Z + 1) + N)).map fun p => (List.range (if p < j + 1 then c + 1 else c)).map fun c => fillF G Z (fun t => ns.getD (c * (G * Z) + t) 0) p := by
            apply List.ext_getElem?
            intro p
            by_cases hp : p = j
            · subst hp
              rw [List.getElem?_set_self (by rw [List.length_map, List.length_range]; exact hj), List.getElem?_map, List.getElem?_range hj]
              simp
            · rw [List.getElem?_set_ne (Ne.symm hp)]
              by_cases hp2 : p < G * (Z + 1) + N
              · rw [List.getElem?_map, List.getElem?_map, List.getElem?_range hp2]
                by_cases h : p < j
                · simp [h, show p < j + 1 by omega]
                · simp [h, show ¬ p < j + 1 by omega]
              · simp [List.getElem?_eq_none, show G * (Z + 1) + N ≤ p by omega]
          rw [ee] at M10
          exact M10
      · rintro σ H9 ⟨v4, rfl, s9, en9, M9⟩
        rw [Int.toNat_natCast] at M9
        refine ⟨_, _, _, _, rfl, s9, ?_⟩
        have ee : ((List.range (G * (Z + 1) + N)).map fun p => (List.range (if p < G * (Z + 1) + N then c + 1 else c)).map fun c => fillF G Z (fun t => ns.getD (c * (G * Z) + t) 0) p) = (List.range (G * (Z + 1) + N)).map fun p => (List.range (c + 1)).map fun c => fillF G Z (fun t => ns.getD (c * (G * Z) + t) 0) p :=
          List.map_congr_left fun p hp => by rw [if_pos (List.mem_range.mp hp)]
        rw [ee] at M9
        exact M9
    · rintro σ H2 ⟨v4, v6, v7, v8, rfl, s2, M2⟩
      exact ⟨_, rfl, q fo as H2 s2 M2 fr⟩
-- F
theorem times_size6 (n : Nat) (h : n ≤ 63) : 0 ≤ (if (if (6 : Int) < (n : Int) then (6 : Int) else (n : Int)) > 1 then (if (6 : Int) < (n : Int) then (6 : Int) else (n : Int)) else 1) ∧ (if (if (6 : Int) < (n : Int) then (6 : Int) else (n : Int)) > 1 then (if (6 : Int) < (n : Int) then (6 : Int) else (n : Int)) else 1) ≤ 6 := by
  split <;> split <;> omega
theorem laid_len (G Z N : Nat) (ns : List Int) : (laidL G Z N ns).length = G * (Z + 1) + N := by
  unfold laidL
  rw [List.length_map, List.length_range]
theorem laid_row {G Z N : Nat} {ns row : List Int} (h : row ∈ laidL G Z N ns) : row.length = cellsN (G * Z) ns.length := by
  unfold laidL at h
  obtain ⟨p, _, rfl⟩ := List.mem_map.mp h
  rw [List.length_map, List.length_range]
theorem laid_none {G Z N : Nat} (h : 1 ≤ G * Z) : laidL G Z N [] = (List.range (G * (Z + 1) + N)).map fun _ => [] := by
  unfold laidL cellsN
  rw [show ([] : List Int).length + G * Z - 1 = G * Z - 1 by simp, Nat.div_eq_of_lt (by omega)]
  rfl
theorem dmat_on {H H' : Hp} {r : Addr} {as : List Addr} {rows : List (List Int)} (M : DMat H r as rows) (k : ∀ b ∈ r :: as, ∀ o, H b = some o → H' b = some o) : DMat H' r as rows :=
  ⟨k _ (List.mem_cons_self ..) _ M.hd, M.nd, M.len, fun i a row e1 e2 => k _ (List.mem_cons_of_mem _ (List.mem_of_getElem? e1)) _ (M.get i a row e1 e2)⟩
def spLaw (K : PySem.W.Frag) : Sp := fun vs H Q _ => ∃ (a : Addr) (ns : List Int), vs = [.ref a] ∧ SqL K H a (ns.map V.int) ∧ ns.length ≤ 63 ∧ ∀ H', Q (.bl true) H'
theorem ok_law (T : Txt K mg) {dv : V} (hdv : dv = .ref (He.ga K "PLAIN")) (D__law_purse : Dn P w K mg base CX0 1 "_law_purse" ["script", "k"] (spPurse K)) (D__law_shape : Dn P w K mg base CX0 2 "_law_shape" ["purse", "most"] (spMould K))
    (D__law_row : Dn P w K mg base CX0 2 "_law_row" ["purse", "most"] (spRow K)) (D__law_pieces : Dn P w K mg base CX0 2 "_law_pieces" ["mould", "row"] (spPieces K)) (D__law_in_order : Dn P w K mg base CX0 3 "_law_in_order" ["found", "due"] (spInOrder K)) (D_laid : DnK P w K mg base CX0 13 "laid" ["row"] "shape" dv (spLaid K))
    {f : Addr} {fd : FuncData} (F : FunD K "law" "law" (defArgs s_law) (defBody s_law) (defScope s_law) [] [] f fd) : FnOk P w K mg base CX0 14 f fd ["script"] (spLaw K) := by
  refine ok0 F sc_law (fun vs H Q E h => ?_) (fun f cdv A outer s H vs Q E hr h => ?_)
  · obtain ⟨a, ns, rfl, _⟩ := h
    rfl
  · obtain ⟨a, zs, rfl, hS, hl, q⟩ := h
    refine ⟨_, (pss_cons (ps_for PassesOwn.never rfl (pi_range1 (by rfl) T.n_range (pa_cons (pe_callB (call_max2 rfl) (by rfl) T.n_max (by decide +kernel) (pa_cons pe_int (pa_cons (pe_callB (call_min2 rfl) (by rfl) T.n_min (by decide +kernel) (pa_cons pe_int (pa_cons (pe_callB (r := rLen K) call_len (by rfl) T.n_len (by decide +kernel) (pa_cons (pv 0) pa_nil)) pa_nil))) pa_nil))) pa_nil)) (pg_name (i := 1) sc_law.nd rfl (by first | exact Or.inl rfl | exact Or.inr rfl))
  (pss_cons (ps_set (i := 2) sc_law.nd rfl (by first | exact Or.inl rfl | exact Or.inr rfl) (pe_callD D__law_purse (by first | exact hr | exact hr.mono (by decide)) (pa_cons (pv 0) (pa_cons (pv 1) pa_nil))))
  (pss_cons (ps_set (i := 3) sc_law.nd rfl (by first | exact Or.inl rfl | exact Or.inr rfl) (pe_callD D__law_shape (by first | exact hr | exact hr.mono (by decide)) (pa_cons (pv 2) (pa_cons pe_int pa_nil))))
  (pss_cons (ps_set (i := 4) sc_law.nd rfl (by first | exact Or.inl rfl | exact Or.inr rfl) (pe_callD D__law_row (by first | exact hr | exact hr.mono (by decide)) (pa_cons (pv 2) (pa_cons pe_int pa_nil))))
  (pss_cons (ps_set (i := 5) sc_law.nd rfl (by first | exact Or.inl rfl | exact Or.inr rfl) (pe_callD D__law_pieces (by first | exact hr | exact hr.mono (by decide)) (pa_cons (pv 3) (pa_cons (pv 4) pa_nil))))
  (pss_cons (ps_set (i := 6) sc_law.nd rfl (by first | exact Or.inl rfl | exact Or.inr rfl) (pe_callTy (r := rListF K) call_listF (by rfl) T.n_list (by decide +kernel) (pa_cons (pv 4) pa_nil)))
  (pss_cons (ps_set (i := 7) sc_law.nd rfl (by first | exact Or.inl rfl | exact Or.inr rfl) (pe_callW D_laid (by first | exact hr | exact hr.mono (by decide)) (pa_cons (pv 6) pa_nil) (pv 3)))
  (pss_cons (ps_if (PW.pt (pw_or (pt_not (pt_val (pe_callD D__law_in_order (by first | exact hr | exact hr.mono (by decide)) (pa_cons (pv 7) (pa_cons (pv 5) pa_nil))))) (pw_or1 (pt_cmpR (r := rNeD K) (op_neD hr.units) (pv 6) (pv 4) (nomark _))))) (pss_one (ps_ret pe_bl)) pss_nil)
  (pss_cons (ps_expr (pe_bmK K PySem.F.plainAttrs_list PySem.F.slot_list_append PySem.F.type_list_append mt_append (pv 6) (pa_cons pe_int pa_nil)))
  (pss_cons (ps_set (i := 8) sc_law.nd rfl (by first | exact Or.inl rfl | exact Or.inr rfl) (pe_callW D_laid (by first | exact hr | exact hr.mono (by decide)) (pa_cons (pv 4) pa_nil) (pv 3)))
  (pss_cons (ps_setLc (i := 10) (own := [("place", 9)]) (g := (gName 9)) (by rfl) sc_law.nd rfl rfl (sw_true rfl rfl rfl (by decide +kernel)) (pi_range1 (by rfl) T.n_range (pa_cons (pe_callB (r := rLen K) call_len (by rfl) T.n_len (by decide +kernel) (pa_cons (pv 5) pa_nil)) pa_nil)) (blkOk_by (own := [("place", 9)]) (N := ["script", "k", "purse", "mould", "row", "due", "handed", "found", "again", "place", "sizes"]) (sc := defScope s_law) (by decide +kernel)) (fun _ _ _ _ _ => (pg_name (i := 9) sc_law.nd rfl (by first | exact Or.inl rfl | exact Or.inr rfl) (by first | exact Or.inr rfl | exact Or.inl rfl))) (fun _ _ _ _ _ => pts_nil) (fun _ _ _ _ _ => (pe_callB (r := rLen K) call_len (by rfl) T.n_len (by decide +kernel) (pa_cons (pe_dget (hu1 hr.units) (pv 7) (pv 9) (fun _ _ => rfl)) pa_nil))))
  (pss_cons (ps_for PassesOwn.never rfl (pi_range1 (by rfl) T.n_range (pa_cons (pe_callB (r := rLen K) call_len (by rfl) T.n_len (by decide +kernel) (pa_cons (pv 5) pa_nil)) pa_nil)) (pg_name (i := 9) sc_law.nd rfl (by first | exact Or.inl rfl | exact Or.inr rfl))
  (pss_one (ps_expr (pe_bmK K PySem.F.plainAttrs_list PySem.F.slot_list_append PySem.F.type_list_append mt_append (pe_dget (hu1 hr.units) (pv 7) (pv 9) (fun _ _ => rfl)) (pa_cons pe_int pa_nil)))))
  (pss_cons (ps_if (pt_cmpR (r := rNeD K) (op_neD hr.units) (pe_lc (own := [("place", 9)]) (g := (gName 9)) (by rfl) sc_law.nd (pi_range1 (by rfl) T.n_range (pa_cons (pe_callB (r := rLen K) call_len (by rfl) T.n_len (by decide +kernel) (pa_cons (pv 5) pa_nil)) pa_nil)) (blkOk_by (own := [("place", 9)]) (N := ["script", "k", "purse", "mould", "row", "due", "handed", "found", "again", "place", "sizes"]) (sc := defScope s_law) (by decide +kernel)) (fun _ _ _ _ _ => (pg_name (i := 9) sc_law.nd rfl (by first | exact Or.inl rfl | exact Or.inr rfl) (by first | exact Or.inr rfl | exact Or.inl rfl))) (fun _ _ _ _ _ => pts_nil) (fun _ _ _ _ _ => (pe_op op_sub (pe_callB (r := rLen K) call_len (by rfl) T.n_len (by decide +kernel) (pa_cons (pe_dget (hu1 hr.units) (pv 7) (pv 9) (fun _ _ => rfl)) pa_nil)) pe_int))) (pv 10) (nomark _)) (pss_one (ps_ret pe_bl)) pss_nil)
  (pss_cons (ps_expr (pe_dclear (pv 7)))
  (pss_cons (ps_if (PW.pt (pw_or (pt_not (pt_val (pe_callD D__law_in_order (by first | exact hr | exact hr.mono (by decide)) (pa_cons (pv 8) (pa_cons (pv 5) pa_nil))))) (pw_or1 (pt_not (pt_val (pe_callD D__law_in_order (by first | exact hr | exact hr.mono (by decide)) (pa_cons (pe_callW D_laid (by first | exact hr | exact hr.mono (by decide)) (pa_cons (pv 4) pa_nil) (pv 3)) (pa_cons (pv 5) pa_nil)))))))) (pss_one (ps_ret pe_bl)) pss_nil)
  (pss_cons (ps_if (pt_not (pt_val (pe_callD D__law_in_order (by first | exact hr | exact hr.mono (by decide)) (pa_cons (pe_callWd D_laid (by first | exact hr | exact hr.mono (by decide)) (pa_cons (pv 4) pa_nil)) (pa_cons (pe_callD D__law_pieces (by first | exact hr | exact hr.mono (by decide)) (pa_cons (pe_tupF (pa_cons pe_int (pa_cons pe_int (pa_cons pe_int pa_nil)))) (pa_cons (pv 4) pa_nil))) pa_nil))))) (pss_one (ps_ret pe_bl)) pss_nil)
  (pss_one (ps_if (PW.pt (pw_or (pt_not (pt_val (pe_callD D__law_in_order (by first | exact hr | exact hr.mono (by decide)) (pa_cons (pe_callW D_laid (by first | exact hr | exact hr.mono (by decide)) (pa_cons (pe_lstF pa_nil) pa_nil) (pv 3)) (pa_cons (pe_lc (own := [("place", 9)]) (g := (gName 9)) (by rfl) sc_law.nd (pi_list (pv 5)) (blkOk_by (own := [("place", 9)]) (N := ["script", "k", "purse", "mould", "row", "due", "handed", "found", "again", "place", "sizes"]) (sc := defScope s_law) (by decide +kernel)) (fun _ _ _ _ _ => (pg_name (i := 9) sc_law.nd rfl (by first | exact Or.inl rfl | exact Or.inr rfl) (by first | exact Or.inr rfl | exact Or.inl rfl))) (fun _ _ _ _ _ => pts_nil) (fun _ _ _ _ _ => (pe_lstF pa_nil))) pa_nil))))) (pw_or1 (pt_not (pt_val (pe_callD D__law_in_order (by first | exact hr | exact hr.mono (by decide)) (pa_cons (pe_callWd D_laid (by first | exact hr | exact hr.mono (by decide)) (pa_cons (pe_lstF pa_nil) pa_nil)) (pa_cons (pe_op op_repF (pe_lstF (pa_cons (pe_lstF pa_nil) pa_nil)) pe_int) pa_nil)))))))) (pss_one (ps_ret pe_bl)) pss_nil))))))))))))))))))
  (pss_one (ps_ret pe_bl))), ?_⟩
    subst hdv
    obtain ⟨z0, z1⟩ := times_size6 (zs.map V.int).length (by rw [List.length_map]; exact hl)
    refine ⟨_, rfl, _, _, rfl, .inl ⟨_, hS, rfl⟩, _, _, rfl, _, _, rfl, _, rfl, by omega, by omega, ?_⟩
    refine for_range (lo := 0) (fun i σ H' => ∃ v1 v2 v3 v4 v5 v6 v7 v8 v9 v10, σ = [some (.ref a), v1, v2, v3, v4, v5, v6, v7, v8, v9, v10] ∧ SqL K H' a (zs.map V.int)) ⟨none, none, none, none, none, none, none, none, none, none, rfl, hS⟩ ?_ ?_
    · rintro i_ σ H0 hi ⟨v1, v2, v3, v4, v5, v6, v7, v8, v9, v10, rfl, hS0⟩
      refine ⟨_, rfl, _, rfl, a, zs, _, rfl, hS0, by omega, by omega, by omega, fun p x y np x0 y0 y1 => ?_⟩
      have hp0 : Purse (upd H0 p (.lst [.int x, .int y, .int 0])) p 0 := ⟨x, y, 0, upd_same, x0, y0, y1, by omega, by omega⟩
      have s01 : Same H0 (upd H0 p (.lst [.int x, .int y, .int 0])) := Same.new np
      generalize upd H0 p (.lst [.int x, .int y, .int 0]) = H1 at *
      refine ⟨_, rfl, p, 0, 22, rfl, hp0, by omega, by omega, fun b g z m H2 M2 lm hp2 k2 nb => ?_⟩
      have pb : b ≠ p := Ne.symm (hp0.ne nb)
      obtain ⟨G, Z, N, rfl, rfl, rfl⟩ := M2.nat
      obtain ⟨l1', l2', l3', l4'⟩ := M2.le
      obtain ⟨hb2, g1, g4, z1', z4, m0, m2⟩ := id M2
      have gz : G * Z ≤ 16 := Nat.mul_le_mul (show G ≤ 4 by omega) (show Z ≤ 4 by omega)
      have gz1 : 1 ≤ G * Z := Nat.mul_le_mul (show 1 ≤ G by omega) (show 1 ≤ Z by omega)
      have mz := many_nat G Z N
      refine ⟨_, rfl, p, _, 60, rfl, hp2, by omega, by omega, by omega, fun ns r H3 nl nd er nr k3 hp3 => ?_⟩
      have M3 := M2.kp pb k3
      have s03 : Same H0 H3 := Kp.same s01 np (k2.trans k3)
      have nl' : ns.length ≤ 60 := by omega
      refine ⟨_, rfl, _, rfl, b, r, G, Z, N, ns, rfl, M3, SqL.of er, nl', fun fo as H4 s4 MF fF => ?_⟩
      simp only [Int.toNat_natCast] at MF
      refine ⟨_, rfl, _, _, rfl, .inl (SqL.of (s4 _ _ er)), fun hd H5 nhd s5 ehd => ?_⟩
      have s35 := Same.trans s4 s5
      refine ⟨_, rfl, _, rfl, rfl, rfl, hd, b, G, Z, N, ns, rfl, M3.same s35, ehd, nl', nd, fun d ds H6 s6 MD fD => ?_⟩
      simp only [Int.toNat_natCast] at MD
      have s36 := Same.trans s35 s6
      have s46 := Same.trans s5 s6
      have LB : (laidL G Z N ns).length ≤ 1000 := by rw [laid_len]; omega
      have C60 : cellsN (G * Z) ns.length ≤ 60 := Nat.le_trans (cells_le gz1) nl'
      have LR : ∀ row ∈ laidL G Z N ns, row.length ≤ 1000 := fun row h => by rw [laid_row h]; omega
      refine ⟨_, rfl, _, rfl, d, fo, ds, as, _, rfl, MD, Mat.rows (MF.same s46), LB, LR, fun H7 s7 => ?_⟩
      refine ⟨_, rfl, ?_⟩
      refine ⟨_, rfl, _, rfl, _, _, dpL (SqL.of (s7 _ _ (s6 _ _ ehd))), dpL (SqL.of (s7 _ _ (s36 _ _ er))), shL _, shL _, ?_⟩
      rw [eqvL, decide_eq_true rfl]
      refine ⟨_, rfl, ?_⟩
      have ehd7 := s7 _ _ (s6 _ _ ehd)
      refine ⟨_, rfl, .inl ⟨rfl, _, SqL.of ehd7⟩, _, _, _, rfl, rfl, ehd7, (by rw [List.length_map]; exact Nat.lt_of_lt_of_le (m := 1000) (by omega) (by decide)), ?_⟩
      have hdf : ∀ {c : Addr} {o : HO}, H4 c = some o → c ≠ hd := fun {c o} e z => by rw [z, nhd] at e; cases e
      have s48 : Same H4 (upd H7 hd (.lst (ns.map V.int ++ [.int 3]))) := fun c o e => by
        rw [upd_ne (hdf e)]
        exact s7 _ _ (s46 _ _ e)
      have hdd : hd ∉ d :: ds := fun h => by have := fD _ h; rw [ehd] at this; cases this
      have MD8 : DMat (upd H7 hd (.lst (ns.map V.int ++ [.int 3]))) d ds (laidL G Z N ns) := by
        have M7 := MD.same s7
        exact ⟨by rw [upd_ne (show d ≠ hd from fun z => hdd (by rw [← z]; exact List.mem_cons_self ..))]; exact M7.hd, M7.nd, M7.len, fun i c row e1 e2 => by rw [upd_ne (show c ≠ hd from fun z => hdd (by rw [← z]; exact List.mem_cons_of_mem _ (List.mem_of_getElem? e1)))]; exact M7.get i c row e1 e2⟩
      generalize upd H7 hd (.lst (ns.map V.int ++ [.int 3])) = H8 at *
      have s38 := Same.trans s4 s48
      have dl : ds.length = G * (Z + 1) + N := by rw [MD.len, laid_len]
      have fal : as.length = G * (Z + 1) + N := by rw [MF.len, laid_len]
      refine ⟨_, rfl, _, rfl, rfl, rfl, r, b, G, Z, N, ns, rfl, M3.same s38, s38 _ _ er, nl', nd, fun d2 ds2 H9 s9 MA fA => ?_⟩
      simp only [Int.toNat_natCast] at MA
      have s49 := Same.trans s48 s9
      have MD9 := MD8.same s9
      refine ⟨_, rfl, _, _, rfl, .inl ⟨_, SqL.of (s49 _ _ MF.hd), rfl⟩, ?_⟩
      rw [List.length_map, fal]
      refine ⟨_, rfl, by omega, by omega, fun sz nsz => ?_⟩
      rw [Int.toNat_natCast]
      have rowat : ∀ {H' : Hp} {rows : List (List Int)} {i : Nat}, DMat H' d ds rows → i < ds.length → ∃ c, ds[i]? = some c ∧ ∃ hi : i < rows.length, H' c = some (.lst (rows[i].map V.int)) := fun {H' rows i} M' hi => by
        have hi2 : i < rows.length := by rw [← M'.len]; exact hi
        exact ⟨ds[i], List.getElem?_eq_getElem hi, hi2, M'.get i _ _ (List.getElem?_eq_getElem hi) (List.getElem?_eq_getElem hi2)⟩
      refine lc_ints walk_range (fun _ => ((cellsN (G * Z) ns.length : Nat) : Int)) nsz (small1000' (by omega)) (fun _ _ => trivial) ?_ ?_
      · intro i x H10 H11 R R' hi s10 y k
        obtain ⟨rfl, rfl⟩ := y
        obtain ⟨c, ec, hi2, e⟩ := rowat (MD9.same s10) (show i < ds.length by omega)
        refine ⟨rfl, _, rfl, _, rfl, d, .ref c, rfl, .inl ⟨_, Sum.inl (i : Int), .inl (s10 _ _ MD9.hd), (by show V.int (0 + (i : Int)) = V.int (i : Int); rw [Int.zero_add]), (pairsD_at ec).symm⟩, _, _, rfl, .inl ⟨_, SqL.of e, rfl⟩, ?_⟩
        rw [List.length_map, laid_row (List.getElem_mem hi2)]
        exact k _ (Same.refl _)
      intro H10 s10 e10
      have MD10 := MD9.same s10
      have s410 := Same.trans s49 s10
      refine ⟨_, rfl, _, _, rfl, .inl ⟨_, SqL.of (s410 _ _ MF.hd), rfl⟩, ?_⟩
      rw [List.length_map, fal]
      refine ⟨_, rfl, by omega, by omega, ?_⟩
      have dn := MD.nd
      have nds : d ∉ ds := (List.nodup_cons.mp dn).1
      have szf : sz ∉ d :: ds := fun h => by
        rcases List.mem_cons.mp h with rfl | h
        · rw [MD9.hd] at nsz
          cases nsz
        · obtain ⟨o, e⟩ := MD9.in h
          rw [e] at nsz
          cases nsz
      refine for_range (lo := 0) (fun i σ H' => ∃ v9, σ = [some (.ref a), some (.int (0 + (i_ : Int))), some (.ref p), some (.ref b), some (.ref r), some (.ref fo), some (.ref hd), some (.ref d), some (.ref d2), v9, some (.ref sz)] ∧ (∀ c o, H10 c = some o → c ∉ ds → H' c = some o) ∧
        ∀ j c, ds[j]? = some c → ∃ L : List Int, H' c = some (.lst (L.map V.int)) ∧ L.length = cellsN (G * Z) ns.length + (if j < i then 1 else 0)) ⟨_, rfl, fun _ _ h _ => h, fun j c e => ?_⟩ ?_ ?_
      · have hj := (List.getElem?_eq_some_iff.mp e).1
        obtain ⟨c', ec, hi2, e'⟩ := rowat MD10 hj
        rw [e] at ec
        cases ec
        exact ⟨_, e', by rw [laid_row (List.getElem_mem hi2), if_neg (by omega)]; rfl⟩
      · rintro i σ H11 hi ⟨v9, rfl, p1, p2⟩
        rw [Int.toNat_natCast] at hi
        have hid : i < ds.length := by omega
        have ec : ds[i]? = some ds[i] := List.getElem?_eq_getElem hid
        obtain ⟨L, eL, lL⟩ := p2 i _ ec
        rw [if_neg (by omega)] at lL
        refine ⟨_, rfl, _, rfl, d, .ref ds[i], rfl, .inl ⟨_, Sum.inl (i : Int), .inl (p1 _ _ MD10.hd nds), (by show V.int (0 + (i : Int)) = V.int (i : Int); rw [Int.zero_add]), (pairsD_at ec).symm⟩, .inl ⟨rfl, _, SqL.of eL⟩, _, _, _, rfl, rfl, eL, (by rw [List.length_map, lL]; exact Nat.lt_of_lt_of_le (m := 1000) (by omega) (by decide)), ?_⟩
        refine ⟨_, rfl, fun c o e nb => ?_, fun j c' e => ?_⟩
        · rw [upd_ne (show c ≠ ds[i] from fun z => nb (z ▸ List.getElem_mem hid))]
          exact p1 c o e nb
        · by_cases hj : j = i
          · subst hj
            rw [ec] at e
            cases e
            exact ⟨L ++ [1], by rw [upd_same, List.map_append]; rfl, by rw [List.length_append, lL, if_pos (by omega)]; rfl⟩
          · obtain ⟨L', e', l'⟩ := p2 j c' e
            have cc : c' ≠ ds[i] := fun z => by
              rw [z] at e
              obtain ⟨q1, q2⟩ := List.getElem?_eq_some_iff.mp e
              exact hj ((List.getElem_inj (h₀ := q1) (h₁ := hid) (List.nodup_cons.mp dn).2).mp q2)
            refine ⟨L', by rw [upd_ne cc]; exact e', ?_⟩
            rw [l']
            by_cases h : j < i
            · rw [if_pos h, if_pos (by omega)]
            · rw [if_neg h, if_neg (by omega)]
      · rintro σ H11 ⟨v9, rfl, p1, p2⟩
        rw [Int.toNat_natCast] at p2
        have s411 : Same H4 H11 := fun c o e => p1 _ _ (s410 _ _ e) fun h => by
          have := fD c (List.mem_cons_of_mem _ h)
          rw [s5 _ _ e] at this
          cases this
        have ed11 := p1 _ _ MD10.hd nds
        refine ⟨_, rfl, _, _, rfl, .inl ⟨_, SqL.of (s411 _ _ MF.hd), rfl⟩, ?_⟩
        rw [List.length_map, fal]
        refine ⟨_, rfl, by omega, by omega, fun D nD => ?_⟩
        rw [Int.toNat_natCast]
        refine lc_ints walk_range (fun _ => ((cellsN (G * Z) ns.length : Nat) : Int)) nD (small1000' (by omega)) (fun _ _ => trivial) ?_ ?_
        · intro i x H12 H13 R R' hi s12 y k
          obtain ⟨rfl, rfl⟩ := y
          have hid : i < ds.length := by omega
          have ec : ds[i]? = some ds[i] := List.getElem?_eq_getElem hid
          obtain ⟨L, eL, lL⟩ := p2 i _ ec
          rw [if_pos hi] at lL
          refine ⟨rfl, _, rfl, _, rfl, d, .ref ds[i], rfl, .inl ⟨_, Sum.inl (i : Int), .inl (s12 _ _ ed11), (by show V.int (0 + (i : Int)) = V.int (i : Int); rw [Int.zero_add]), (pairsD_at ec).symm⟩, _, _, rfl, .inl ⟨_, SqL.of (s12 _ _ eL), rfl⟩, _, _, rfl, rfl, ?_⟩
          rw [List.length_map, lL]
          show R (.int (((cellsN (G * Z) ns.length + 1 : Nat) : Int) - 1)) _
          rw [show ((cellsN (G * Z) ns.length + 1 : Nat) : Int) - 1 = ((cellsN (G * Z) ns.length : Nat) : Int) by omega]
          exact k _ (Same.refl _)
        intro H12 s12 e12
        have esz := s12 _ _ (p1 _ _ e10 fun h => szf (List.mem_cons_of_mem _ h))
        refine ⟨_, rfl, _, _, dpL (SqL.of e12), dpL (SqL.of esz), shL _, shL _, ?_⟩
        rw [eqvL, decide_eq_true rfl]
        refine ⟨_, rfl, ?_⟩
        have ed12 := s12 _ _ ed11
        refine ⟨_, rfl, .inr (.inr (.inl ⟨rfl, .inl ⟨_, ed12⟩⟩)), _, _, rfl, rfl, ed12, ?_⟩
        have dH4 : ∀ {c : Addr} {o : HO}, H4 c = some o → c ≠ d := fun {c o} e z => by
          have := fD d (List.mem_cons_self ..)
          rw [← z, s5 _ _ e] at this
          cases this
        have s413 : Same H4 (upd H12 d (.dK [])) := fun c o e => by
          rw [upd_ne (dH4 e)]
          exact s12 _ _ (s411 _ _ e)
        have MA13 : DMat (upd H12 d (.dK [])) d2 ds2 (laidL G Z N ns) := dmat_on MA fun c hc o e => by
          have n8 := fA c hc
          have nd' : c ≠ d := fun z => by rw [z, MD8.hd] at n8; cases n8
          have nds' : c ∉ ds := fun h => by
            obtain ⟨o', e'⟩ := MD8.in h
            rw [e'] at n8
            cases n8
          rw [upd_ne nd']
          exact s12 _ _ (p1 _ _ (s10 _ _ e) nds')
        generalize upd H12 d (.dK []) = H13 at *
        have MF13 := Mat.rows (K := K) (MF.same s413)
        have s313 := Same.trans s4 s413
        refine ⟨_, rfl, _, rfl, d2, fo, ds2, as, _, rfl, MA13, MF13, LB, LR, fun H14 s14 => ?_⟩
        refine ⟨_, rfl, ?_⟩
        have s314 := Same.trans s313 s14
        refine ⟨_, rfl, _, rfl, rfl, rfl, r, b, G, Z, N, ns, rfl, M3.same s314, s314 _ _ er, nl', nd, fun d3 ds3 H15 s15 MB fB => ?_⟩
        simp only [Int.toNat_natCast] at MB
        have s415 := Same.trans s413 (Same.trans s14 s15)
        refine ⟨_, rfl, d3, fo, ds3, as, _, rfl, MB, Mat.rows (MF.same s415), LB, LR, fun H16 s16 => ?_⟩
        refine ⟨_, rfl, ?_⟩
        have s416 := Same.trans s415 s16
        have s316 := Same.trans s4 s416
        have hM : ∀ H', Mould K H' (He.ga K "PLAIN") 2 3 2 := fun H' => ⟨T.q_PLAIN _, by decide, by decide, by decide, by decide, by decide, by decide⟩
        refine ⟨_, rfl, r, _, 2, 3, 2, ns, rfl, hM _, s316 _ _ er, nl', nd, fun d4 ds4 H17 s17 MC fC => ?_⟩
        refine ⟨(by show 3 ≤ sizeLine; decide), fun t H18 nt s18 et => ?_⟩
        have s318 := Same.trans s316 (Same.trans s17 s18)
        refine ⟨_, rfl, t, r, 2, 3, 2, ns, rfl, ⟨SqT.of et, by decide, by decide, by decide, by decide, by decide, by decide⟩, SqL.of (s318 _ _ er), nl', fun f2 as2 H19 s19 MG fG => ?_⟩
        refine ⟨d4, f2, ds4, as2, _, rfl, MC.same (Same.trans s18 s19), Mat.rows MG, (by rw [laid_len]; decide), fun row h => by rw [laid_row h]; exact Nat.le_trans (cells_le (by decide)) (by omega), fun H20 s20 => ?_⟩
        refine ⟨_, rfl, ?_⟩
        have s320 := Same.trans s318 (Same.trans s19 s20)
        have s420 := Same.trans s416 (Same.trans s17 (Same.trans s18 (Same.trans s19 s20)))
        refine ⟨Nat.zero_le _, fun l1 H21 nl1 s21 el1 => ?_⟩
        have s321 := Same.trans s320 s21
        refine ⟨_, rfl, rfl, rfl, l1, b, G, Z, N, [], rfl, M3.same s321, el1, Nat.zero_le _, fun _ h => (by cases h), fun d5 ds5 H22 s22 ME fE => ?_⟩
        simp only [Int.toNat_natCast] at ME
        have s422 := Same.trans s420 (Same.trans s21 s22)
        refine ⟨_, rfl, _, rfl, ⟨_, SqL.of (s422 _ _ MF.hd)⟩, fun D2 nD2 => ?_⟩
        refine lc_rows walk_list (fun _ => []) nD2 (by rw [List.length_map, fal]; exact Nat.lt_of_lt_of_le (m := 1000) (by omega) (by decide)) (fun H' s => s.seq (SqL.of (s422 _ _ MF.hd))) ?_ ?_
        · intro i x H23 H24 R R' hi s23 y k
          obtain ⟨rfl, ex⟩ := y
          exact ⟨rfl, Nat.zero_le _, fun d' H3' nd' s3' ed' => k d' H3' s3' nd' ed'⟩
        intro H23 as3 s23 MH fH
        rw [List.length_map, fal, ← laid_none gz1] at MH
        refine ⟨d5, D2, ds5, as3, _, rfl, ME.same s23, Mat.rows MH, (by rw [laid_len]; omega), fun row h => by rw [laid_row h]; exact Nat.le_trans (cells_le gz1) (Nat.zero_le _), fun H24 s24 => ?_⟩
        refine ⟨_, rfl, ?_⟩
        refine ⟨Nat.zero_le _, fun l2 H25 nl2 s25 el2 => ?_⟩
        refine ⟨l2, _, 2, 3, 2, [], rfl, hM _, el2, Nat.zero_le _, fun _ h => (by cases h), fun d6 ds6 H26 s26 MI fI => ?_⟩
        refine ⟨Nat.zero_le _, fun l3 H27 nl3 s27 el3 => ?_⟩
        refine ⟨(by show 1 ≤ sizeLine; decide), fun l4 H28 nl4 s28 el4 => ?_⟩
        refine ⟨_, _, _, rfl, rfl, el4, by decide, by decide, (by show 1 * 10 ≤ sizeLine; decide), fun l5 H29 nl5 s29 el5 => ?_⟩
        have R10 : Rows K H29 l5 (List.replicate 10 l3) (laidL 2 3 2 []) := by
          refine ⟨SqL.of (by rw [el5]; rfl), rfl, fun i c row e1 e2 => ?_⟩
          have hc : c = l3 := List.eq_of_mem_replicate (List.mem_of_getElem? e1)
          have hr0 : row = [] := List.eq_nil_of_length_eq_zero (by rw [laid_row (List.mem_of_getElem? e2)]; rfl)
          subst hc hr0
          exact SqL.of (s29 _ _ (s28 _ _ el3))
        refine ⟨d6, l5, ds6, _, _, rfl, MI.same (Same.trans s27 (Same.trans s28 s29)), R10, by decide, fun row h => by rw [laid_row h]; decide, fun H30 s30 => ?_⟩
        refine ⟨_, rfl, ?_⟩
        have s330 : Same H3 H30 := Same.trans s321 (Same.trans s22 (Same.trans s23 (Same.trans s24 (Same.trans s25 (Same.trans s26 (Same.trans s27 (Same.trans s28 (Same.trans s29 s30))))))))
        exact ⟨_, _, _, _, _, _, _, _, _, _, rfl, (Same.trans s03 s330).seq hS0⟩
    · rintro σ H1 ⟨v1, v2, v3, v4, v5, v6, v7, v8, v9, v10, rfl, hS0⟩
      exact q _
end
def d_is_whole : He.DefD := ⟨("is_whole", none), "is_whole", "is_whole", defArgs s_is_whole, defBody s_is_whole, defScope s_is_whole, [], []⟩
def d_is_between : He.DefD := ⟨("is_between", none), "is_between", "is_between", defArgs s_is_between, defBody s_is_between, defScope s_is_between, [], []⟩
def d_is_rest : He.DefD := ⟨("is_rest", none), "is_rest", "is_rest", defArgs s_is_rest, defBody s_is_rest, defScope s_is_rest, [], []⟩
def d_times : He.DefD := ⟨("times", none), "times", "times", defArgs s_times, defBody s_times, defScope s_times, [], []⟩
def d_power : He.DefD := ⟨("power", none), "power", "power", defArgs s_power, defBody s_power, defScope s_power, [], []⟩
def d_sum_of_products : He.DefD := ⟨("sum_of_products", none), "sum_of_products", "sum_of_products", defArgs s_sum_of_products, defBody s_sum_of_products, defScope s_sum_of_products, [], []⟩
def d_is_shape : He.DefD := ⟨("is_shape", none), "is_shape", "is_shape", defArgs s_is_shape, defBody s_is_shape, defScope s_is_shape, [], []⟩
def d_check_shape : He.DefD := ⟨("check_shape", none), "check_shape", "check_shape", defArgs s_check_shape, defBody s_check_shape, defScope s_check_shape, [], []⟩
def d_count : He.DefD := ⟨("count", none), "count", "count", defArgs s_count, defBody s_count, defScope s_count, [], [("shape", .glo "PLAIN")]⟩
def d_is_place : He.DefD := ⟨("is_place", none), "is_place", "is_place", defArgs s_is_place, defBody s_is_place, defScope s_is_place, [], [("shape", .glo "PLAIN")]⟩
def d_check_place : He.DefD := ⟨("check_place", none), "check_place", "check_place", defArgs s_check_place, defBody s_check_place, defScope s_check_place, [], []⟩
def d_kind_of : He.DefD := ⟨("kind_of", none), "kind_of", "kind_of", defArgs s_kind_of, defBody s_kind_of, defScope s_kind_of, [], [("shape", .glo "PLAIN")]⟩
def d_data_places : He.DefD := ⟨("data_places", none), "data_places", "data_places", defArgs s_data_places, defBody s_data_places, defScope s_data_places, [], [("shape", .glo "PLAIN")]⟩
def d_mark : He.DefD := ⟨("mark", none), "mark", "mark", defArgs s_mark, defBody s_mark, defScope s_mark, [], [("shape", .glo "PLAIN")]⟩
def d_local_factor : He.DefD := ⟨("local_factor", none), "local_factor", "local_factor", defArgs s_local_factor, defBody s_local_factor, defScope s_local_factor, [], []⟩
def d_over_factor : He.DefD := ⟨("over_factor", none), "over_factor", "over_factor", defArgs s_over_factor, defBody s_over_factor, defScope s_over_factor, [], []⟩
def d_checks : He.DefD := ⟨("checks", none), "checks", "checks", defArgs s_checks, defBody s_checks, defScope s_checks, [], [("shape", .glo "PLAIN")]⟩
def d_units : He.DefD := ⟨("units", none), "units", "units", defArgs s_units, defBody s_units, defScope s_units, [], []⟩
def d_filled : He.DefD := ⟨("filled", none), "filled", "filled", defArgs s_filled, defBody s_filled, defScope s_filled, [], []⟩
def d_check_row : He.DefD := ⟨("check_row", none), "check_row", "check_row", defArgs s_check_row, defBody s_check_row, defScope s_check_row, [], []⟩
def d_cells_for : He.DefD := ⟨("cells_for", none), "cells_for", "cells_for", defArgs s_cells_for, defBody s_cells_for, defScope s_cells_for, [], [("shape", .glo "PLAIN")]⟩
def d_laid : He.DefD := ⟨("laid", none), "laid", "laid", defArgs s_laid, defBody s_laid, defScope s_laid, [], [("shape", .glo "PLAIN")]⟩
def d__law_purse : He.DefD := ⟨("_law_purse", none), "_law_purse", "_law_purse", defArgs s__law_purse, defBody s__law_purse, defScope s__law_purse, [], []⟩
def d__law_drawn : He.DefD := ⟨("_law_drawn", none), "_law_drawn", "_law_drawn", defArgs s__law_drawn, defBody s__law_drawn, defScope s__law_drawn, [], []⟩
def d__law_shape : He.DefD := ⟨("_law_shape", none), "_law_shape", "_law_shape", defArgs s__law_shape, defBody s__law_shape, defScope s__law_shape, [], []⟩
def d__law_filled : He.DefD := ⟨("_law_filled", none), "_law_filled", "_law_filled", defArgs s__law_filled, defBody s__law_filled, defScope s__law_filled, [], []⟩
def d__law_row : He.DefD := ⟨("_law_row", none), "_law_row", "_law_row", defArgs s__law_row, defBody s__law_row, defScope s__law_row, [], []⟩
def d__law_pieces : He.DefD := ⟨("_law_pieces", none), "_law_pieces", "_law_pieces", defArgs s__law_pieces, defBody s__law_pieces, defScope s__law_pieces, [], []⟩
def d__law_same : He.DefD := ⟨("_law_same", none), "_law_same", "_law_same", defArgs s__law_same, defBody s__law_same, defScope s__law_same, [], []⟩
def d__law_in_order : He.DefD := ⟨("_law_in_order", none), "_law_in_order", "_law_in_order", defArgs s__law_in_order, defBody s__law_in_order, defScope s__law_in_order, [], []⟩
def d_law : He.DefD := ⟨("law", none), "law", "law", defArgs s_law, defBody s_law, defScope s_law, [], []⟩
def fn : List He.DefD := [d_is_whole, d_is_between, d_is_rest, d_times, d_power, d_sum_of_products, d_is_shape, d_check_shape, d_count, d_is_place, d_check_place, d_kind_of, d_data_places, d_mark, d_local_factor, d_over_factor, d_checks, d_units, d_filled, d_check_row, d_cells_for, d_laid, d__law_purse, d__law_drawn, d__law_shape, d__law_filled, d__law_row, d__law_pieces, d__law_same, d__law_in_order, d_law]
def fa : List He.Fa := [.glo "is_whole", .glo "is_between", .glo "is_rest", .glo "times", .glo "power", .glo "sum_of_products", .glo "is_shape", .glo "check_shape", .glo "count", .glo "is_place", .glo "check_place", .glo "kind_of", .glo "data_places", .glo "mark", .glo "local_factor", .glo "over_factor", .glo "checks", .glo "units", .glo "filled", .glo "check_row", .glo "cells_for", .glo "laid", .glo "_law_purse", .glo "_law_drawn", .glo "_law_shape", .glo "_law_filled", .glo "_law_row", .glo "_law_pieces", .glo "_law_same", .glo "_law_in_order", .glo "law", .free "len", .free "max", .free "min", .free "range", .free "isinstance", .free "int", .free "bool", .free "tuple", .free "list", .free "divmod", .free "all", .free "sum", .free "zip", .free "dict", .free "enumerate", .int "PRIME" 97, .int "MOST" 60, .glo "PLAIN", .glo "MARKS"]
abbrev R : PySem.W.OpenRow := PySem.W.OpenLaw.row PySem.Challenge.rw_sherdhall_k08_rows_laid
def ex (K : PySem.W.Frag) : Bool := He.tupB K "PLAIN" [.int 2, .int 3, .int 2] && (He.tupB K "MARKS" [.int 1, .int 11, .int 40, .int 30])
abbrev hk : PySem.W.Hook := hookB 4 fa fn ex
def ob (s : PySem.W.SharedT) : AlB := obsB 4 fa fn ex (HandSHeadRun.getT s)
theorem ob_eq (s : PySem.W.SharedT) : ob s = hk.obs s.abs := obsB_eq (HandSHeadRun.getT_eq s)
def loose0 : List Str := ["__name__", "SherdError", "NoShape", "NoPlace", "NoRow", "is_whole", "is_between", "is_rest", "times", "power", "sum_of_products", "is_shape", "check_shape", "count", "is_place", "check_place", "kind_of", "data_places", "mark", "local_factor", "over_factor", "checks", "units", "filled", "check_row", "cells_for", "laid", "_law_purse", "_law_drawn", "_law_shape"]
def loose1 : List Str := ["_law_filled", "_law_row", "_law_pieces", "_law_same", "_law_in_order", "PRIME", "PLAIN", "MARKS", "MOST"]
def loose : List Str := loose0 ++ loose1
theorem run (w : World) : HandSHeadRun.RunEq R (PySem.W.view R.prog [44]) hk ob 12000 loose w := by
  intro os
  kernel_rfl
theorem facts {P : Program} {w : World} {K : PySem.W.Frag} {h : Heap} {mg : Str → Option Value} {f : Addr} (X : K.In h) (G : h.Ns mainGlobals mg) (hfa : mg ("law" : Str) = some (.ref f)) (c : He.SaysD fa fn K) (cx : ex K = true) :
    ∃ fd : FuncData, (∀ (s : Shared) (v : Value), BindsTo s fd ⟨[v], []⟩ [("script", v)]) ∧ ∀ base : Heap, K.In base → base.Ns mainGlobals mg → FnOk P w K mg base CX0 14 f fd ["script"] (spLaw K) := by
  obtain ⟨fd_is_whole, F_is_whole⟩ := c.def_ 0 (d := d_is_whole) rfl
  have A_is_whole : At K mg "is_whole" s_is_whole ["thing"] := ⟨_, _, F_is_whole, He.glo_ok X G (c.fact 0 (f := .glo "is_whole") rfl), F_is_whole.bindsN fun _ _ _ _ _ _ us hl => match us, hl with | [_], _ => rfl⟩
  obtain ⟨fd_is_between, F_is_between⟩ := c.def_ 1 (d := d_is_between) rfl
  have A_is_between : At K mg "is_between" s_is_between ["thing", "least", "most"] := ⟨_, _, F_is_between, He.glo_ok X G (c.fact 1 (f := .glo "is_between") rfl), F_is_between.bindsN fun _ _ _ _ _ _ us hl => match us, hl with | [_, _, _], _ => rfl⟩
  obtain ⟨fd_is_rest, F_is_rest⟩ := c.def_ 2 (d := d_is_rest) rfl
  have A_is_rest : At K mg "is_rest" s_is_rest ["thing"] := ⟨_, _, F_is_rest, He.glo_ok X G (c.fact 2 (f := .glo "is_rest") rfl), F_is_rest.bindsN fun _ _ _ _ _ _ us hl => match us, hl with | [_], _ => rfl⟩
  obtain ⟨fd_times, F_times⟩ := c.def_ 3 (d := d_times) rfl
  have A_times : At K mg "times" s_times ["one", "other"] := ⟨_, _, F_times, He.glo_ok X G (c.fact 3 (f := .glo "times") rfl), F_times.bindsN fun _ _ _ _ _ _ us hl => match us, hl with | [_, _], _ => rfl⟩
  obtain ⟨fd_power, F_power⟩ := c.def_ 4 (d := d_power) rfl
  have A_power : At K mg "power" s_power ["one", "many"] := ⟨_, _, F_power, He.glo_ok X G (c.fact 4 (f := .glo "power") rfl), F_power.bindsN fun _ _ _ _ _ _ us hl => match us, hl with | [_, _], _ => rfl⟩
  obtain ⟨fd_sum_of_products, F_sum_of_products⟩ := c.def_ 5 (d := d_sum_of_products) rfl
  have A_sum_of_products : At K mg "sum_of_products" s_sum_of_products ["factors", "numbers"] := ⟨_, _, F_sum_of_products, He.glo_ok X G (c.fact 5 (f := .glo "sum_of_products") rfl), F_sum_of_products.bindsN fun _ _ _ _ _ _ us hl => match us, hl with | [_, _], _ => rfl⟩
  obtain ⟨fd_is_shape, F_is_shape⟩ := c.def_ 6 (d := d_is_shape) rfl
  have A_is_shape : At K mg "is_shape" s_is_shape ["thing"] := ⟨_, _, F_is_shape, He.glo_ok X G (c.fact 6 (f := .glo "is_shape") rfl), F_is_shape.bindsN fun _ _ _ _ _ _ us hl => match us, hl with | [_], _ => rfl⟩
  obtain ⟨fd_check_shape, F_check_shape⟩ := c.def_ 7 (d := d_check_shape) rfl
  have A_check_shape : At K mg "check_shape" s_check_shape ["shape"] := ⟨_, _, F_check_shape, He.glo_ok X G (c.fact 7 (f := .glo "check_shape") rfl), F_check_shape.bindsN fun _ _ _ _ _ _ us hl => match us, hl with | [_], _ => rfl⟩
  obtain ⟨fd_count, F_count⟩ := c.def_ 8 (d := d_count) rfl
  have A_count : AtK K mg "count" s_count [] "shape" (.ref (He.ga K "PLAIN")) := atK_mk F_count (He.glo_ok X G (c.fact 8 (f := .glo "count") rfl)) (fun _ _ _ _ _ _ us ks l1 l2 => match us, ks, l1, l2 with | [], [_], _, _ => ⟨_, _, _, _, _, _, rfl, rfl, rfl⟩) (fun _ _ _ _ _ _ us ws l1 l2 => match us, ws, l1, l2 with | [], [_], _, _ => rfl)
  obtain ⟨fd_is_place, F_is_place⟩ := c.def_ 9 (d := d_is_place) rfl
  have A_is_place : AtK K mg "is_place" s_is_place ["thing"] "shape" (.ref (He.ga K "PLAIN")) := atK_mk F_is_place (He.glo_ok X G (c.fact 9 (f := .glo "is_place") rfl)) (fun _ _ _ _ _ _ us ks l1 l2 => match us, ks, l1, l2 with | [_], [_], _, _ => ⟨_, _, _, _, _, _, rfl, rfl, rfl⟩) (fun _ _ _ _ _ _ us ws l1 l2 => match us, ws, l1, l2 with | [_], [_], _, _ => rfl)
  obtain ⟨fd_check_place, F_check_place⟩ := c.def_ 10 (d := d_check_place) rfl
  have A_check_place : At K mg "check_place" s_check_place ["thing", "shape"] := ⟨_, _, F_check_place, He.glo_ok X G (c.fact 10 (f := .glo "check_place") rfl), F_check_place.bindsN fun _ _ _ _ _ _ us hl => match us, hl with | [_, _], _ => rfl⟩
  obtain ⟨fd_kind_of, F_kind_of⟩ := c.def_ 11 (d := d_kind_of) rfl
  have A_kind_of : AtK K mg "kind_of" s_kind_of ["place"] "shape" (.ref (He.ga K "PLAIN")) := atK_mk F_kind_of (He.glo_ok X G (c.fact 11 (f := .glo "kind_of") rfl)) (fun _ _ _ _ _ _ us ks l1 l2 => match us, ks, l1, l2 with | [_], [_], _, _ => ⟨_, _, _, _, _, _, rfl, rfl, rfl⟩) (fun _ _ _ _ _ _ us ws l1 l2 => match us, ws, l1, l2 with | [_], [_], _, _ => rfl)
  obtain ⟨fd_data_places, F_data_places⟩ := c.def_ 12 (d := d_data_places) rfl
  have A_data_places : AtK K mg "data_places" s_data_places [] "shape" (.ref (He.ga K "PLAIN")) := atK_mk F_data_places (He.glo_ok X G (c.fact 12 (f := .glo "data_places") rfl)) (fun _ _ _ _ _ _ us ks l1 l2 => match us, ks, l1, l2 with | [], [_], _, _ => ⟨_, _, _, _, _, _, rfl, rfl, rfl⟩) (fun _ _ _ _ _ _ us ws l1 l2 => match us, ws, l1, l2 with | [], [_], _, _ => rfl)
  obtain ⟨fd_mark, F_mark⟩ := c.def_ 13 (d := d_mark) rfl
  have A_mark : AtK K mg "mark" s_mark ["place"] "shape" (.ref (He.ga K "PLAIN")) := atK_mk F_mark (He.glo_ok X G (c.fact 13 (f := .glo "mark") rfl)) (fun _ _ _ _ _ _ us ks l1 l2 => match us, ks, l1, l2 with | [_], [_], _, _ => ⟨_, _, _, _, _, _, rfl, rfl, rfl⟩) (fun _ _ _ _ _ _ us ws l1 l2 => match us, ws, l1, l2 with | [_], [_], _, _ => rfl)
  obtain ⟨fd_local_factor, F_local_factor⟩ := c.def_ 14 (d := d_local_factor) rfl
  have A_local_factor : At K mg "local_factor" s_local_factor ["place", "group", "shape"] := ⟨_, _, F_local_factor, He.glo_ok X G (c.fact 14 (f := .glo "local_factor") rfl), F_local_factor.bindsN fun _ _ _ _ _ _ us hl => match us, hl with | [_, _, _], _ => rfl⟩
  obtain ⟨fd_over_factor, F_over_factor⟩ := c.def_ 15 (d := d_over_factor) rfl
  have A_over_factor : At K mg "over_factor" s_over_factor ["place", "number", "shape"] := ⟨_, _, F_over_factor, He.glo_ok X G (c.fact 15 (f := .glo "over_factor") rfl), F_over_factor.bindsN fun _ _ _ _ _ _ us hl => match us, hl with | [_, _, _], _ => rfl⟩
  obtain ⟨fd_checks, F_checks⟩ := c.def_ 16 (d := d_checks) rfl
  have A_checks : AtK K mg "checks" s_checks [] "shape" (.ref (He.ga K "PLAIN")) := atK_mk F_checks (He.glo_ok X G (c.fact 16 (f := .glo "checks") rfl)) (fun _ _ _ _ _ _ us ks l1 l2 => match us, ks, l1, l2 with | [], [_], _, _ => ⟨_, _, _, _, _, _, rfl, rfl, rfl⟩) (fun _ _ _ _ _ _ us ws l1 l2 => match us, ws, l1, l2 with | [], [_], _, _ => rfl)
  obtain ⟨fd_units, F_units⟩ := c.def_ 17 (d := d_units) rfl
  have A_units : AtN K mg "units" s_units [] "shape" := atN_mk F_units (He.glo_ok X G (c.fact 17 (f := .glo "units") rfl)) (fun _ _ _ _ _ _ us ws l1 l2 => match us, ws, l1, l2 with | [], [_], _, _ => rfl)
  obtain ⟨fd_filled, F_filled⟩ := c.def_ 18 (d := d_filled) rfl
  have A_filled : At K mg "filled" s_filled ["numbers", "basis"] := ⟨_, _, F_filled, He.glo_ok X G (c.fact 18 (f := .glo "filled") rfl), F_filled.bindsN fun _ _ _ _ _ _ us hl => match us, hl with | [_, _], _ => rfl⟩
  obtain ⟨fd_check_row, F_check_row⟩ := c.def_ 19 (d := d_check_row) rfl
  have A_check_row : At K mg "check_row" s_check_row ["thing"] := ⟨_, _, F_check_row, He.glo_ok X G (c.fact 19 (f := .glo "check_row") rfl), F_check_row.bindsN fun _ _ _ _ _ _ us hl => match us, hl with | [_], _ => rfl⟩
  obtain ⟨fd_cells_for, F_cells_for⟩ := c.def_ 20 (d := d_cells_for) rfl
  have A_cells_for : AtK K mg "cells_for" s_cells_for ["many"] "shape" (.ref (He.ga K "PLAIN")) := atK_mk F_cells_for (He.glo_ok X G (c.fact 20 (f := .glo "cells_for") rfl)) (fun _ _ _ _ _ _ us ks l1 l2 => match us, ks, l1, l2 with | [_], [_], _, _ => ⟨_, _, _, _, _, _, rfl, rfl, rfl⟩) (fun _ _ _ _ _ _ us ws l1 l2 => match us, ws, l1, l2 with | [_], [_], _, _ => rfl)
  obtain ⟨fd_laid, F_laid⟩ := c.def_ 21 (d := d_laid) rfl
  have A_laid : AtK K mg "laid" s_laid ["row"] "shape" (.ref (He.ga K "PLAIN")) := atK_mk F_laid (He.glo_ok X G (c.fact 21 (f := .glo "laid") rfl)) (fun _ _ _ _ _ _ us ks l1 l2 => match us, ks, l1, l2 with | [_], [_], _, _ => ⟨_, _, _, _, _, _, rfl, rfl, rfl⟩) (fun _ _ _ _ _ _ us ws l1 l2 => match us, ws, l1, l2 with | [_], [_], _, _ => rfl)
  obtain ⟨fd__law_purse, F__law_purse⟩ := c.def_ 22 (d := d__law_purse) rfl
  have A__law_purse : At K mg "_law_purse" s__law_purse ["script", "k"] := ⟨_, _, F__law_purse, He.glo_ok X G (c.fact 22 (f := .glo "_law_purse") rfl), F__law_purse.bindsN fun _ _ _ _ _ _ us hl => match us, hl with | [_, _], _ => rfl⟩
  obtain ⟨fd__law_drawn, F__law_drawn⟩ := c.def_ 23 (d := d__law_drawn) rfl
  have A__law_drawn : At K mg "_law_drawn" s__law_drawn ["purse", "many"] := ⟨_, _, F__law_drawn, He.glo_ok X G (c.fact 23 (f := .glo "_law_drawn") rfl), F__law_drawn.bindsN fun _ _ _ _ _ _ us hl => match us, hl with | [_, _], _ => rfl⟩
  obtain ⟨fd__law_shape, F__law_shape⟩ := c.def_ 24 (d := d__law_shape) rfl
  have A__law_shape : At K mg "_law_shape" s__law_shape ["purse", "most"] := ⟨_, _, F__law_shape, He.glo_ok X G (c.fact 24 (f := .glo "_law_shape") rfl), F__law_shape.bindsN fun _ _ _ _ _ _ us hl => match us, hl with | [_, _], _ => rfl⟩
  obtain ⟨fd__law_filled, F__law_filled⟩ := c.def_ 25 (d := d__law_filled) rfl
  have A__law_filled : At K mg "_law_filled" s__law_filled ["mould", "data"] := ⟨_, _, F__law_filled, He.glo_ok X G (c.fact 25 (f := .glo "_law_filled") rfl), F__law_filled.bindsN fun _ _ _ _ _ _ us hl => match us, hl with | [_, _], _ => rfl⟩
  obtain ⟨fd__law_row, F__law_row⟩ := c.def_ 26 (d := d__law_row) rfl
  have A__law_row : At K mg "_law_row" s__law_row ["purse", "most"] := ⟨_, _, F__law_row, He.glo_ok X G (c.fact 26 (f := .glo "_law_row") rfl), F__law_row.bindsN fun _ _ _ _ _ _ us hl => match us, hl with | [_, _], _ => rfl⟩
  obtain ⟨fd__law_pieces, F__law_pieces⟩ := c.def_ 27 (d := d__law_pieces) rfl
  have A__law_pieces : At K mg "_law_pieces" s__law_pieces ["mould", "row"] := ⟨_, _, F__law_pieces, He.glo_ok X G (c.fact 27 (f := .glo "_law_pieces") rfl), F__law_pieces.bindsN fun _ _ _ _ _ _ us hl => match us, hl with | [_, _], _ => rfl⟩
  obtain ⟨fd__law_same, F__law_same⟩ := c.def_ 28 (d := d__law_same) rfl
  have A__law_same : At K mg "_law_same" s__law_same ["found", "due"] := ⟨_, _, F__law_same, He.glo_ok X G (c.fact 28 (f := .glo "_law_same") rfl), F__law_same.bindsN fun _ _ _ _ _ _ us hl => match us, hl with | [_, _], _ => rfl⟩
  obtain ⟨fd__law_in_order, F__law_in_order⟩ := c.def_ 29 (d := d__law_in_order) rfl
  have A__law_in_order : At K mg "_law_in_order" s__law_in_order ["found", "due"] := ⟨_, _, F__law_in_order, He.glo_ok X G (c.fact 29 (f := .glo "_law_in_order") rfl), F__law_in_order.bindsN fun _ _ _ _ _ _ us hl => match us, hl with | [_, _], _ => rfl⟩
  obtain ⟨fd_law, F_law⟩ := c.def_ 30 (d := d_law) rfl
  obtain ⟨t_PRIME, g_PRIME⟩ := He.int_ok X G (c.fact 46 (f := .int "PRIME" 97) rfl)
  obtain ⟨t_MOST, g_MOST⟩ := He.int_ok X G (c.fact 47 (f := .int "MOST" 60) rfl)
  have T : Txt K mg := ⟨He.free_ok X G (c.fact 31 (f := .free "len") rfl), He.free_ok X G (c.fact 32 (f := .free "max") rfl), He.free_ok X G (c.fact 33 (f := .free "min") rfl), He.free_ok X G (c.fact 34 (f := .free "range") rfl), He.free_ok X G (c.fact 35 (f := .free "isinstance") rfl), He.free_ok X G (c.fact 36 (f := .free "int") rfl), He.free_ok X G (c.fact 37 (f := .free "bool") rfl), He.free_ok X G (c.fact 38 (f := .free "tuple") rfl), He.free_ok X G (c.fact 39 (f := .free "list") rfl), He.free_ok X G (c.fact 40 (f := .free "divmod") rfl), He.free_ok X G (c.fact 41 (f := .free "all") rfl), He.free_ok X G (c.fact 42 (f := .free "sum") rfl), He.free_ok X G (c.fact 43 (f := .free "zip") rfl), He.free_ok X G (c.fact 44 (f := .free "dict") rfl), He.free_ok X G (c.fact 45 (f := .free "enumerate") rfl), _, g_PRIME, ⟨_, rfl⟩, _, g_MOST, ⟨_, rfl⟩, He.glo_ok X G (c.fact 48 (f := .glo "PLAIN") rfl), fun H => He.tupB_ok (He.ba cx).1 H, He.glo_ok X G (c.fact 49 (f := .glo "MARKS") rfl), fun H => He.tupB_ok (He.ba cx).2 H⟩
  have e := hfa.symm.trans (He.glo_ok X G (c.fact 30 (f := .glo "law") rfl))
  cases e
  have b := FunD.bindsA (ps := ["script"]) F_law fun _ _ _ _ _ _ us hl => match us, hl with | [_], _ => rfl
  refine ⟨fd_law, fun s v => b s [v] rfl, fun base _ _ => ?_⟩
  have D_is_whole := ok_whole (P := P) (w := w) (base := base) T A_is_whole
  have D_is_between := ok_between D_is_whole A_is_between
  have D_is_rest := ok_rest T D_is_between A_is_rest
  have D_times := ok_times (P := P) (w := w) (base := base) T A_times
  have D_power := ok_power D_times A_power
  have D_sop := ok_sop (P := P) (w := w) (base := base) T A_sum_of_products
  have D_is_shape := ok_is_shape T D_is_between A_is_shape
  have D_check_shape := ok_check_shape D_is_shape A_check_shape
  have D_count := ok_count D_check_shape A_count
  have D_is_place := ok_is_place D_is_between D_count A_is_place
  have D_check_place := ok_check_place D_is_place A_check_place
  have D_kind_of := ok_kind_of T D_check_place A_kind_of
  have D_mark := ok_mark T D_kind_of A_mark
  have D_local := ok_local T D_kind_of A_local_factor
  have D_over := ok_over_factor T D_power D_kind_of D_mark A_over_factor
  have D_checks := ok_checks T D_count D_local D_over A_checks
  have D_places := ok_places T D_count D_kind_of A_data_places
  have D_units := ok_units T D_count D_checks D_places A_units
  have D_filledU := ok_filledU T D_sop A_filled
  have D_check_row := ok_check_row T D_is_rest A_check_row
  have D_cells := ok_cells T D_places A_cells_for
  have D_laid := ok_laid T D_count D_units D_check_row D_cells D_filledU A_laid
  have D_purse := ok_purse (P := P) (w := w) (base := base) T A__law_purse
  have D_drawn := ok_drawn (P := P) (w := w) (base := base) A__law_drawn
  have D_shape := ok_law_shape T D_drawn A__law_shape
  have D_filled := ok_filled (P := P) (w := w) (base := base) T A__law_filled
  have D_row := ok_row T D_drawn A__law_row
  have D_pieces := ok_pieces T D_filled A__law_pieces
  have D_same := ok_same (P := P) (w := w) (base := base) T A__law_same 2
  have D_inorder := ok_in_order T D_same A__law_in_order
  exact ok_law T rfl D_purse D_shape D_row D_pieces D_inorder D_laid F_law
end Hx
open PySem PySem.W PySem.Calls PyProof.Rows in
set_option maxRecDepth 100000 in
set_option maxHeartbeats 0 in
theorem PySem.Challenge.cw_sherdhall_k08_rows_laid_holds : PySem.Challenge.rw_sherdhall_k08_rows_laid.Holds := by
  w_on; o_law
  refine HandSHeadRun.head_any (r := OpenLaw.row PySem.Challenge.rw_sherdhall_k08_rows_laid) (q := view (OpenLaw.row PySem.Challenge.rw_sherdhall_k08_rows_laid).prog [44]) (H := Hx.hk) (ob := Hx.ob) (M := 12000) (loose := Hx.loose) (d := HandSHeadRun.topDef (OpenLaw.row PySem.Challenge.rw_sherdhall_k08_rows_laid).prog 44) (kwd := []) Hx.ob_eq
    (by kernel_rfl) (fun s => by kernel_rfl) Hx.run (by kernel_rfl) (by kernel_rfl) (by kernel_rfl) (by rfl) (by first | assumption | decide +kernel) (by decide +kernel) ⟨rfl, rfl, rfl, rfl, rfl, by decide +kernel⟩ ?hw ?hc
  case hw => w_witness2
  case hc =>
    refine L2.walk_ofE (l := PySem.Challenge.rw_sherdhall_k08_rows_laid) (n := 63) (k := 14) (x := "script") (CX := L2.CX0) rfl (by decide) (by kernel_rfl) ⟨rfl, by decide, by decide⟩ ?F (fun _ _ _ _ z => z)
    intro w mg fa h Y G hmg0
    obtain ⟨K, KX, c, cx⟩ := Y
    have hmg : mg ("law" : PySem.Str) = some (.ref fa) := by
      have e : (HandSHeadRun.topDef (OpenLaw.row PySem.Challenge.rw_sherdhall_k08_rows_laid).prog 44).name = ("law" : PySem.Str) := by kernel_rfl
      rw [← e]
      exact hmg0
    obtain ⟨fd, hb, hF⟩ := Hx.facts (P := (PySem.Challenge.rw_sherdhall_k08_rows_laid).prog) (w := w) KX G hmg c cx
    exact ⟨K, fd, Hx.spLaw K, KX, hb, fun H a ns hl _ hS => ⟨a, ns, rfl, hS, hl, fun _ => rfl⟩, hF⟩
