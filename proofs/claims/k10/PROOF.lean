import PyProof.Rows.All
import Wide.All
import OpenK.AllK
import Wide.FinOn
import KE.KStateDown
import HandS.Base
import HandS.Call
import HandS.Ends
import HandS.List
import HandS.Comp
import HandS.Iter
import HandS.More
import HandS.Words
import HandS.WordsList
import HandS.WordsExc
import HandS.Defaults
import HandS.Wide
import HandS.IsInst
import HandS.Walk
import HandS.Star
import HandS.Conv
import HandS.Zip
import HandS.TupAny
import KE.KEqSeq
import KE.KEqDeep
import KE.KRevSl
import HandS.Head0
import HandS.Head1
import HandS.Head2
import HandS.HeadEnd
import HandS.HeadHook1
import HandS.HeadHook2
import HandS.Sort
import HandS.Exc
import HandS.ExcInit
import HandS.ExcIs
import HandS.ExcField
import KE.KExcIs
import HandS.ExcOwn
import HandS.CallSlots
import HandS.Dict
import HandS.WordsDict
import HandS.Style
import HandS.Finally
import HandS.DictComp
import PySem.Challenge.RW_sherdhall_k10_data_pieces_needed
set_option Elab.async false
set_option linter.all false
set_option maxRecDepth 100000
set_option maxHeartbeats 4000000
namespace Cm
open PySem PySem.Spec PyProof.Rows L2
/-! ### a def, known by its name -/
def Dn (P : Program) (w : World) (K : PySem.W.Frag) (mg : Str → Option Value) (base : Heap) (CX : CXT) (k : Nat) (x : Str) (ps : List Str) (sp : Sp) : Prop :=
  ∃ (f : Addr) (fd : FuncData), FnOk P w K mg base CX k f fd ps sp ∧ mg x = some (.ref f) ∧ PySem.W.keepIn K (.ref f) = true ∧ Binds K fd ps [] ∧ ∃ oc od osl, K.lookup f = some ⟨oc, od, .func fd, osl⟩
/-- where a def without defaults stands -/
def At (K : PySem.W.Frag) (mg : Str → Option Value) (x : Str) (st : Stmt) (ps : List Str) : Prop :=
  ∃ (f : Addr) (fd : FuncData), FunD K x x (defArgs st) (defBody st) (defScope st) [] [] f fd ∧ mg x = some (.ref f) ∧ Binds K fd ps []
theorem _root_.L2.FunD.look {K : PySem.W.Frag} {x qual : Str} {params : Arguments} {body : List Stmt} {scope : Scope} {dvs : List V} {kws : List (Str × V)} {f : Addr} {fd : FuncData} (F : FunD K x qual params body scope dvs kws f fd) : ∃ oc od osl, K.lookup f = some ⟨oc, od, .func fd, osl⟩ := by
  obtain ⟨oc, od, dV, kV, doc, pm, an, cdv, ct, osl, rfl, lk, _⟩ := F.ex
  exact ⟨_, _, _, lk⟩
section
variable {P : Program} {w : World} {K : PySem.W.Frag} {mg : Str → Option Value} {base : Heap}
theorem ok0 {x : Str} {st : Stmt} {N ps : List Str} {k : Nat} {sp : Sp} {f : Addr} {fd : FuncData} (F : FunD K x x (defArgs st) (defBody st) (defScope st) [] [] f fd) (S : FnScope N ps (defScope st)) (len : ∀ vs H Q E, sp vs H Q E → vs.length = ps.length)
    (hbody : ∀ (f : Addr) (cdv : Value) (A : Around) (outer : List Env) (s : Shared) (H : Hp) (vs : List V) (Q : VK) (E : XK), Room k (A.deeper (envOfC x (defScope st) s.heap.objs.size f cdv)) → sp vs H Q E →
      ∃ t, PSs (cxOf CX0 P w K mg base N x (defScope st) f cdv A outer s H E).nox (defBody st) t ∧ t { nx := fun _ H' => Q .non H', rt := Q } (start N vs) H) : FnOk P w K mg base CX0 (k + 1) f fd ps sp := by
  refine F.ok S len fun cdv A outer s H vs Q E hr h => ?_
  obtain ⟨t, h1, h2⟩ := hbody f cdv A outer s H vs Q E hr h
  exact ⟨t, h1.nox, h2⟩
theorem At.ok {x : Str} {st : Stmt} {N ps : List Str} {k : Nat} {sp : Sp} (F : At K mg x st ps) (S : FnScope N ps (defScope st)) (len : ∀ vs H Q E, sp vs H Q E → vs.length = ps.length)
    (hbody : ∀ (f : Addr) (cdv : Value) (A : Around) (outer : List Env) (s : Shared) (H : Hp) (vs : List V) (Q : VK) (E : XK), Room k (A.deeper (envOfC x (defScope st) s.heap.objs.size f cdv)) → sp vs H Q E →
      ∃ t, PSs (cxOf CX0 P w K mg base N x (defScope st) f cdv A outer s H E).nox (defBody st) t ∧ t { nx := fun _ H' => Q .non H', rt := Q } (start N vs) H) : Dn P w K mg base CX0 (k + 1) x ps sp := by
  obtain ⟨f, fd, F, hm, hb⟩ := F
  refine ⟨f, fd, F.ok S len fun cdv A outer s H vs Q E hr h => ?_, hm, F.kp, hb, F.look⟩
  obtain ⟨t, h1, h2⟩ := hbody f cdv A outer s H vs Q E hr h
  exact ⟨t, h1.nox, h2⟩
end
section
variable {X : Cx} {k : Nat} {x : Str} {ps : List Str} {sp : Sp} {p pos : Pos} {e : Expr} {es : List Expr} {t : TA}
theorem pe_callD (D : Dn X.prog X.w X.K X.mg X.base CX0 k x ps sp) (hr : Room k X.A) (ha : PA X (e :: es) t) (hg : Gl X x := by rfl) (hdb : (x == ("__debug__" : Str)) = false := by decide)
    (he : starEach (e :: es) X.env = (false, eval e X.env) :: starEach es X.env := by rfl) (hpl : (backTo pos (starEach es X.env)).any (·.1) = false := by rfl) :
    PE X (.Call (.Name x p) (e :: es) [] pos) (tCall sp [] E0 t) := by
  obtain ⟨f, fd, F, hm, hk, hb, _⟩ := D
  exact pe_call F hr hg hm hk hb .nil pass0 ha hdb he hpl
end
/-! ### powers of ints of any size -/
def CPowW (i j : Int) : Prop := 0 ≤ j ∧ (Builtin.Int.intBits i : Int) * j ≤ 2 ^ 27
theorem CPowW.mk {i : Int} {n a : Nat} (ha : i.natAbs < 2 ^ a) (h0 : 0 < a) (h : a * n ≤ 100000000) : CPowW i n := by
  refine ⟨Int.natCast_nonneg _, ?_⟩
  have b : Builtin.Int.intBits i ≤ i.natAbs.log2 + 1 := by
    unfold Builtin.Int.intBits
    split <;> omega
  have x := PySem.Flt.log2_lt_of h0 ha
  have c : Builtin.Int.intBits i ≤ a := by omega
  have d : Builtin.Int.intBits i * n ≤ a * n := Nat.mul_le_mul_right _ c
  have e : ((Builtin.Int.intBits i * n : Nat) : Int) ≤ ((100000000 : Nat) : Int) := Int.ofNat_le.mpr (Nat.le_trans d h)
  rw [Int.natCast_mul] at e
  have e2 : ((100000000 : Nat) : Int) ≤ 2 ^ 27 := by decide
  exact Int.le_trans e e2
theorem op_powW {X : Cx} : OpR X (binaryOp .Pow) (rI CPowW fun i j => .int (i ^ j.toNat)) := opI fun _ _ _ _ _ _ _ hc q => pow_int hc.1 hc.2 q
/-! ### tests -/
theorem iteD {c A B : Prop} [Decidable c] (h1 : c → A) (h2 : ¬ c → B) : if decide c = true then A else B := by
  by_cases h : c
  · rw [decide_eq_true h]; exact iteT (h1 h)
  · rw [decide_eq_false h]; exact iteF (h2 h)
theorem iteDn {c A B : Prop} [Decidable c] (h1 : ¬ c → A) (h2 : c → B) : if (!decide c) = true then A else B := by
  by_cases h : c
  · rw [decide_eq_true h]; exact iteF (h2 h)
  · rw [decide_eq_false h]; exact iteT (h1 h)
theorem iteI {x y : Int} {A B : Prop} (h1 : x = y → A) (h2 : ¬ x = y → B) : if decide (V.int x = V.int y) = true then A else B :=
  iteD (fun h => h1 (V.int.inj h)) (fun h => h2 fun e => h (congrArg V.int e))
theorem iteIn {x y : Int} {A B : Prop} (h1 : ¬ x = y → A) (h2 : x = y → B) : if (!decide (V.int x = V.int y)) = true then A else B :=
  iteDn (fun h => h1 fun e => h (congrArg V.int e)) (fun h => h2 (V.int.inj h))
theorem iteB {b : Bool} {A B : Prop} (h1 : b = true → A) (h2 : b = false → B) : if b = true then A else B := by
  cases b with
  | true => exact iteT (h1 rfl)
  | false => exact iteF (h2 rfl)
theorem iteBn {b : Bool} {A B : Prop} (h1 : b = false → A) (h2 : b = true → B) : if (!b) = true then A else B := by
  cases b with
  | true => exact iteF (h2 rfl)
  | false => exact iteT (h1 rfl)
/-! ### heaps -/
/-- all that was tracked, but p, is as it was -/
def Kp (p : Addr) (H H' : Hp) : Prop := ∀ b o, H b = some o → b ≠ p → H' b = some o
theorem Kp.refl (p : Addr) (H : Hp) : Kp p H H := fun _ _ h _ => h
theorem Kp.trans {p : Addr} {H H1 H2 : Hp} (a : Kp p H H1) (b : Kp p H1 H2) : Kp p H H2 := fun c o h n => b c o (a c o h n) n
theorem Kp.of {p : Addr} {H H1 : Hp} (a : Same H H1) : Kp p H H1 := fun c o h _ => a c o h
theorem Kp.new {p a : Addr} {H : Hp} {o : HO} (n : H a = none) : Kp p H (upd H a o) := fun c u h _ => by rw [upd_ne (ne_of_none h n)]; exact h
theorem Kp.put {p : Addr} {H : Hp} {o : HO} : Kp p H (upd H p o) := fun c u h n => by rw [upd_ne n]; exact h
theorem Same.new {a : Addr} {H : Hp} {o : HO} (n : H a = none) : Same H (upd H a o) := fun c u h => by rw [upd_ne (ne_of_none h n)]; exact h
theorem old {H : Hp} {a p : Addr} {o u : HO} (h : H a = some u) (n : H p = none) : upd H p o a = some u := by rw [upd_ne (ne_of_none h n)]; exact h
/-- p was free ahead: what is kept but p is kept -/
theorem Kp.same {p : Addr} {H0 H H' : Hp} (s : Same H0 H) (n : H0 p = none) (k : Kp p H H') : Same H0 H' := fun b o h => k b o (s b o h) (ne_of_none h n)
end Cm
namespace Cm
open PySem PySem.Spec PyProof.Rows L2
theorem at_ints {ns : List Int} {k : Int} (h0 : 0 ≤ k) (h : k < ns.length) : ∃ z, z ∈ ns ∧ ns[k.toNat]? = some z ∧ atI (ns.map V.int) k = some (.int z) := by
  have hk : k.toNat < ns.length := by omega
  refine ⟨ns[k.toNat], List.getElem_mem _, List.getElem?_eq_getElem hk, ?_⟩
  obtain ⟨j, rfl⟩ : ∃ j : Nat, k = (j : Int) := ⟨k.toNat, by omega⟩
  refine atI_nat ?_
  rw [List.getElem?_map, List.getElem?_eq_getElem (by omega)]
  rfl
theorem p10_18 : (10 : Int) ^ (18 : Int).toNat = 1000000000000000000 := by decide
end Cm
namespace Cm
open PySem PySem.Spec PyProof.Rows L2
/-! ### comprehensions that leave what stood -/
section
variable {J : It} {n : Nat} {G : Hp → Prop} {Y : Nat → Hp → V → Hp → Prop}
theorem lc_map (w : Walk J n G Y) {g : TG} {tt : TT} {te : TE} {vs : List Nat} {σ : L2.St} {H1 : Hp} {D : Addr} {Qd : Hp → Prop} (f : Nat → V) (hD : H1 D = none) (hn : n ≤ sizeLine) (hG : ∀ H, Same H1 H → G H)
    (hs : ∀ i x H H' (R : V → Hp → Prop) (R' : Hp → Prop), i < n → Same H1 H → Y i H x H' → (∀ H4, Same H H4 → R (f i) H4) → g x (wipe σ vs) H' fun σ2 H2 => wipe σ2 vs = wipe σ vs ∧ tt σ2 H2 fun b H3 => if b = true then te σ2 H3 R else R' H3)
    (hd : ∀ H, Same H1 H → H D = some (.lst ((List.range n).map f)) → Qd H) :
    ∃ W : Nat → Nat → Hp → Prop, (∃ m, W 0 m (upd H1 D (.lst []))) ∧ ∀ i m H, W i m H →
      (J.stop i H ∧ Qd H) ∨ (J.go i H ∧ ∃ Nx : Hp → Prop, (∀ H', Nx H' → ∃ m', m' < m ∧ W (i + 1) m' H') ∧ ∀ x H', J.yld i H x H' → g x (wipe σ vs) H' fun σ2 H2 => wipe σ2 vs = wipe σ vs ∧ tt σ2 H2 fun b H3 =>
        if b = true then te σ2 H3 fun y H4 => ∃ acc, H4 D = some (.lst acc) ∧ acc.length < sizeLine ∧ Nx (upd H4 D (.lst (acc ++ [y]))) else Nx H3) := by
  refine lc_it w (fun i H => Same H1 H ∧ H D = some (.lst ((List.range i).map f))) ⟨Same.new hD, upd_same⟩ (fun i H _ p => hG H p.1) ?_ (fun H p => hd H p.1 p.2)
  intro i x H H' hi p y
  refine hs i x H H' _ _ hi p.1 y fun H4 s4 => ?_
  refine ⟨_, s4 _ _ p.2, by rw [List.length_map, List.length_range]; omega, fun b o e => ?_, ?_⟩
  · rw [upd_ne (ne_of_none e hD)]
    exact s4 _ _ (p.1 _ _ e)
  · rw [upd_same, List.range_succ, List.map_append]
    rfl
theorem lc_ints (w : Walk J n G Y) {g : TG} {tt : TT} {te : TE} {vs : List Nat} {σ : L2.St} {H1 : Hp} {D : Addr} {Qd : Hp → Prop} (f : Nat → Int) (hD : H1 D = none) (hn : n ≤ sizeLine) (hG : ∀ H, Same H1 H → G H)
    (hs : ∀ i x H H' (R : V → Hp → Prop) (R' : Hp → Prop), i < n → Same H1 H → Y i H x H' → (∀ H4, Same H H4 → R (.int (f i)) H4) → g x (wipe σ vs) H' fun σ2 H2 => wipe σ2 vs = wipe σ vs ∧ tt σ2 H2 fun b H3 => if b = true then te σ2 H3 R else R' H3)
    (hd : ∀ H, Same H1 H → H D = some (.lst (((List.range n).map f).map V.int)) → Qd H) :
    ∃ W : Nat → Nat → Hp → Prop, (∃ m, W 0 m (upd H1 D (.lst []))) ∧ ∀ i m H, W i m H →
      (J.stop i H ∧ Qd H) ∨ (J.go i H ∧ ∃ Nx : Hp → Prop, (∀ H', Nx H' → ∃ m', m' < m ∧ W (i + 1) m' H') ∧ ∀ x H', J.yld i H x H' → g x (wipe σ vs) H' fun σ2 H2 => wipe σ2 vs = wipe σ vs ∧ tt σ2 H2 fun b H3 =>
        if b = true then te σ2 H3 fun y H4 => ∃ acc, H4 D = some (.lst acc) ∧ acc.length < sizeLine ∧ Nx (upd H4 D (.lst (acc ++ [y]))) else Nx H3) :=
  lc_map w (fun i => .int (f i)) hD hn hG hs fun H s e => hd H s (by rw [e, List.map_map]; rfl)
theorem lc_bools (w : Walk J n G Y) {g : TG} {tt : TT} {te : TE} {vs : List Nat} {σ : L2.St} {H1 : Hp} {D : Addr} {Qd : Hp → Prop} (f : Nat → Bool) (hD : H1 D = none) (hn : n ≤ sizeLine) (hG : ∀ H, Same H1 H → G H)
    (hs : ∀ i x H H' (R : V → Hp → Prop) (R' : Hp → Prop), i < n → Same H1 H → Y i H x H' → (∀ H4, Same H H4 → R (.bl (f i)) H4) → g x (wipe σ vs) H' fun σ2 H2 => wipe σ2 vs = wipe σ vs ∧ tt σ2 H2 fun b H3 => if b = true then te σ2 H3 R else R' H3)
    (hd : ∀ H, Same H1 H → H D = some (.lst (((List.range n).map f).map V.bl)) → Qd H) :
    ∃ W : Nat → Nat → Hp → Prop, (∃ m, W 0 m (upd H1 D (.lst []))) ∧ ∀ i m H, W i m H →
      (J.stop i H ∧ Qd H) ∨ (J.go i H ∧ ∃ Nx : Hp → Prop, (∀ H', Nx H' → ∃ m', m' < m ∧ W (i + 1) m' H') ∧ ∀ x H', J.yld i H x H' → g x (wipe σ vs) H' fun σ2 H2 => wipe σ2 vs = wipe σ vs ∧ tt σ2 H2 fun b H3 =>
        if b = true then te σ2 H3 fun y H4 => ∃ acc, H4 D = some (.lst acc) ∧ acc.length < sizeLine ∧ Nx (upd H4 D (.lst (acc ++ [y]))) else Nx H3) :=
  lc_map w (fun i => .bl (f i)) hD hn hG hs fun H s e => hd H s (by rw [e, List.map_map]; rfl)
end
/-! ### plain values and their built-in types -/
inductive Ty (K : PySem.W.Frag) (H : Hp) : V → String → Prop where
  | non : Ty K H .non "NoneType"
  | bl (x : Bool) : Ty K H (.bl x) "bool"
  | int (i : Int) : Ty K H (.int i) "int"
  | str (x : Str) : Ty K H (.str x) "str"
  | lst {a : Addr} {xs : List V} (e : SqL K H a xs) : Ty K H (.ref a) "list"
  | tup {a : Addr} {xs : List V} (e : SqT K H a xs) : Ty K H (.ref a) "tuple"
  | dK {a : Addr} {kvs : List (Key × V)} (e : H a = some (.dK kvs)) : Ty K H (.ref a) "dict"
theorem Ty.x {K : PySem.W.Frag} {H : Hp} {v : V} {n : String} (h : Ty K H v n) : TyX K H v (.type n) := by
  cases h with
  | non => exact .base .non
  | bl x => exact .base (.bl x)
  | int i => exact .base (.int i)
  | str x => exact .base (.str x)
  | lst e =>
    rcases e with (e | ⟨o, e⟩) | ⟨o, its, n, hk, hc, _⟩
    · exact .base (.lst e)
    · exact .base (.frz e)
    · exact .kList hk hc
  | tup e =>
    rcases e with (e | ⟨o, e⟩) | ⟨o, its, n, hk, hc, _⟩
    · exact .base (.tup e)
    · exact .fTuple e
    · exact .kTuple hk hc
  | dK e => exact .base (.dK e)
theorem Same.sqt {K : PySem.W.Frag} {H H' : Hp} {a : Addr} {xs : List V} (e : Same H H') (h : SqT K H a xs) : SqT K H' a xs := by
  rcases h with (h | ⟨o, h⟩) | h
  · exact .inl (.inl (e _ _ h))
  · exact .inl (.inr ⟨o, e _ _ h⟩)
  · exact .inr h
theorem Ty.same {K : PySem.W.Frag} {H H' : Hp} {v : V} {n : String} (s : Same H H') (h : Ty K H v n) : Ty K H' v n := by
  cases h with
  | non => exact .non
  | bl x => exact .bl x
  | int i => exact .int i
  | str x => exact .str x
  | lst e => exact .lst (s.seq e)
  | tup e => exact .tup (Same.sqt s e)
  | dK e => exact .dK (s _ _ e)
theorem Ty.names {K : PySem.W.Frag} {H : Hp} {v : V} {n : String} (h : Ty K H v n) : n ∈ ["NoneType", "bool", "int", "str", "list", "tuple", "dict"] := by
  cases h <;> decide
theorem kit_names {c : String} (hc : c ∈ ["bool", "int", "str", "list", "tuple", "dict"]) {n : String} (h : n ∈ ["NoneType", "bool", "int", "str", "list", "tuple", "dict"]) : kitB n c = some (n == c || (n == "bool" && c == "int")) := by
  have key : ∀ c ∈ ["bool", "int", "str", "list", "tuple", "dict"], ∀ n ∈ ["NoneType", "bool", "int", "str", "list", "tuple", "dict"], kitB n c = some (n == c || (n == "bool" && c == "int")) := by decide +kernel
  exact key c hc n h
theorem Ty.kit {K : PySem.W.Frag} {H : Hp} {v : V} {n : String} (h : Ty K H v n) (c : String) (hc : c ∈ ["bool", "int", "str", "list", "tuple", "dict"] := by decide) : PySem.W.kitOne K (.type n) (.type c) = some (n == c || (n == "bool" && c == "int")) := kit_ty (kit_names hc h.names)
end Cm
namespace Cm
open L2
theorem small1000' {n : Nat} (h : n ≤ 1000000) : n ≤ PySem.sizeLine := Nat.le_trans h (by decide)
end Cm
namespace Cm
open L2
theorem map_get {α : Type} [Inhabited α] {c : α → V} {xs : List α} {i : Nat} {x : V} (h : i < xs.length) (e : (xs.map c)[i]? = some x) : x = c (xs.getD i default) := by
  rw [List.getElem?_map, List.getElem?_eq_getElem h] at e
  simp [List.getD, h]
  exact (Option.some.inj e).symm
theorem getD_in {α : Type} [Inhabited α] {xs : List α} {i : Nat} (h : i < xs.length) : xs.getD i default ∈ xs := by
  simp [List.getD, h]
end Cm
namespace Cm
open PySem PySem.Spec PyProof.Rows L2
/-! ### == of lists and tuples of ints -/
theorem dp_ints {K : PySem.W.Frag} {H : Hp} : ∀ xs : List Int, DpAll K H (xs.map V.int) (xs.map PyData.int)
  | [] => .nil
  | x :: xs => .cons (.int x) (dp_ints xs)
theorem dpL {K : PySem.W.Frag} {H : Hp} {a : Addr} {xs : List Int} (h : SqL K H a (xs.map V.int)) : Dp K H (.ref a) (.list (xs.map PyData.int)) := .lst h (dp_ints xs)
theorem dpT {K : PySem.W.Frag} {H : Hp} {a : Addr} {xs : List Int} (h : SqT K H a (xs.map V.int)) : Dp K H (.ref a) (.tuple (xs.map PyData.int)) := .tup h (dp_ints xs)
theorem shL (ns : List Int) : SeqAt.shaped (.list (ns.map PyData.int)) = true := PySem.W.ke_shaped_ints ns
theorem shT (ns : List Int) : SeqAt.shaped (.tuple (ns.map PyData.int)) = true := by
  have h := shL ns
  unfold SeqAt.shaped at h ⊢
  simp only [PyData.canLay0, PyData.depth] at h ⊢
  exact h
theorem eqvL (xs ys : List Int) : PyData.eqv (.list (xs.map PyData.int)) (.list (ys.map PyData.int)) = decide (xs = ys) := by rw [PyData.eqv, PySem.W.ked_eqvAll]
theorem eqvT (xs ys : List Int) : PyData.eqv (.tuple (xs.map PyData.int)) (.tuple (ys.map PyData.int)) = decide (xs = ys) := by rw [PyData.eqv, PySem.W.ked_eqvAll]
end Cm
namespace Cm
theorem range_map {α β : Type} [Inhabited α] (g : α → β) (xs : List α) : (List.range xs.length).map (fun i => g (xs.getD i default)) = xs.map g := by
  apply List.ext_getElem?
  intro i
  by_cases h : i < xs.length
  · simp [List.getD, h]
  · have h2 : xs.length ≤ i := by omega
    rw [List.getElem?_eq_none (by simpa using h2), List.getElem?_eq_none (by simpa using h2)]
end Cm
namespace Cm
open PySem PySem.Spec PyProof.Rows L2
/-- zip of two tuples, as a walk -/
theorem walk_zipT {K : PySem.W.Frag} {a b : Addr} {xs ys : List V} {n : Nat} (hn : n = min xs.length ys.length) : Walk (RZ.ItzT K a b) n (fun H => SqT K H a xs ∧ SqT K H b ys) (YPair (fun i => xs[i]?) (fun i => ys[i]?)) := by
  subst hn
  refine ⟨fun i _ hi q => ?_, fun _ q => ⟨xs, ys, q.1, q.2, by omega⟩, fun i H v H' _ q y => ?_⟩
  · have h1 : i < xs.length := by omega
    have h2 : i < ys.length := by omega
    exact ⟨xs, ys, xs[i], ys[i], q.1, q.2, by simp [h1], by simp [h2]⟩
  · obtain ⟨T, x, z, h1, h2, h3, h4, h5⟩ := y
    exact ⟨T, x, z, h1, h2, h3, h4 xs q.1, h5 ys q.2⟩
/-- a def that is never called so -/
theorem At.none {P : Program} {w : World} {K : PySem.W.Frag} {mg : Str → Option Value} {base : Heap} {x : Str} {st : Stmt} {ps : List Str} (F : At K mg x st ps) (k : Nat) : Dn P w K mg base CX0 k x ps (fun _ _ _ _ => False) := by
  obtain ⟨f, fd, F, hm, hb⟩ := F
  exact ⟨f, fd, ⟨fun _ _ _ _ h => h.elim, fun _ _ _ _ _ _ _ _ _ _ _ _ _ h => h.elim⟩, hm, F.kp, hb, F.look⟩
end Cm
namespace Cm
open PySem PySem.Spec PyProof.Rows L2
theorem Dn.mono {P : Program} {w : World} {K : PySem.W.Frag} {mg : Str → Option Value} {base : Heap} {j k : Nat} {x : Str} {ps : List Str} {sp : Sp} (D : Dn P w K mg base CX0 j x ps sp) (h : j ≤ k) : Dn P w K mg base CX0 k x ps sp := by
  obtain ⟨f, fd, F, r⟩ := D
  exact ⟨f, fd, F.mono h, r⟩
theorem Dn.imp {P : Program} {w : World} {K : PySem.W.Frag} {mg : Str → Option Value} {base : Heap} {k : Nat} {x : Str} {ps : List Str} {sp sp' : Sp} (D : Dn P w K mg base CX0 k x ps sp) (h : ∀ vs H Q E, sp' vs H Q E → sp vs H Q E) : Dn P w K mg base CX0 k x ps sp' := by
  obtain ⟨f, fd, F, r⟩ := D
  exact ⟨f, fd, F.imp h, r⟩
/-- two promises of one def -/
theorem Dn.or {P : Program} {w : World} {K : PySem.W.Frag} {mg : Str → Option Value} {base : Heap} {k : Nat} {x : Str} {ps : List Str} {sp1 sp2 : Sp} (D : Dn P w K mg base CX0 k x ps sp1) (D' : Dn P w K mg base CX0 k x ps sp2) :
    Dn P w K mg base CX0 k x ps (fun vs H Q E => sp1 vs H Q E ∨ sp2 vs H Q E) := by
  obtain ⟨f, fd, F, hm, hk, hb, oc, od, osl, lk⟩ := D
  obtain ⟨f', fd', F', hm', _, _, oc', od', osl', lk'⟩ := D'
  rw [hm] at hm'
  cases hm'
  rw [lk] at lk'
  cases lk'
  refine ⟨f, fd, ⟨fun vs H Q E h => ?_, fun A outer s H args us vs Q E hr e b v h => ?_⟩, hm, hk, hb, oc, od, osl, lk⟩
  · rcases h with h | h
    · exact F.len _ _ _ _ h
    · exact F'.len _ _ _ _ h
  · rcases h with h | h
    · exact F.run A outer s H args us vs Q E hr e b v h
    · exact F'.run A outer s H args us vs Q E hr e b v h
end Cm
namespace Cm
open PySem PySem.Spec PyProof.Rows L2
section
variable {J : It} {n : Nat} {G : Hp → Prop} {Y : Nat → Hp → V → Hp → Prop}
/-- .. with a test: the values f i for which p holds -/
theorem lc_filt {α : Type} (c : α → V) (w : Walk J n G Y) {g : TG} {tt : TT} {te : TE} {vs : List Nat} {σ : L2.St} {H1 : Hp} {D : Addr} {Qd : Hp → Prop} (f : Nat → α) (p : α → Bool) (hD : H1 D = none) (hn : n ≤ sizeLine) (hG : ∀ H, Same H1 H → G H)
    (hs : ∀ i x H H' (R : V → Hp → Prop) (R' : Hp → Prop), i < n → Same H1 H → Y i H x H' → (∀ H4, Same H H4 → p (f i) = true → R (c (f i)) H4) → (∀ H4, Same H H4 → p (f i) = false → R' H4) → g x (wipe σ vs) H' fun σ2 H2 => wipe σ2 vs = wipe σ vs ∧ tt σ2 H2 fun b H3 => if b = true then te σ2 H3 R else R' H3)
    (hd : ∀ H, Same H1 H → H D = some (.lst ((((List.range n).map f).filter p).map c)) → Qd H) :
    ∃ W : Nat → Nat → Hp → Prop, (∃ m, W 0 m (upd H1 D (.lst []))) ∧ ∀ i m H, W i m H →
      (J.stop i H ∧ Qd H) ∨ (J.go i H ∧ ∃ Nx : Hp → Prop, (∀ H', Nx H' → ∃ m', m' < m ∧ W (i + 1) m' H') ∧ ∀ x H', J.yld i H x H' → g x (wipe σ vs) H' fun σ2 H2 => wipe σ2 vs = wipe σ vs ∧ tt σ2 H2 fun b H3 =>
        if b = true then te σ2 H3 fun y H4 => ∃ acc, H4 D = some (.lst acc) ∧ acc.length < sizeLine ∧ Nx (upd H4 D (.lst (acc ++ [y]))) else Nx H3) := by
  refine lc_it w (fun i H => Same H1 H ∧ H D = some (.lst ((((List.range i).map f).filter p).map c))) ⟨Same.new hD, upd_same⟩ (fun i H _ p => hG H p.1) ?_ (fun H p => hd H p.1 p.2)
  intro i x H H' hi ps y
  have e : ((((List.range (i + 1)).map f).filter p).map c) = ((((List.range i).map f).filter p).map c) ++ (if p (f i) = true then [c (f i)] else []) := by
    rw [List.range_succ, List.map_append, List.filter_append, List.map_append]
    congr 1
    by_cases h : p (f i) = true
    · simp [h]
    · simp [h]
  refine hs i x H H' _ _ hi ps.1 y (fun H4 s4 pt => ?_) fun H4 s4 pf => ?_
  · refine ⟨_, s4 _ _ ps.2, ?_, fun b o e => ?_, ?_⟩
    · have := List.length_filter_le p ((List.range i).map f)
      rw [List.length_map] at this ⊢
      rw [List.length_range] at this
      omega
    · rw [upd_ne (ne_of_none e hD)]
      exact s4 _ _ (ps.1 _ _ e)
    · rw [upd_same, e, if_pos pt]
  · refine ⟨fun b o e => s4 _ _ (ps.1 _ _ e), ?_⟩
    rw [e, if_neg (by rw [pf]; decide), List.append_nil]
    exact s4 _ _ ps.2
end
end Cm
namespace Cm
open PySem PySem.Spec PyProof.Rows L2
/-! ### sum of a tuple of ints -/
section
variable {prog : Program} {w : World} {A : Around} {E : Value → Shared → Prop} {s : Shared} {l : Addr} {xs : Array (Int × Tok)}
theorem sum_tupG {Q : Value → Shared → Prop} (hh : A.handled = none) (hl : s.heap.IsTuple l (intItems xs))
    (h : ∀ h' tk t', (∀ b o, s.heap.get? b = some o → h'.get? b = some o) → Q (.int (preSum (numAt xs) xs.size) t') { s with heap := h', toks := tk }) :
    wpAny (model prog w) A (call (.builtin "sum") [.ref l]) Q E s := by
  have hlt : l < s.heap.objs.size := by obtain ⟨_, e, _⟩ := hl; exact Heap.lt_size e
  refine call_sum_walkG (wpAny_pyIter_tuple hl ?_)
  refine ⟨_, _, _, _, _, _, numAt xs, rfl, Walks.tuple (A := A.in1) hh _ l (Nat.ne_of_lt hlt) (intItems xs), ⟨⟨_, Heap.get?_push_size _ rfl, rfl, rfl⟩, hl.push _⟩, (fun b hb => ?_), (fun _ _ => intItems_at), fun h' tk t' hk => ?_⟩
  · show b < (s.heap.push _).objs.size
    rw [Heap.size_push]
    rcases List.mem_cons.mp hb with rfl | hb
    · exact Nat.lt_succ_self _
    · rcases List.mem_cons.mp hb with rfl | hb
      · exact Nat.lt_succ_of_lt hlt
      · cases hb
  · have := h h' tk t' fun b o e => by
      refine hk b o (fun hm => ?_) (Heap.get?_push_of_some _ e)
      rcases List.mem_cons.mp hm with e1 | hm
      · exact absurd (e1 ▸ Heap.lt_size e) (Nat.lt_irrefl _)
      · cases hm
    simpa [intItems] using this
end
def rSumT (K : PySem.W.Frag) : List V → Hp → VK → Prop := fun vs H Q => ∃ (a : Addr) (ns : List Int), vs = [V.ref a] ∧ SqT K H a (ns.map V.int) ∧ Q (.int ns.sum) H
theorem cr_sumT {X : Cx} (hc : X.calm = true) : CallR X (.builtin "sum") (rSumT X.K) := by
  intro pins s σ H vs us Q I r h
  obtain ⟨a, ns, rfl, hs, q⟩ := h
  obtain ⟨its, rv, hl, _⟩ := I.tuple hs
  rw [Vals.ref1 r]
  have hi := rv.ints
  obtain ⟨xs, e⟩ := hi.allInts.items
  have hn : numsOf (intItems xs).toList = ns := by rw [← e]; exact hi.numsOf
  rw [nums_intItems] at hn
  rw [e] at hl
  refine sum_tupG (I.ok.hd hc) hl fun h' tk t' hk => ?_
  rw [preSum_eq, List.take_of_length_le (by simp), hn]
  exact ⟨.int _, H, I.kept hk, ⟨_, rfl⟩, q⟩
end Cm
namespace Cm
open PySem PySem.Spec PyProof.Rows L2
section
variable {X : Cx} {o e : Expr} {es : List Expr} {to : TE} {t : TA} {name : Str} {apos cpos : Pos} {T id : String} {r : V → List V → Hp → VK → Prop}
theorem pe_bmK (K : PySem.W.Frag) (pa : PlainAttrs T) (slot : Slot T name id) (hty : typeOf (.builtin id) = pure (.type "method_descriptor")) (hm : MtR X id r) (ho : PE X o to) (ha : PA X (e :: es) t)
    (hK : X.K = K := by rfl) (hbase : attributeBase o name X.env (eval o X.env) = eval o X.env := by rfl)
    (hfew : ((backTo cpos (starEach (e :: es) X.env)).all (fun x => !x.1) && (backToKw cpos (keywordEach [] X.env)).all (fun x => x.1.isSome)
      && decide ((e :: es).length + ([] : List Keyword).length + (if ([] : List Keyword).isEmpty then 0 else 1) < 30)) = true := by rfl)
    (hline : (apos.endLine == cpos.line) = true := by rfl) (hs : starEach (e :: es) X.env = (false, eval e X.env) :: starEach es X.env := by rfl) (hplain : (backTo cpos (starEach es X.env)).any (·.1) = false := by rfl) :
    PE X (.Call (.Attribute o name apos) (e :: es) [] cpos) (tBM K T r to t) := by
  subst hK
  exact pe_bm pa slot hty hm ho ha hbase hfew hline hs hplain
end
end Cm
namespace Cm
open PySem PySem.Spec PyProof.Rows L2 HT
/-! ### t[::-1] of a tuple -/
section
variable {prog : Program} {w : World} {A : Around} {E : Value → Shared → Prop} {s : Shared}
theorem rev_adjust (n : Nat) : Builtin.Slice.sliceAdjust none none (-1) (n : Int) = ((n : Int) - 1, -1) := by
  unfold Builtin.Slice.sliceAdjust
  simp
theorem rev_places (n : Nat) : Builtin.Slice.slicePlaces ((n : Int) - 1) (-1) (-1) = n := by
  unfold Builtin.Slice.slicePlaces
  simp
  omega
theorem fm_congr {α β : Type} {f g : α → Option β} : ∀ {l : List α}, (∀ x ∈ l, f x = g x) → l.filterMap f = l.filterMap g
  | [], _ => rfl
  | x :: l, h => by
    rw [List.filterMap_cons, List.filterMap_cons, h x (List.mem_cons_self ..), fm_congr (l := l) fun y hy => h y (List.mem_cons_of_mem _ hy)]
theorem rev_pick (xs : Array Value) : ((List.range xs.size).filterMap fun (m : Nat) => xs[(((xs.size : Nat) : Int) - 1 + (m : Int) * (-1)).toNat]?).toArray = xs.toList.reverse.toArray := by
  have e : (List.range xs.size).filterMap (fun (m : Nat) => xs[(((xs.size : Nat) : Int) - 1 + (m : Int) * (-1)).toNat]?) = ((List.range xs.size).map fun k => xs.size - 1 - k).filterMap (xs[·]?) := by
    rw [List.filterMap_map]
    apply fm_congr
    intro m hm
    have := List.mem_range.mp hm
    show xs[_]? = xs[xs.size - 1 - m]?
    congr 1
    omega
  rw [e, PySem.W.krv_range, List.filterMap_reverse, PySem.W.krv_all]
theorem sliceApplied_rev {sl : Addr} {t : Tok} {n : Nat} {Q : Int × Int × Nat → Shared → Prop} (hs : s.heap.IsSliceOf sl .none .none (.int (-1) t))
    (h : Q ((n : Int) - 1, -1, n) s) : wpAny (model prog w) A (Builtin.Slice.sliceApplied (.ref sl) (pure (n : Int))) Q E s := by
  obtain ⟨os, hos, hcs, hds⟩ := id hs
  unfold Builtin.Slice.sliceApplied Builtin.Slice.sliceFields
  refine wpAny_bind (wpAny_bind (wpAny_field hos hds (x := .none) rfl (wpAny_bind (wpAny_field hos hds (x := .none) rfl (wpAny_bind (wpAny_field hos hds (x := .int (-1) t) rfl (wpAny_pure ?_)))))))
  refine wpAny_bind (slicePart_int ?_)
  show wpAny _ _ (if ((-1 : Int) == 0) = true then _ else _) _ _ s
  rw [if_neg (by decide)]
  refine wpAny_bind (slicePart_none (wpAny_bind (slicePart_none (wpAny_bind (wpAny_pure ?_)))))
  show wpAny _ _ (match Builtin.Slice.sliceAdjust none none (-1) (n : Int) with | (lo, hi) => pure (lo, (-1 : Int), Builtin.Slice.slicePlaces lo hi (-1))) _ _ s
  rw [rev_adjust n]
  show wpAny _ _ (pure ((n : Int) - 1, (-1 : Int), Builtin.Slice.slicePlaces ((n : Int) - 1) (-1) (-1))) _ _ s
  rw [rev_places]
  exact wpAny_pure h
theorem getItem_tuple_rev {t sl : Addr} {items : Array Value} {u : Tok} {Q : Value → Shared → Prop} (ht : IsTup s.heap t items) (hs : s.heap.IsSliceOf sl .none .none (.int (-1) u))
    (h : Q (.ref s.heap.objs.size) { s with heap := s.heap.push { cls := .type "tuple", data := .seq items.toList.reverse.toArray } })
    (hsz : items.size ≤ sizeLine) : wpAny (model prog w) A (getItem (.ref t) (.ref sl)) Q E s := by
  have htake : sizeOk (.seq items.toList.reverse.toArray) := by
    show items.toList.reverse.toArray.size ≤ sizeLine
    rw [List.size_toArray, List.length_reverse, Array.length_toList]
    exact hsz
  obtain ⟨os, hos, hcs, hds⟩ := id hs
  have hTs : s.TypeIs (.ref sl) "slice" := ⟨os, hos, hcs⟩
  unfold getItem
  try with_reducible refine wpAny_holding ?_
  first | refine wpAny_bind (wpAny_pure ?_) | skip
  refine wpAny_bind (wpAny_sequenceKey ht.typeIs (by decide) ?_)
  refine wpAny_bind (wpAny_callSpecial?_slot (name := Str.ofString "__getitem__") ht.typeIs PyProof.Rows.slot_tuple_getitem
    (wpAny_call_entry PyProof.Rows.slot_tuple_getitem ht.typeIs entry_tuple_getitem ?_ (args_tuple_getitem _ _)))
  show wpAny _ _ (Builtin.Tuple.tupleItemsOf (.ref t) >>= _) _ _ s
  refine wpAny_bind (tupleItemsOf_ ht ?_)
  refine wpAny_bind (wpAny_typeOf hTs ?_)
  rw [if_pos (by decide)]
  refine wpAny_bind (sliceApplied_rev hs ?_)
  have hno : ¬ ((((items.size : Nat) : Int) - 1 == 0 && (-1 : Int) == 1 && items.size == items.size) = true) := by
    intro q
    rw [Bool.and_eq_true, Bool.and_eq_true] at q
    exact absurd q.1.2 (by decide)
  show wpAny _ _ (if (((items.size : Nat) : Int) - 1 == 0 && (-1 : Int) == 1 && items.size == items.size) = true then _ else _) _ _ s
  rw [if_neg hno, rev_pick]
  first
    | exact wpAny_bind (m := Builtin.Tuple.tupleExact _) (wpAny_newObj_type (wpAny_pure ⟨_, rfl, wpAny_pure h⟩) htake)
    | exact wpAny_bind (m := Builtin.Tuple.tupleExact _) (wpAny_newObj_type (wpAny_bind (wpAny_pure (wpAny_pure ⟨_, rfl, wpAny_pure h⟩))) htake)
    | exact wpAny_bind (wpAny_bind (m := Builtin.Tuple.tupleExact _) (wpAny_newObj_type (wpAny_pure (wpAny_pure ⟨_, rfl, wpAny_pure h⟩)) htake))
    | exact wpAny_bind (wpAny_bind (m := Builtin.Tuple.tupleExact _) (wpAny_newObj_type (wpAny_pure ⟨_, rfl, wpAny_pure h⟩) htake))
end
def tRevT (K : PySem.W.Frag) (te : TE) : TE := fun σ H Q => te σ H fun x H1 => ∃ a xs, x = .ref a ∧ SqT K H1 a xs ∧ ∀ p, H1 p = none → Q (.ref p) (upd H1 p (.tup xs.reverse))
theorem pe_revT {X : Cx} {e : Expr} {te : TE} {p1 p2 p3 pos : Pos} (he : PE X e te) : PE X (.Subscript e (.Slice none none (some (.UnaryOp .USub (.Constant (.int 1) 0 p1) p2)) p3) pos) (tRevT X.K te) := by
  refine ⟨fun pins s σ H Q I h => ?_⟩
  refine Subscript_ (thn (he.run pins s σ H _ I h) fun v s1 ⟨x, H1, I1, r1, q1⟩ => ?_)
  refine wpAny_Slice ?_
  rw [evalPart_none]
  refine wpAny_pure (wpAny_pure ?_)
  rw [evalPart_some]
  refine thn ((pe_un un_neg pe_int).run pins s1 σ H1 (fun y H2 => y = .int (-1) ∧ H2 = H1) I1 ⟨_, rfl, rfl, rfl⟩) fun u s2 ⟨y, H2, I2, r2, e1, e2⟩ => ?_
  subst e1 e2
  obtain ⟨t, rfl⟩ := r2
  obtain ⟨a, xs, rfl, hx, q⟩ := q1
  cases r1
  have I4 : Inv X pins σ H2 { s2 with heap := s2.heap.push { cls := .type "slice", data := .fields #[.none, .none, .int (-1) t] } } := I2.kept (t' := s2.toks) fun b ob q => Heap.get?_push_of_some _ q
  obtain ⟨its, r, ht, hz⟩ := I4.tuple hx
  show wpAny (model X.prog X.w) X.A (subscriptTail e _ (.ref a) (.ref s2.heap.objs.size)) (EP X pins σ Q) X.xe { s2 with heap := s2.heap.push { cls := .type "slice", data := .fields #[.none, .none, .int (-1) t] } }
  refine tail_any (ops := [.ref a, .ref s2.heap.objs.size]) ht.typeIs PyProof.Rows.slot_tuple_getitem.lookup (getItem_tuple_rev ht (Heap.IsSliceOf.new ..) ?_ (by rw [List.size_toArray, ← r.length]; exact hz)) (by with_unfolding_all rfl)
  refine ⟨.ref _, _, I4.laid (t' := s2.toks) (o := .tup xs.reverse) (fun b ob q => Heap.get?_push_of_some _ q) (Nat.le_refl _) ?_, rfl, q _ (I4.hok.fresh (Nat.le_refl _))⟩
  exact ⟨by rw [List.length_reverse]; exact hz, _, r.reverse, IsTup.new _ _⟩
end Cm
namespace Cm
open PySem PySem.Spec PyProof.Rows L2
section
variable {X : Cx}
theorem _root_.L2.OpR.imp {f : Value → Value → Sem Value} {r r' : R2} (h : OpR X f r) (i : ∀ x y H Q, r' x y H Q → r x y H Q) : OpR X f r' :=
  fun pins s σ H x y v u Q I rx ry q => h pins s σ H x y v u Q I rx ry (i _ _ _ _ q)
/-- t + u, whatever object it is -/
def rCatS (K : PySem.W.Frag) : R2 := fun x y H Q => ∃ a b xs ys, x = .ref a ∧ y = .ref b ∧ SqT K H a xs ∧ SqT K H b ys ∧ xs.length + ys.length ≤ sizeLine ∧ ∀ r H', Same H H' → SqT K H' r (xs ++ ys) → Q (.ref r) H'
theorem op_catS : OpR X (binaryOp .Add) (rCatS X.K) := op_catA.imp fun x y H Q h => by
  obtain ⟨a, b, xs, ys, rfl, rfl, ha, hb, hl, q⟩ := h
  refine ⟨a, b, xs, ys, rfl, rfl, ha, hb, hl, fun e => ?_, fun _ e => ?_, fun _ _ p np => q p _ (Same.new np) (SqT.of upd_same)⟩
  · subst e
    exact q b H (Same.refl _) hb
  · subst e
    exact q a H (Same.refl _) (by rw [List.append_nil]; exact ha)
/-- t[lo:hi], whatever object it is -/
def rSlS (K : PySem.W.Frag) : V → Option Int → Option Int → Hp → VK → Prop := fun x lo hi H Q => ∃ a xs, x = .ref a ∧ SqT K H a xs ∧ ∀ r H', Same H H' → SqT K H' r (cutV xs lo hi) → Q (.ref r) H'
theorem cut_whole {xs : List V} {lo hi : Option Int} (h : HT.sIx xs.length 0 lo = 0 ∧ HT.sIx xs.length xs.length hi = xs.length) : cutV xs lo hi = xs := by
  unfold cutV
  rw [h.1, h.2, List.drop_zero, Nat.sub_zero, List.take_length]
theorem sl_tupS : SlR X (rSlS X.K) := by
  intro pins s σ H x v vl vu lo hi sl Q I rx hs pl pu h
  obtain ⟨a, xs, rfl, ha, q⟩ := h
  refine sl_tupA pins s σ H (.ref a) v vl vu lo hi sl Q I rx hs pl pu ⟨a, xs, rfl, ha, fun e => q a H (Same.refl _) (by rw [cut_whole e]; exact ha), fun _ p np => q p _ (Same.new np) (SqT.of upd_same)⟩
end
end Cm
namespace Cm
open PySem PySem.Spec PyProof.Rows L2
/-! ### defs with one keyword-only parameter and its default -/
/-- a def of n positional parameters and one keyword-only one, by its name; dv the default -/
def DnK (P : Program) (w : World) (K : PySem.W.Frag) (mg : Str → Option Value) (base : Heap) (CX : CXT) (k : Nat) (x : Str) (ps : List Str) (kw : Str) (dv : V) (sp : Sp) : Prop :=
  ∃ (f : Addr) (fd : FuncData), FnOk P w K mg base CX k f fd (ps ++ [kw]) sp ∧ mg x = some (.ref f) ∧ PySem.W.keepIn K (.ref f) = true ∧ KBn K fd (ps ++ [kw]) ps.length [kw] (fun us ws => us ++ ws) (fun vs zs => vs ++ zs) ∧
    (∃ ds, Vals [dv] ds ∧ Binds K fd (ps ++ [kw]) ds) ∧ ∃ oc od osl, K.lookup f = some ⟨oc, od, .func fd, osl⟩
/-- where it stands -/
def AtK (K : PySem.W.Frag) (mg : Str → Option Value) (x : Str) (st : Stmt) (ps : List Str) (kw : Str) (dv : V) : Prop :=
  ∃ (f : Addr) (fd : FuncData), FunD K x x (defArgs st) (defBody st) (defScope st) [] [(kw, dv)] f fd ∧ mg x = some (.ref f) ∧ KBn K fd (ps ++ [kw]) ps.length [kw] (fun us ws => us ++ ws) (fun vs zs => vs ++ zs) ∧ ∃ ds, Vals [dv] ds ∧ Binds K fd (ps ++ [kw]) ds
section
variable {P : Program} {w : World} {K : PySem.W.Frag} {mg : Str → Option Value} {base : Heap}
theorem AtK.ok {x kw : Str} {dv : V} {st : Stmt} {N ps : List Str} {k : Nat} {sp : Sp} (F : AtK K mg x st ps kw dv) (S : FnScope N (ps ++ [kw]) (defScope st)) (len : ∀ vs H Q E, sp vs H Q E → vs.length = (ps ++ [kw]).length)
    (hbody : ∀ (f : Addr) (cdv : Value) (A : Around) (outer : List Env) (s : Shared) (H : Hp) (vs : List V) (Q : VK) (E : XK), Room k (A.deeper (envOfC x (defScope st) s.heap.objs.size f cdv)) → sp vs H Q E →
      ∃ t, PSs (cxOf CX0 P w K mg base N x (defScope st) f cdv A outer s H E).nox (defBody st) t ∧ t { nx := fun _ H' => Q .non H', rt := Q } (start N vs) H) : DnK P w K mg base CX0 (k + 1) x ps kw dv sp := by
  obtain ⟨f, fd, F, hm, hb, hd⟩ := F
  refine ⟨f, fd, F.ok S len fun cdv A outer s H vs Q E hr h => ?_, hm, F.kp, hb, hd, F.look⟩
  obtain ⟨t, h1, h2⟩ := hbody f cdv A outer s H vs Q E hr h
  exact ⟨t, h1.nox, h2⟩
/-- how such a def binds: h0 with the default, h1 with the keyword -/
theorem atK_mk {x kw : Str} {dv : V} {st : Stmt} {ps : List Str} {f : Addr} {fd : FuncData} (F : FunD K x x (defArgs st) (defBody st) (defScope st) [] [(kw, dv)] f fd) (hm : mg x = some (.ref f))
    (h0 : ∀ (D : Addr) (doc pm : Value) (an : Option Addr) (cdv ct : Value) (us ks : List Value), us.length = ps.length → ks.length = 1 →
      KwChain D (([(kw, dv)].map (·.1)).zip ks) (bindArgs (PySem.W.fnOf x x (defArgs st) (defBody st) (defScope st) .none (.ref D) doc pm an cdv ct) ⟨us, []⟩) ((ps ++ [kw]).zip (us ++ ks)))
    (h1 : ∀ (kV doc pm : Value) (an : Option Addr) (cdv ct : Value) (us ws : List Value), us.length = ps.length → ws.length = 1 →
      bindArgs (PySem.W.fnOf x x (defArgs st) (defBody st) (defScope st) .none kV doc pm an cdv ct) ⟨us, [kw].zip ws⟩ = pure ((ps ++ [kw]).zip (us ++ ws))) : AtK K mg x st ps kw dv := by
  refine ⟨f, fd, F, hm, ?_, ?_⟩
  · obtain ⟨oc, od, dV, kV, doc, pm, an, cdv, ct, osl, rfl, lk, hcd, hD, hK⟩ := F.ex
    rcases hD with ⟨_, rfl⟩ | ⟨e, _⟩
    · exact ⟨fun s us ws _ l1 l2 => .of_eq (h1 kV doc pm an cdv ct us ws l1 l2), fun r rz => r.append rz⟩
    · exact absurd rfl e
  · exact F.binds0 (ps := ps ++ [kw]) ps.length (by simp) (by simp) h0
end
section
variable {X : Cx} {k : Nat} {x kw : Str} {dv : V} {ps : List Str} {sp : Sp} {p pos kp : Pos} {e ek : Expr} {es : List Expr} {t : TA} {tk : TE}
/-- f(e, .., kw=ek) -/
def tCallW (n : Nat) (sp : Sp) (t : TA) (tk : TE) : TE := fun σ H Q => t σ H fun vs H1 => tk σ H1 fun z H2 => vs.length = n ∧ [z].length = 1 ∧ sp (vs ++ [z]) H2 Q E0
theorem pe_callW (D : DnK X.prog X.w X.K X.mg X.base CX0 k x ps kw dv sp) (hr : Room k X.A) (ha : PA X (e :: es) t) (hk : PE X ek tk) (hg : Gl X x := by rfl)
    (hall : (backToKw pos (keywordEach [⟨some kw, ek, kp⟩] X.env)).all (·.1.isSome) = true := by rfl) (hks : (backToKw pos (keywordEach [⟨some kw, ek, kp⟩] X.env)).filterMap (·.1) = [kw] := by rfl)
    (hdb : (x == ("__debug__" : Str)) = false := by decide) (he : starEach (e :: es) X.env = (false, eval e X.env) :: starEach es X.env := by rfl)
    (hpl : ((backTo pos (starEach (e :: es) X.env)).any (·.1) || (backToKw pos (keywordEach [⟨some kw, ek, kp⟩] X.env)).any (·.1.isNone)) = false := by rfl) :
    PE X (.Call (.Name x p) (e :: es) [⟨some kw, ek, kp⟩] pos) (tCallW ps.length sp t tk) := by
  obtain ⟨f, fd, F, hm, hkp, hb, _⟩ := D
  have h := pe_callN (p := p) F hr hg hm hkp hb pass0 ha (pk_cons (nm := some kw) (kpos := kp) hk pk_nil) hall hks hdb he hpl
  refine ⟨fun pins s σ H Q I q => h.run pins s σ H Q I ?_⟩
  exact q
theorem pe_callW0 (D : DnK X.prog X.w X.K X.mg X.base CX0 k x [] kw dv sp) (hr : Room k X.A) (hk : PE X ek tk) (hg : Gl X x := by rfl)
    (hall : (backToKw pos (keywordEach [⟨some kw, ek, kp⟩] X.env)).all (·.1.isSome) = true := by rfl) (hks : (backToKw pos (keywordEach [⟨some kw, ek, kp⟩] X.env)).filterMap (·.1) = [kw] := by rfl)
    (hdb : (x == ("__debug__" : Str)) = false := by decide)
    (hpl : ((backTo pos (starEach [] X.env)).any (·.1) || (backToKw pos (keywordEach [⟨some kw, ek, kp⟩] X.env)).any (·.1.isNone)) = false := by rfl) :
    PE X (.Call (.Name x p) [] [⟨some kw, ek, kp⟩] pos) (fun σ H Q => tk σ H fun z H2 => [z].length = 1 ∧ sp [z] H2 Q E0) := by
  obtain ⟨f, fd, F, hm, hkp, hb, _⟩ := D
  refine ⟨fun pins s σ H Q I h => ?_⟩
  refine wpAny_Call_Name_kw (ld_glob I hg hm ?_ hdb)
  refine PySem.W.callWith_KW0 (h₀ := X.base) I.ok.mod.kin hkp hall ?_ hpl
  refine thn ((pk_cons (nm := some kw) (kpos := kp) hk pk_nil).run pos pins s σ H (fun zs H2 => zs.length = 1 ∧ sp zs H2 Q E0) I ?_) fun ws s2 ⟨zs, H2, I2, rz, l2, q2⟩ => ⟨I2.kIn, ?_⟩
  · exact h
  rw [hks]
  exact run_fnN (us := []) (vs := []) F hr hb pass0 I2 .nil rz rfl l2 q2
/-- f() and f(e, ..): the default stands for it -/
theorem pe_callWd0 (D : DnK X.prog X.w X.K X.mg X.base CX0 k x [] kw dv sp) (hr : Room k X.A) (hg : Gl X x := by rfl) (hdb : (x == ("__debug__" : Str)) = false := by decide) :
    PE X (.Call (.Name x p) [] [] pos) (tCall sp [dv] E0 tNil) := by
  obtain ⟨f, fd, F, hm, hkp, _, ⟨ds, hv, hb⟩, _⟩ := D
  exact pe_call0 F hr hg hm hkp hb hv pass0 hdb
theorem pe_callWd (D : DnK X.prog X.w X.K X.mg X.base CX0 k x ps kw dv sp) (hr : Room k X.A) (ha : PA X (e :: es) t) (hg : Gl X x := by rfl) (hdb : (x == ("__debug__" : Str)) = false := by decide)
    (he : starEach (e :: es) X.env = (false, eval e X.env) :: starEach es X.env := by rfl) (hpl : (backTo pos (starEach es X.env)).any (·.1) = false := by rfl) :
    PE X (.Call (.Name x p) (e :: es) [] pos) (tCall sp [dv] E0 t) := by
  obtain ⟨f, fd, F, hm, hkp, _, ⟨ds, hv, hb⟩, _⟩ := D
  exact pe_call F hr hg hm hkp hb hv pass0 ha hdb he hpl
end
end Cm
namespace Cm
open PySem PySem.Spec PyProof.Rows L2
/-! ### the head's facts and one Bool more -/
abbrev AlB : Type := He.AlD × Bool
def obsB (n : Nat) (fa : List He.Fa) (fn : List He.DefD) (ex : PySem.W.Frag → Bool) (g : Addr → Option Obj) : AlB := (He.obsDG n fa fn g, ex (He.frG g (He.asD g n)))
def hookB (n : Nat) (fa : List He.Fa) (fn : List He.DefD) (ex : PySem.W.Frag → Bool) : PySem.W.Hook where
  α := AlB
  obs := fun s => obsB n fa fn ex s.heap.get?
  val := fun _ => (He.valD fn, true)
  says := fun _ h => ∃ K : PySem.W.Frag, K.In h ∧ He.SaysD fa fn K ∧ ex K = true
  of := fun _ _ e => ⟨_, He.frG_in, congrArg (fun z : AlB => z.1) e, congrArg (fun z : AlB => z.2) e⟩
  keeps := fun _ _ _ ⟨K, hK, c⟩ k => ⟨K, PySem.W.Frag.In.keeps hK k, c⟩
theorem obsB_eq {n : Nat} {fa : List He.Fa} {fn : List He.DefD} {ex : PySem.W.Frag → Bool} {g : Addr → Option Obj} {s : Shared} (h : ∀ a, g a = s.heap.get? a) : obsB n fa fn ex g = (hookB n fa fn ex).obs s := by
  have e : g = s.heap.get? := funext h
  rw [e] <;> rfl
end Cm
namespace Cm
open PySem PySem.Spec PyProof.Rows L2
/-! ### a range held by a name, and walked -/
theorem cr_range1 {X : Cx} : CallR X (.type "range") (fun vs H Q => ∃ j, vs = [V.int j] ∧ ∀ p, H p = none → Q (.ref p) (upd H p (.rng 0 j))) := by
  intro pins s σ H vs us Q I r h
  obtain ⟨j, rfl, q⟩ := h
  obtain ⟨u1, rfl, rj⟩ := vals1 r
  obtain ⟨u, rfl⟩ := rj
  refine call_range_1 ⟨.ref s.heap.objs.size, upd H s.heap.objs.size (.rng 0 j), I.laid (fun b o e => Heap.get?_push_of_some _ e) (Nat.le_refl _) ?_, rfl, q _ (I.hok.fresh (Nat.le_refl _))⟩
  exact ⟨_, u, _, Heap.get?_push_size _ rfl⟩
/-- for k in r, r a range that stands in H -/
def iRngV (te : TE) : TI := fun σ H R => te σ H fun x H1 => ∃ (a : Addr) (lo hi : Int), x = .ref a ∧ H1 a = some (.rng lo hi) ∧ (-(2 ^ 62) ≤ lo ∧ lo < 2 ^ 62 ∧ -(2 ^ 62) ≤ hi ∧ hi < 2 ^ 62) ∧ R (Itr lo (hi - lo).toNat) H1
theorem pi_rng {X : Cx} {tg e : Expr} {te : TE} (he : PE X e te) : PI X tg e (iRngV te) := by
  refine ⟨fun pins s σ H R I h => ?_⟩
  refine thn (he.run pins s σ H _ I h) fun v s1 hh => ?_
  obtain ⟨x, H1, I1, r1, a, lo, hi, rfl, ha, ⟨h1, h2, h3, h4⟩, q⟩ := hh
  cases r1
  obtain ⟨t, u, w', hobj⟩ : ∃ t u v, s1.heap.get? a = some { cls := .type "range", data := .fields #[.int lo t, .int hi u, .int 1 v] } := I1.hok a _ ha
  refine wpAny_pyIter_range (show IsRange s1.heap a lo hi 1 t u w' from hobj) (small_one h1 h2 h3 h4) ?_
  refine ⟨s1.heap.objs.size, [s1.heap.objs.size], _, _, H1, rfl, I1.kept (t' := s1.toks) fun b o e => Heap.get?_push_of_some _ e, turn_range _ lo (hi - lo).toNat, ?_, fun b hb => ?_, q⟩
  · have e1 : lo + ((0 : Nat) : Int) * 1 = lo := by simp
    have e2 : (((hi - lo).toNat : Nat) : Int) - ((0 : Nat) : Int) = Builtin.Range.rangeSize lo hi 1 := by rw [rangeSize_one]; split <;> omega
    show IsRangeIter _ _ (lo + ((0 : Nat) : Int) * 1) ((((hi - lo).toNat : Nat) : Int) - ((0 : Nat) : Int)) 1
    rw [e1, e2]
    exact Heap.get?_push_size _ rfl
  · have e : b = s1.heap.objs.size := by simpa using hb
    subst e
    exact I1.fpOk (Nat.le_refl _) (I1.hok.fresh (Nat.le_refl _))
end Cm

set_option Elab.async false
set_option linter.all false
set_option maxRecDepth 100000
set_option maxHeartbeats 4000000
namespace Cm
open PySem PySem.Spec PyProof.Rows L2
/-! ### a caught exception that a name holds behind the suite -/
/-- at a: an exception of the class cls, its own dict at d -/
def exh (a : Addr) (cls : Value) (d : Option Addr) : HO := .ext fun h => ∃ oe vs, h.get? a = some oe ∧ Zc cls d oe ∧ oe.data = .fields vs
theorem exh_ok {P : Program} {w : World} {H : Hp} {h : Heap} {a : Addr} {cls : Value} {d : Option Addr} {oe : Obj} {vs : Array Value} (e : h.get? a = some oe) (z : Zc cls d oe) (dt : oe.data = .fields vs) : ObjOk P w H h a (exh a cls d) :=
  ⟨⟨oe, vs, e, z, dt⟩, ⟨oe, e⟩, fun _ _ ⟨o, us, k1, k2, k3⟩ st => ⟨o, us, st _ k1, k2, k3⟩⟩
theorem exh_at {P : Program} {w : World} {H : Hp} {h : Heap} {a : Addr} {cls : Value} {d : Option Addr} (k : HOk P w H h) (e : H a = some (exh a cls d)) : ∃ oe vs, h.get? a = some oe ∧ Zc cls d oe ∧ oe.data = .fields vs := by
  have x : ObjOk P w H h a (.ext fun h => ∃ oe vs, h.get? a = some oe ∧ Zc cls d oe ∧ oe.data = .fields vs) := k a _ e
  exact x.1
section
variable {X : Cx} {pins : List (Addr × Obj)} {σ : L2.St} {H : Hp} {s : Shared}
/-- what stands at a is looked at from now on -/
theorem track {a : Addr} {o : Obj} {u : HO} (I : Inv X pins σ H s) (e : s.heap.get? a = some o) (na : H a = none) (nL : a ≠ X.env.locals) (nC : ∀ v, o.data ≠ .cell v) (nP : ∀ p ∈ X.pn ++ pins, p.1 ≠ a) (n0 : X.s_0.heap.get? a = none)
    (new : ObjOk X.prog X.w (upd H a u) s.heap a u) : Inv X pins σ (upd H a u) s := by
  have put : ∀ {b : Addr} {v : HO}, H b = some v → upd H a u b = some v := fun {b v} q => by rw [upd_ne (ne_of_none q na)]; exact q
  refine ⟨I.ok, I.os, I.bare, ⟨I.base.keep, I.base.slot, fun b ob q n x => ?_, I.base.there, fun b xs q => put (I.base.tups b xs q), fun b ob v q => put (I.base.frzs b ob v q), fun b ps q => ?_⟩, I.loc, I.cell, ?_, fun y c q => ?_, fun p hp => ?_, fun b ob q => ?_, I.len⟩
  · rw [upd_ne (show b ≠ a from fun z => by rw [z, n0] at q; cases q)]
    exact I.base.free b ob q n x
  · obtain ⟨m, q2⟩ := I.base.tbls b ps q
    exact ⟨m, put q2⟩
  · rw [upd_ne (Ne.symm nL)]
    exact I.free
  · have nca : c ≠ a := fun z => by
      obtain ⟨v, oc, q1, q2⟩ := I.cell y c q
      rw [z, e] at q1
      cases q1
      exact nC v q2
    rw [upd_ne nca]
    exact I.freeC y c q
  · obtain ⟨q1, q2, q3⟩ := I.pin p hp
    exact ⟨q1, by rw [upd_ne (nP p hp)]; exact q2, q3⟩
  · by_cases hb : b = a
    · subst hb
      rw [upd_same] at q
      cases q
      exact new
    · rw [upd_ne hb] at q
      exact (I.hok b ob q).stay (fun _ _ _ z => z) (fun _ z => put z) (fun _ _ z => put z)
end
/-- try: body / except x as n: y = n. The exception is of the class x; it stands at a behind, y holds it, n is gone -/
def wKeep (K : PySem.W.Frag) (c : Value) (i j : Nat) (D : Ends) : WX := fun cls d σ H => PySem.W.exmOne K cls c = some true ∧ ∀ a, H a = none → D.nx (((σ.set i (some (.ref a))).set j (some (.ref a))).set i none) (upd H a (exh a cls d))
section
variable {X : Cx} {x n y : Str} {c : Value} {i j : Nat} {body : List Stmt} {np np2 yp p2 pos pos' : Pos} {tb : WX → TS}
theorem ps_try_keep (hs : X.stack = X.env :: X.outer) (hf : X.env.frame = some X.env.locals) (hx : X.ex = []) (hN : X.N.Nodup) (hi : X.N[i]? = some n) (hln : X.env.kindOf n = some .local) (hj : X.N[j]? = some y) (hly : X.env.scope.names.lookup y = some .local) (hdn : (n == ("__debug__" : Str)) = false) (hdc : (n == ("__classdict__" : Str)) = false) (hc : Names X x c)
    (hsw : swapsWith (.Name n np2) (some (.Name y yp)) p2.line X.env = pure false)
    (hb : ∀ (W : WX) (pn : List (Addr × Obj)) (xe : Value → Shared → Prop), Takes (X.tr pn xe) W → PassesOwn (model X.prog X.w) X.A X.env xe → PSs (X.tr pn xe) body (tb W)) :
    PS X (.Try body [.ExceptHandler (some (.Name x np)) (some n) [.Assign [.Name y yp] (.Name n np2) p2] pos'] [] [] pos) (fun D σ H => tb (wKeep X.K c i j D) D σ H) := by
  refine ⟨fun pins s σ H D I h => ?_⟩
  have ok := I.ok
  refine wpAny_Try_except (wpAny_mono ((hb (wKeep X.K c i j D) (X.pn ++ pins) _ (fun u s1 air => ?_) PassesOwn.looking).run [] s σ H D (I.toTry _) h) (fun f s1 q => ?_) fun _ _ q => q)
  · obtain ⟨a, B, sI, pins1, σ1, H1, cls, d, rfl, K1, nb, up, sky, na, os, ag, em, fin⟩ := air
    have J : Inv X pins σ1 H1 sI := K1.ofTry ok
    have hA : X.A.frames = some (X.env :: X.outer) := by rw [ok.frames, hs]
    have inB : ∀ b o, sI.heap.get? b = some o → b ∉ frs (X.env :: X.outer) → B.get? b = some o := hs ▸ nb
    refine Sky.land Zc.steady hA hf (hs ▸ sky) fun h3 fl3 up3 => ?_
    have aB : B.get? a = none := fl3.2.1
    have J3 : Inv X pins σ1 H1 { s1 with heap := h3 } := J.landed nb fl3.1 (up.trans up3) os ag
    obtain ⟨oe3, vs3, e3, z3, dt3⟩ := fl3.there
    have notF : a ∉ frs (X.env :: X.outer) := fun hm => by
      obtain ⟨_, o, e, nf⟩ := fl3.2.2.1.mem hm
      rw [e3] at e
      cases e
      exact nf _ dt3
    have nL : a ≠ X.env.locals := fun z => notF (List.mem_filterMap.mpr ⟨X.env, List.mem_cons_self, by rw [hf, z]⟩)
    have nF : a ∉ X.fs := fun hm => by
      obtain ⟨ev, h1, h2⟩ := List.mem_filterMap.mp hm
      exact notF (List.mem_filterMap.mpr ⟨ev, List.mem_cons_of_mem _ h1, h2⟩)
    have frOf : ∀ b, b ≠ X.env.locals → b ∉ X.fs → b ∉ frs (X.env :: X.outer) := fun b h1 h2 hm => by
      obtain ⟨ev, h3, h4⟩ := List.mem_filterMap.mp hm
      rcases List.mem_cons.mp h3 with rfl | h3
      · rw [hf] at h4
        exact h1 (Option.some.inj h4).symm
      · exact h2 (List.mem_filterMap.mpr ⟨ev, h3, h4⟩)
    have nP : ∀ p ∈ X.pn ++ pins, p.1 ≠ a := fun p hp z => by
      obtain ⟨q1, _, q3, q4, _⟩ := J.pin p hp
      have := inB _ _ q1 (frOf _ q3 q4)
      rw [z, aB] at this
      cases this
    have n0 : X.s_0.heap.get? a = none := by
      cases e : X.s_0.heap.get? a with
      | none => rfl
      | some o =>
        obtain ⟨o', e'⟩ := J.base.there a o e (by rw [hx]; simp)
        have := inB _ _ e' notF
        rw [aB] at this
        cases this
    have S3 := J3.suite e3 dt3 na nL nF
    refine wpAny_handleBy_cons (codeAny_handlers_test ?_) (fun z => by cases z)
    have tyA : PySem.W.Looks (model X.prog X.w) h3 (typeOf (.ref a)) cls := fun _ _ _ _ k q => wpAny_typeOf_ref (k _ _ e3) (by rw [z3.1]; exact q)
    have ex := PySem.W.exm_one (M := model X.prog X.w) J3.kIn tyA em
    have named : ∀ {Q : Value → Shared → Prop} {E : Value → Shared → Prop}, Q c { s1 with heap := h3 } → wpAny (model X.prog X.w) (X.A.mark (some (.ref a))) (eval (.Name x np) X.env) Q E { s1 with heap := h3 } := fun {Q E} q => by
      obtain ⟨g1, g2, g3 | ⟨g3, g4, g5⟩⟩ := hc
      · exact ld_glob (X := X.suite a ((a, oe3) :: (X.pn ++ pins))) S3 g1 g3 q g2
      · exact ld_blt (X := X.suite a ((a, oe3) :: (X.pn ++ pins))) S3 g1 g3 g4 q g5 g2
    refine named (ex.here (codeAny_handlers_suite_as (HandSPX.lands_againZ fl3 fun h4 fl4 up4 => ?_)))
    have J4 : Inv X pins σ1 H1 { s1 with heap := h4 } := J.landed nb fl4.1 ((up.trans up3).trans up4) os ag
    obtain ⟨oe, vs, e4, z4, dt4⟩ := fl4.there
    refine store_ok (X := X.suite a ((a, oe) :: (X.pn ++ pins))) (v := .ref a) (J4.suite e4 dt4 na nL nF) hN hi (.inl hln) rfl (fun s5 S5 => ?_) (.inr hln)
    have hi1 : i < σ1.length := by rw [J.len]; exact (List.getElem?_eq_some_iff.mp hi).1
    have step : PSs (X.suite a ((a, oe) :: (X.pn ++ pins))) [.Assign [.Name y yp] (.Name n np2) p2] (tAsg (tVar i) (gName j)) :=
      pss_one (ps_set (i := j) hN hj (.inl hly) (pe_var hi (.inl hln) hdn hdc) hsw (.inr hly))
    refine wpAny_mono (step.run [] s5 (σ1.set i (some (.ref a))) H1 { nx := fun σ6 H6 => σ6 = (σ1.set i (some (.ref a))).set j (some (.ref a)) ∧ H6 = H1, rt := fun _ _ => False } S5 ⟨.ref a, by rw [List.getElem?_set_self hi1], rfl, rfl⟩) (fun f s6 q => ?_) (fun _ _ z => z.elim)
    cases f with
    | next =>
      obtain ⟨σ6, H6, S6, rfl, rfl⟩ := q
      have e6 : s6.heap.get? a = some oe := (S6.pin (a, oe) (List.mem_append_left _ List.mem_cons_self)).1
      refine gone_ok (track (S6.unsuite ok) e6 na nL (fun v z => by rw [dt4] at z; cases z) nP n0 (exh_ok e6 z4 dt4)) hN hi hln fun s7 J7 => ⟨_, _, J7, fin a na⟩
    | brk =>
      obtain ⟨_, _, _, q⟩ := q
      exact q.elim
    | cont =>
      obtain ⟨_, _, _, q⟩ := q
      exact q.elim
    | ret u =>
      obtain ⟨_, _, _, _, _, q⟩ := q
      exact q.elim
  · cases f with
    | next =>
      obtain ⟨σ1, H1, J, q⟩ := q
      exact wpAny_execs_nil ⟨σ1, H1, J.ofTry ok, q⟩
    | brk =>
      obtain ⟨σ1, H1, J, q⟩ := q
      exact ⟨σ1, H1, J.ofTry ok, q⟩
    | cont =>
      obtain ⟨σ1, H1, J, q⟩ := q
      exact ⟨σ1, H1, J.ofTry ok, q⟩
    | ret u =>
      obtain ⟨v, σ1, H1, J, r, q⟩ := q
      exact ⟨v, σ1, H1, J.ofTry ok, r, q⟩
end
/-! ### isinstance and a field of an exception that a name holds -/
/-- its dict, where it has one, stands in H -/
def DOk (H : Hp) (d : Option Addr) : Prop := d = none ∨ ∃ dd fs, d = some dd ∧ H dd = some (.xd fs)
section
variable {X : Cx} {pins : List (Addr × Obj)} {σ : L2.St} {H : Hp} {s : Shared}
theorem exh_inst {a C : Addr} {d : Option Addr} (I : Inv X pins σ H s) (e : H a = some (exh a (.ref C) d)) (k : DOk H d) : ∃ oe od, PySem.W.InstAt s.heap a oe C od := by
  obtain ⟨oe, vs, e1, z, dt⟩ := exh_at I.hok e
  rcases k with rfl | ⟨dd, fs, rfl, ed⟩
  · exact ⟨oe, none, e1, z.1, by unfold PySem.W.notCls; rw [dt] <;> rfl, by rw [z.2]; trivial⟩
  · obtain ⟨mA, hn, _⟩ := (show ObjOk X.prog X.w H s.heap dd (.xd fs) from I.hok dd _ ed)
    obtain ⟨od, ho, _⟩ := lookIn_ns hn
    exact ⟨oe, some od, e1, z.1, by unfold PySem.W.notCls; rw [dt] <;> rfl, by rw [z.2]; exact ho⟩
theorem exh_kit {a C : Addr} {d : Option Addr} (c : ExcC X.K C) (I : Inv X pins σ H s) (e : H a = some (exh a (.ref C) d)) (k : DOk H d) : ∃ P : Heap → Prop, PySem.W.KitX X.K (.ref a) (.ref C) P ∧ P s.heap := by
  obtain ⟨oe, od, j⟩ := exh_inst I e k
  obtain ⟨cd, hc, _⟩ := PySem.W.any_some c.hd
  exact ⟨_, PySem.W.kitx_exc (ox := oe) (od := od) (by rw [hc]; rfl) c.hg c.hk c.hs c.ha c.hn c.ht c.hm, j⟩
end
/-- isinstance(e, c) of an exception that a name holds -/
def rIsX (K : PySem.W.Frag) : List V → Hp → VK → Prop := fun xs H Q => ∃ (a C : Addr) (d : Option Addr) (c : V) (u : Value) (b : Bool), xs = [.ref a, c] ∧ H a = some (exh a (.ref C) d) ∧ DOk H d ∧ ExcC K C ∧ ClsV c u ∧ PySem.W.kitOne K (.ref C) u = some b ∧ Q (.bl b) H
/-- isinstance(e, (c1, c2, ..)) -/
def rIsXT (K : PySem.W.Frag) : List V → Hp → VK → Prop := fun xs H Q => ∃ (a C : Addr) (d : Option Addr) (tp : Addr) (cs : List V) (us : List Value) (b : Bool), xs = [.ref a, .ref tp] ∧ H tp = some (.tup cs) ∧ Paired ClsV cs us ∧ H a = some (exh a (.ref C) d) ∧ DOk H d ∧ ExcC K C ∧ PySem.W.kitAny K (.ref C) us = some b ∧ Q (.bl b) H
theorem call_isX {X : Cx} : CallR X (.builtin "isinstance") (rIsX X.K) := by
  intro pins s σ H xs us Q I r h
  obtain ⟨a, C, d, c, u, b, rfl, ea, k, ec, cv, e, q⟩ := h
  obtain ⟨u1, u2, rfl, r1, r2⟩ := vals2 r
  cases (show u1 = Value.ref a from r1)
  cases cv.eq r2
  obtain ⟨P, Z, p⟩ := exh_kit ec I ea k
  exact PySem.W.kia_one Z I.kIn p e (fun z => by cases z) fun tk => ⟨.bl b, H, I.tok tk, rfl, q⟩
theorem call_isXT {X : Cx} : CallR X (.builtin "isinstance") (rIsXT X.K) := by
  intro pins s σ H xs us Q I r h
  obtain ⟨a, C, d, tp, cs, ws, b, rfl, eT, k, ea, dk, ec, e, q⟩ := h
  obtain ⟨u1, u2, rfl, r1, r2⟩ := vals2 r
  cases (show u1 = Value.ref a from r1)
  cases (show u2 = Value.ref tp from r2)
  obtain ⟨P, Z, p⟩ := exh_kit ec I ea dk
  obtain ⟨_, its, rv, ⟨oc, od, dt, sl⟩, h1, h2, n, h3⟩ := (show ObjOk X.prog X.w H s.heap tp (.tup cs) from I.hok tp _ eT)
  cases ClsV.all k rv
  simp only at h2 h3
  subst h2 h3
  exact PySem.W.kia_tup Z I.kIn p h1 e (fun z => by cases z) fun tk => ⟨.bl b, H, I.tok tk, rfl, q⟩
/-- e.f of an exception that a name holds -/
def tXfH (K : PySem.W.Frag) (f : Str) (te : TE) : TE := fun σ H Q => te σ H fun x H1 => ∃ (a C dd : Addr) (fs : List (Str × V)) (v : V), x = .ref a ∧ H1 a = some (exh a (.ref C) (some dd)) ∧ H1 dd = some (.xd fs) ∧ XfC K C ∧ PySem.W.findIn K (.ref C) f = some none ∧ fs.lookup f = some v ∧ Q v H1
theorem pe_xfH {X : Cx} {e : Expr} {te : TE} {pos : Pos} {n : Str} (he : PE X e te) (hb : attributeBase e n X.env (eval e X.env) = eval e X.env := by rfl) : PE X (.Attribute e n pos) (tXfH X.K n te) := by
  refine ⟨fun pins s σ H Q I h => attr_of hb (thn (he.run pins s σ H _ I h) fun u s1 hh => ?_)⟩
  obtain ⟨x, H1, I1, rx, a, C, dd, fs, v, rfl, ea, ed, T, hno, l, q⟩ := hh
  cases (show u = Value.ref a from rx)
  obtain ⟨oe, vs, e1, z, dt⟩ := exh_at I1.hok ea
  obtain ⟨mA, hn, hr⟩ := (show ObjOk X.prog X.w H1 s1.heap dd (.xd fs) from I1.hok dd _ ed)
  obtain ⟨od, ho, hl⟩ := lookIn_ns hn
  obtain ⟨u, hu, ru⟩ := RelO.some_of (v := v) (o := mA n) (by rw [← l]; exact hr n)
  have j : PySem.W.InstAt s1.heap a oe C (some od) := ⟨e1, z.1, by unfold PySem.W.notCls; rw [dt] <;> rfl, by rw [z.2]; exact ho⟩
  exact HandSPX.exc_get I1.kIn j T.ga T.gg T.exC (PySem.W.findObj_own T.hdC hno rfl (by rw [hl, hu])) (handed_of ru) ⟨v, H1, I1.tok _, ru, q⟩
end Cm

set_option Elab.async false
set_option linter.all false
set_option maxRecDepth 100000
set_option maxHeartbeats 4000000
namespace Cm
open PySem PySem.Spec PyProof.Rows L2
/-! ### refusals: classes over ValueError that keep what they are made with -/
def oexB (K : PySem.W.Frag) (C : Addr) : Bool := match K.lookup C with
  | some o => (match o.cls, o.data, o.slots.toList with
    | .type t, .cls cd, [_, _, _, _, some (.builtin m), _] => (match cd.mro with
      | .ref D :: bm => decide (t = "type") && (decide (D = C) && (decide (m = "ValueError.__new__") && (cd.hasDict && (!cd.hasDel && PySem.HandSPX.refsVE bm))))
      | _ => false)
    | _, _, _ => false)
  | none => false
theorem oexB_ok {K : PySem.W.Frag} {C : Addr} (h : oexB K C = true) : ∃ nm q N bs bm sn sub ab col dd k0 k1 k2 k3 k5, K.lookup C = some (excClassObj nm q C N bs bm true sn sub ab col dd k0 k1 k2 k3 k5 "ValueError.__new__") ∧ PySem.HandSPX.refsVE bm = true := by
  unfold oexB at h
  cases e : K.lookup C with
  | none => rw [e] at h; cases h
  | some o =>
    rw [e] at h
    obtain ⟨oc, od, odt, ⟨sl⟩⟩ := o
    simp only at h
    split at h
    · rename_i t cd m0 m1 m2 m3 m m5
      split at h
      · rename_i D bm h4
        obtain ⟨g1, h⟩ := Bool.and_eq_true_iff.mp h
        obtain ⟨g2, h⟩ := Bool.and_eq_true_iff.mp h
        obtain ⟨g3, h⟩ := Bool.and_eq_true_iff.mp h
        obtain ⟨g4, h⟩ := Bool.and_eq_true_iff.mp h
        obtain ⟨g5, g6⟩ := Bool.and_eq_true_iff.mp h
        obtain ⟨c1, c2, c3, c4, c5, c6, c7, c8, c9, c10, c11⟩ := cd
        have g1 := of_decide_eq_true g1
        have g2 := of_decide_eq_true g2
        have g3 := of_decide_eq_true g3
        dsimp only at g4 g5 h4
        rw [Bool.not_eq_true'] at g5
        subst g1 g2 g3 g4 g5 h4
        exact ⟨_, _, _, _, _, _, _, _, _, _, _, _, _, _, _, rfl, g6⟩
      · cases h
    · cases h
/-- what is known of such a class x that keeps the fields fs -/
structure Rf (K : PySem.W.Frag) (mg : Str → Option Value) (x : Str) (fs : List Str) : Prop where
  glo : mg x = some (.ref (He.ga K x))
  oex : OexC K (He.ga K x)
  isx : ExcC K (He.ga K x)
  fld : XfC K (He.ga K x)
  ini : PySem.W.findIn K (.ref (He.ga K x)) "__init__" = some (some (.ref (He.ma K (He.ga K x) "__init__")))
  fun_ : PySem.W.typeIn K (.ref (He.ma K (He.ga K x) "__init__")) = some (.type "function")
  no : ∀ f ∈ fs, PySem.W.findIn K (.ref (He.ga K x)) f = some none
  top : PySem.W.exmOne K (.ref (He.ga K x)) (.ref (He.ga K "SherdError")) = some true
def isB (K : PySem.W.Frag) (C : Addr) : Bool := decide (PySem.W.findIn K (.ref C) "__getattribute__" = some (some (.builtin "BaseException.__getattribute__"))) && (decide (PySem.W.findIn K (.ref C) "__getattr__" = some none) && (decide (PySem.W.subIn K (.ref C) (.type "BaseException") = some true) && (PySem.W.hasDictIn K C &&
  (decide (PySem.W.findIn K (.ref C) "__class__" = some (some (.builtin "object.__class__"))) && (decide (PySem.W.specialIn K (.builtin "object.__class__") "__get__" = some (some (.builtin "getset_descriptor.__get__"))) && (decide (PySem.W.takesIn K (.builtin "object.__class__") = some true) && decide (PySem.W.mroIn K C (.type "object") = some true)))))))
theorem isB_ok {K : PySem.W.Frag} {C : Addr} (h : isB K C = true) : ExcC K C ∧ XfC K C := by
  unfold isB at h
  simp only [Bool.and_eq_true, decide_eq_true_eq] at h
  obtain ⟨h1, h2, h3, h4, h5, h6, h7, h8⟩ := h
  exact ⟨⟨h1, h2, h3, h4, h5, h6, h7, h8⟩, ⟨h1, h2, h3, h4⟩⟩
def rfB (K : PySem.W.Frag) (x : Str) (fs : List Str) : Bool := oexB K (He.ga K x) && (isB K (He.ga K x) && (decide (PySem.W.findIn K (.ref (He.ga K x)) "__setattr__" = some (some (.builtin "object.__setattr__"))) && (decide (PySem.W.typeIn K (.ref (He.ga K x)) = some (.type "type")) && (PySem.W.keepIn K (.ref (He.ga K x)) &&
  (decide (PySem.W.findIn K (.ref (He.ga K x)) "__init__" = some (some (.ref (He.ma K (He.ga K x) "__init__")))) && (decide (PySem.W.typeIn K (.ref (He.ma K (He.ga K x) "__init__")) = some (.type "function")) && ((fs.all fun f => decide (PySem.W.findIn K (.ref (He.ga K x)) f = some none)) &&
  decide (PySem.W.exmOne K (.ref (He.ga K x)) (.ref (He.ga K "SherdError")) = some true))))))))
theorem rfB_ok {K : PySem.W.Frag} {mg : Str → Option Value} {x : Str} {fs : List Str} (h : rfB K x fs = true) (g : mg x = some (.ref (He.ga K x))) : Rf K mg x fs := by
  unfold rfB at h
  simp only [Bool.and_eq_true, decide_eq_true_eq, List.all_eq_true] at h
  obtain ⟨h1, h2, h3, h4, h5, h6, h7, h8, h9⟩ := h
  obtain ⟨i1, i2⟩ := isB_ok h2
  exact ⟨g, ⟨oexB_ok h1, h3, i1.hs, h4, h5⟩, i1, i2, h6, h7, h8, h9⟩
/-- the i-th statement of a class's body -/
def inCls (st : Stmt) (i : Nat) : Stmt := match st with
  | .ClassDef _ _ _ b .. => b.getD i (.Pass ⟨0, 0, 0, 0⟩)
  | _ => .Pass ⟨0, 0, 0, 0⟩
/-- __init__(self, f1, ..): self.f1 = f1, .. -/
def spIni (C : Addr) (fs : List Str) : Sp := fun vs H Q _ => ∃ (a : Addr) (us : List V), vs = .ref a :: us ∧ us.length = fs.length ∧ H a = some (exo a C none) ∧
  ∀ d H', H d = none → d ≠ a → H' a = some (exo a C (some d)) → H' d = some (exd d (fs.zip us).reverse) → (∀ b, b ≠ a → b ≠ d → H' b = H b) → Q .non H'
theorem rf_use {H1 : Hp} {C : Addr} {fs : List Str} {vs : List V} {Q : XK} (hl : vs.length = fs.length) (hf : fs.length ≤ 900) (q : ∀ d, H1 d = none → Q (.ref C) (some d) (upd H1 d (.xd (fs.zip vs).reverse))) :
    vs.length ≤ 1000 ∧ ∀ a, H1 a = none → spIni C fs (.ref a :: (vs ++ [])) (upd H1 a (exo a C none))
      (fun v H2 => v = .non ∧ ∃ (d : Addr) (gs : List (Str × V)), H2 a = some (exo a C (some d)) ∧ H2 d = some (exd d gs) ∧ H1 d = none ∧ Q (.ref C) (some d) (upd (del H2 a) d (.xd gs))) (fun _ _ _ => False) := by
  refine ⟨by omega, fun a na => ⟨a, vs, by rw [List.append_nil], hl, upd_same, fun d H2 nd da ea ed rest => ⟨rfl, d, _, ea, ed, ?_, ?_⟩⟩⟩
  · rw [upd_ne da] at nd
    exact nd
  · rw [upd_ne da] at nd
    have e : upd (del H2 a) d (.xd (fs.zip vs).reverse) = upd H1 d (.xd (fs.zip vs).reverse) := by
      funext b
      by_cases hb : b = d
      · rw [hb, upd_same, upd_same]
      · rw [upd_ne hb, upd_ne hb]
        by_cases ha : b = a
        · rw [ha, del_same, na]
        · rw [del_ne ha, rest b ha hb, upd_ne ha]
    rw [e]
    exact q d nd
/-- such a class and its __init__ -/
structure Rd (P : Program) (w : World) (K : PySem.W.Frag) (mg : Str → Option Value) (base : Heap) (x : Str) (fs : List Str) : Prop where
  rf : Rf K mg x fs
  ok : ∃ fd ps, FnOk P w K mg base CX0 1 (He.ma K (He.ga K x) "__init__") fd ps (spIni (He.ga K x) fs) ∧ Binds K fd ps []
/-- its __init__, of one field -/
theorem ini1 {P : Program} {w : World} {K : PySem.W.Frag} {mg : Str → Option Value} {base : Heap} {x q f : Str} {st : Stmt} {fd : FuncData} (R : Rf K mg x [f]) (F : FunD K "__init__" q (defArgs st) (defBody st) (defScope st) [] [] (He.ma K (He.ga K x) "__init__") fd) (S : FnScope [("self" : Str), f] [("self" : Str), f] (defScope st)) (hb : Binds K fd [("self" : Str), f] [])
    (hs : ∀ X : Cx, X.N = [("self" : Str), f] → X.env.scope = defScope st → PSs X (defBody st) (tOst X.K f (tVar 0) (tVar 1))) : Rd P w K mg base x [f] := by
  refine ⟨R, fd, [("self" : Str), f], F.ok S (fun vs H Q E h => ?_) (fun cdv A outer s H vs Q E _ h => ?_), hb⟩
  · obtain ⟨a, us, rfl, hl, _⟩ := h
    rw [List.length_cons, hl]; rfl
  · obtain ⟨a, us, rfl, hl, ea, q⟩ := h
    obtain ⟨v, rfl⟩ : ∃ v, us = [v] := by
      cases us with
      | nil => simp at hl
      | cons v r => cases r with
        | nil => exact ⟨v, rfl⟩
        | cons _ _ => simp at hl
    refine ⟨_, hs _ rfl rfl, ?_⟩
    refine ⟨_, rfl, _, rfl, a, _, rfl, R.oex, R.no f (List.mem_singleton.mpr rfl), .inl ⟨ea, fun d nd da => q d _ nd da upd_same ?_ fun b b1 b2 => ?_⟩⟩
    · rw [upd_ne da]
      exact upd_same
    · rw [upd_ne b1, upd_ne b2]
section
variable {X : Cx} {x : Str} {fs : List Str} {e : Expr} {es : List Expr} {ta : TA} {p pos : Pos}
theorem pmk_rd (R : Rd X.prog X.w X.K X.mg X.base x fs) (hr : Room 2 X.A) (ha : PA X (e :: es) ta) (hg : Gl X x := by rfl) (hdb : (x == ("__debug__" : Str)) = false := by decide) (he : starEach (e :: es) X.env = (false, eval e X.env) :: starEach es X.env := by rfl)
    (hpl : (backTo pos (starEach es X.env)).any (·.1) = false := by rfl) : PMk X (.Call (.Name x p) (e :: es) [] pos) (tMkO (He.ga X.K x) (spIni (He.ga X.K x) fs) [] ta) := by
  obtain ⟨fd, ps, F, hb⟩ := R.ok
  exact pmk_oex R.rf.oex R.rf.ini R.rf.fun_ F hr hb .nil pass0 hg R.rf.glo ha hdb he hpl
end
/-! ### defs that may raise -/
section
variable {P : Program} {w : World} {K : PySem.W.Frag} {mg : Str → Option Value} {base : Heap}
theorem At.okX {x : Str} {st : Stmt} {N ps : List Str} {k : Nat} {sp : Sp} (F : At K mg x st ps) (S : FnScope N ps (defScope st)) (len : ∀ vs H Q E, sp vs H Q E → vs.length = ps.length)
    (hbody : ∀ (f : Addr) (cdv : Value) (A : Around) (outer : List Env) (s : Shared) (H : Hp) (vs : List V) (Q : VK) (E : XK), Room k (A.deeper (envOfC x (defScope st) s.heap.objs.size f cdv)) → sp vs H Q E →
      ∃ t, PSs (cxOf (L2.CX P w) P w K mg base N x (defScope st) f cdv A outer s H E) (defBody st) t ∧ t { nx := fun _ H' => Q .non H', rt := Q } (start N vs) H) : Dn P w K mg base (L2.CX P w) (k + 1) x ps sp := by
  obtain ⟨f, fd, F, hm, hb⟩ := F
  exact ⟨f, fd, F.ok S len fun cdv A outer s H vs Q E hr h => hbody f cdv A outer s H vs Q E hr h, hm, F.kp, hb, F.look⟩
end
section
variable {X : Cx} {W : WX} {k : Nat} {x : Str} {ps : List Str} {sp : Sp} {p pos : Pos} {e : Expr} {es : List Expr} {t : TA}
theorem pe_callX (D : Dn X.prog X.w X.K X.mg X.base (L2.CX X.prog X.w) k x ps sp) (hr : Room k X.A) (tk : Takes X W) (ha : PA X (e :: es) t) (hg : Gl X x := by rfl) (hdb : (x == ("__debug__" : Str)) = false := by decide)
    (he : starEach (e :: es) X.env = (false, eval e X.env) :: starEach es X.env := by rfl) (hpl : (backTo pos (starEach es X.env)).any (·.1) = false := by rfl) :
    PE X (.Call (.Name x p) (e :: es) [] pos) (tCallS sp (WE W) t) := by
  obtain ⟨f, fd, F, hm, hk, hb, _⟩ := D
  exact pe_callS F hr hg hm hk hb (fun σ => passAt tk σ) ha hdb he hpl
end
/-! ### which classes such a refusal is of -/
def isAll (K : PySem.W.Frag) (x : Str) (l : List (Str × Bool)) : Bool := decide (PySem.W.kitOne K (.ref (He.ga K x)) (.type "ValueError") = some true) && l.all fun p => decide (PySem.W.kitOne K (.ref (He.ga K x)) (.ref (He.ga K p.1)) = some p.2)
section
variable {K : PySem.W.Frag} {x : Str} {l : List (Str × Bool)}
theorem isAll_v (h : isAll K x l = true) : PySem.W.kitOne K (.ref (He.ga K x)) (.type "ValueError") = some true := of_decide_eq_true (Bool.and_eq_true_iff.mp h).1
theorem isAll_mem (h : isAll K x l = true) {y : Str} {b : Bool} (m : (y, b) ∈ l) : PySem.W.kitOne K (.ref (He.ga K x)) (.ref (He.ga K y)) = some b :=
  of_decide_eq_true (List.all_eq_true.mp (Bool.and_eq_true_iff.mp h).2 (y, b) m)
theorem isAll_at (h : isAll K x l = true) (i : Nat) {y : Str} {b : Bool} (e : l[i]? = some (y, b) := by rfl) : PySem.W.kitOne K (.ref (He.ga K x)) (.ref (He.ga K y)) = some b := isAll_mem h (List.mem_of_getElem? e)
theorem kitAny_no {t : Value} : ∀ {us : List Value}, (∀ u ∈ us, PySem.W.kitOne K t u = some false) → PySem.W.kitAny K t us = some false
  | [], _ => rfl
  | u :: us, h => by
    unfold PySem.W.kitAny
    rw [h u (List.mem_cons_self ..)]
    exact kitAny_no fun v hv => h v (List.mem_cons_of_mem _ hv)
theorem isAll_none (h : isAll K x l = true) (ys : List Str) (hy : (ys.all fun y => l.contains (y, false)) = true) : PySem.W.kitAny K (.ref (He.ga K x)) (ys.map fun y => Value.ref (He.ga K y)) = some false := by
  refine kitAny_no fun u hu => ?_
  obtain ⟨y, my, rfl⟩ := List.mem_map.mp hu
  have := List.all_eq_true.mp hy y my
  exact isAll_mem h (by simpa using this)
theorem clsAll : ∀ ys : List Str, Paired ClsV (ys.map fun y => V.ref (He.ga K y)) (ys.map fun y => Value.ref (He.ga K y))
  | [] => .nil
  | y :: ys => .cons (.own _) (clsAll ys)
end
theorem DOk.same {H H' : Hp} {d : Option Addr} (k : DOk H d) (s : Same H H') : DOk H' d := by
  rcases k with rfl | ⟨dd, fs, rfl, e⟩
  · exact .inl rfl
  · exact .inr ⟨dd, fs, rfl, s _ _ e⟩
end Cm

set_option Elab.async false
set_option linter.all false
set_option maxRecDepth 100000
set_option maxHeartbeats 4000000
namespace Cm
open PySem PySem.Spec PyProof.Rows L2
theorem hu1 {A : Around} (h : A.units + 64 < cLine) : A.units + 1 < cLine := by omega
theorem Same.low {H H' : Hp} {p : Addr} (s : Same H H') (n : H' p = none) : H p = none := by
  cases h : H p with
  | none => rfl
  | some o => rw [s _ _ h] at n; cases n
/-! ### tests of two parts, what follows said once -/
theorem and_ite {c : Prop} [Decidable c] {b : Bool} {A B X : Prop} (hx : c → (b = true → A) → (b = false → B) → X) (hA : c → b = true → A) (hB : (c → b = false) → B) : if decide c = true then X else B := by
  by_cases h : c
  · rw [decide_eq_true h]
    refine iteT (hx h (hA h) fun e => hB fun _ => e)
  · rw [decide_eq_false h]
    exact iteF (hB fun z => absurd z h)
theorem and_iteI {x y : Int} {b : Bool} {A B X : Prop} (hx : x = y → (b = true → A) → (b = false → B) → X) (hA : x = y → b = true → A) (hB : (x = y → b = false) → B) : if decide (V.int x = V.int y) = true then X else B :=
  and_ite (fun h => hx (V.int.inj h)) (fun h => hA (V.int.inj h)) fun h => hB fun e => h (congrArg V.int e)
/-! ### heaps without one object -/
def cutP (p : Addr) (H : Hp) : Hp := fun a => if a = p then none else H a
theorem cutP_same (p : Addr) (H : Hp) : Same (cutP p H) H := fun b o e => by
  unfold cutP at e
  split at e
  · cases e
  · exact e
theorem cutP_of {p a : Addr} {H : Hp} {o : HO} (e : H a = some o) (n : a ≠ p) : cutP p H a = some o := by
  unfold cutP
  rw [if_neg n]
  exact e
theorem _root_.Cm.Kp.cut {p : Addr} {H H' : Hp} (k : Kp p H H') : Same (cutP p H) (cutP p H') := fun b o e => by
  unfold cutP at e ⊢
  split at e
  · cases e
  · rename_i n
    rw [if_neg n]
    exact k b o e n
theorem Same.cut {p : Addr} {H H' : Hp} (s : Same H H') : Same (cutP p H) (cutP p H') := Kp.cut (Kp.of s)
/-! ### rules whose new object is told by what is known of it -/
section
variable {X : Cx} {es : List Expr} {t : TA} {pos : Pos}
def tTupF (t : TA) : TE := fun σ H Q => t σ H fun xs H1 => xs.length ≤ sizeLine ∧ ∀ p H', H1 p = none → Same H1 H' → H' p = some (.tup xs) → Q (.ref p) H'
def tLstF (t : TA) : TE := fun σ H Q => t σ H fun xs H1 => xs.length ≤ sizeLine ∧ ∀ p H', H1 p = none → Same H1 H' → H' p = some (.lst xs) → Q (.ref p) H'
theorem pe_tupF {x1} (h : PA X es t) : PE X (.Tuple es x1 pos) (tTupF t) := by
  refine ⟨fun pins s σ H Q I hq => ?_⟩
  refine wpAny_Tuple_spliced (thn (h.run pos pins s σ H _ I hq) fun us s1 ⟨xs, H1, I1, r, z, q⟩ => ⟨by rw [← r.length]; exact z, ?_⟩)
  have hf : H1 s1.heap.objs.size = none := I1.hok.fresh (Nat.le_refl _)
  refine ⟨.ref s1.heap.objs.size, upd H1 s1.heap.objs.size (.tup xs), I1.laid (t' := s1.toks) (fun b u e => Heap.get?_push_of_some _ e) (Nat.le_refl _) ?_, rfl, q _ _ hf (Same.new hf) upd_same⟩
  exact ⟨z, us, r, ⟨_, Heap.get?_push_size _ rfl, rfl, _, rfl⟩⟩
theorem pe_lstF (h : PA X es t) : PE X (.List es pos) (tLstF t) := by
  refine ⟨fun pins s σ H Q I hq => ?_⟩
  refine wpAny_List_spliced (thn (h.run pos pins s σ H _ I hq) fun us s1 ⟨xs, H1, I1, r, z, q⟩ => ⟨by rw [← r.length]; exact z, ?_⟩)
  have hf : H1 s1.heap.objs.size = none := I1.hok.fresh (Nat.le_refl _)
  refine ⟨.ref s1.heap.objs.size, upd H1 s1.heap.objs.size (.lst xs), I1.laid (t' := s1.toks) (fun b u e => Heap.get?_push_of_some _ e) (Nat.le_refl _) ?_, rfl, q _ _ hf (Same.new hf) upd_same⟩
  exact ⟨z, us, 0, r, Heap.get?_push_size _ rfl⟩
def rCatF : R2 := fun x y H Q => ∃ l b xs zs, x = .ref l ∧ y = .ref b ∧ H l = some (.lst xs) ∧ H b = some (.lst zs) ∧ xs.length + zs.length ≤ sizeLine ∧ ∀ p H', H p = none → Same H H' → H' p = some (.lst (xs ++ zs)) → Q (.ref p) H'
theorem op_catF : OpR X (binaryOp .Add) rCatF := op_cat.imp fun x y H Q h => by
  obtain ⟨l, b, xs, zs, rfl, rfl, h1, h2, h3, q⟩ := h
  exact ⟨l, b, xs, zs, rfl, rfl, h1, h2, h3, fun p np => q p _ np (Same.new np) upd_same⟩
def rRepF : R2 := fun x y H Q => ∃ l k xs, x = .ref l ∧ y = .int k ∧ H l = some (.lst xs) ∧ -(2 ^ 63) ≤ k ∧ k < 2 ^ 63 ∧ xs.length * k.toNat ≤ sizeLine ∧
  ∀ p H', H p = none → Same H H' → H' p = some (.lst (List.replicate k.toNat xs).flatten) → Q (.ref p) H'
theorem op_repF : OpR X (binaryOp .Mult) rRepF := op_rep.imp fun x y H Q h => by
  obtain ⟨l, k, xs, rfl, rfl, h1, h2, h3, h4, q⟩ := h
  exact ⟨l, k, xs, rfl, rfl, h1, h2, h3, h4, fun p np => q p _ np (Same.new np) upd_same⟩
def rSlLF (K : PySem.W.Frag) : V → Option Int → Option Int → Hp → VK → Prop := fun x lo hi H Q => ∃ a xs, x = .ref a ∧ SqL K H a xs ∧ ∀ p H', H p = none → Same H H' → H' p = some (.lst (cutV xs lo hi)) → Q (.ref p) H'
theorem sl_listF : SlR X (rSlLF X.K) := by
  intro pins s σ H x v vl vu lo hi sl Q I rx hs pl pu h
  obtain ⟨a, xs, rfl, ha, q⟩ := h
  exact sl_list pins s σ H (.ref a) v vl vu lo hi sl Q I rx hs pl pu ⟨a, xs, rfl, ha, fun p np => q p _ np (Same.new np) upd_same⟩
def rListF (K : PySem.W.Frag) : List V → Hp → VK → Prop := fun xs H Q => ∃ p ys, xs = [.ref p] ∧ (SqL K H p ys ∨ SqT K H p ys) ∧ ∀ l H', H l = none → Same H H' → H' l = some (.lst ys) → Q (.ref l) H'
theorem call_listF : CallR X (.type "list") (rListF X.K) := by
  intro pins s σ H xs us Q I r h
  obtain ⟨p, ys, rfl, hq, q⟩ := h
  exact call_list_of pins s σ H [.ref p] us Q I r ⟨p, ys, rfl, hq, fun l nl => q l _ nl (Same.new nl) upd_same⟩
def rTupleF (K : PySem.W.Frag) : List V → Hp → VK → Prop := fun xs H Q => ∃ p ys, xs = [.ref p] ∧ ((SqL K H p ys ∧ ∀ l H', H l = none → Same H H' → H' l = some (.tup ys) → Q (.ref l) H') ∨ (SqT K H p ys ∧ Q (.ref p) H))
theorem call_tupleF : CallR X (.type "tuple") (rTupleF X.K) := by
  intro pins s σ H xs us Q I r h
  obtain ⟨p, ys, rfl, hq⟩ := h
  refine call_tuple_of pins s σ H [.ref p] us Q I r ⟨p, ys, rfl, ?_⟩
  rcases hq with ⟨hq, q⟩ | hq
  · exact .inl ⟨hq, fun l nl => q l _ nl (Same.new nl) upd_same⟩
  · exact .inr hq
def rListDF : List V → Hp → VK → Prop := fun xs H Q => ∃ p kvs, xs = [.ref p] ∧ H p = some (.dK kvs) ∧ ∀ l H', H l = none → Same H H' → H' l = some (.lst (kvs.map fun kv => kV kv.1)) → Q (.ref l) H'
theorem call_listDF (hc : X.calm = true) : CallR X (.type "list") rListDF := by
  intro pins s σ H xs us Q I r h
  obtain ⟨p, kvs, rfl, hq, q⟩ := h
  exact call_list_dK hc pins s σ H [.ref p] us Q I r ⟨p, kvs, rfl, hq, fun l nl => q l _ nl (Same.new nl) upd_same⟩
def tDNewF : TE := fun _ H Q => ∀ p H', H p = none → Same H H' → H' p = some (.dK []) → Q (.ref p) H'
theorem pe_dnewF : PE X (.Dict [] [] pos) tDNewF := ⟨fun pins s σ H Q I h => pe_dnewK.run pins s σ H Q I fun p np => h p _ np (Same.new np) upd_same⟩
/-- != of data, or of two dicts that are one -/
theorem op_neAny (hu : X.A.units + 64 < cLine) : OpR X (compareOp .NotEq) (fun x y H Q => rNeD X.K x y H Q ∨ rNeDA x y H Q) := (op_neD hu).or (op_ne_dictA (by omega))
end
/-! ### defs with one keyword-only parameter without a default -/
def DnN (P : Program) (w : World) (K : PySem.W.Frag) (mg : Str → Option Value) (base : Heap) (CX : CXT) (k : Nat) (x : Str) (ps : List Str) (kw : Str) (sp : Sp) : Prop :=
  ∃ (f : Addr) (fd : FuncData), FnOk P w K mg base CX k f fd (ps ++ [kw]) sp ∧ mg x = some (.ref f) ∧ PySem.W.keepIn K (.ref f) = true ∧ KBn K fd (ps ++ [kw]) ps.length [kw] (fun us ws => us ++ ws) (fun vs zs => vs ++ zs) ∧ ∃ oc od osl, K.lookup f = some ⟨oc, od, .func fd, osl⟩
def AtN (K : PySem.W.Frag) (mg : Str → Option Value) (x : Str) (st : Stmt) (ps : List Str) (kw : Str) : Prop :=
  ∃ (f : Addr) (fd : FuncData), FunD K x x (defArgs st) (defBody st) (defScope st) [] [] f fd ∧ mg x = some (.ref f) ∧ KBn K fd (ps ++ [kw]) ps.length [kw] (fun us ws => us ++ ws) (fun vs zs => vs ++ zs)
section
variable {P : Program} {w : World} {K : PySem.W.Frag} {mg : Str → Option Value} {base : Heap}
theorem AtN.ok {x kw : Str} {st : Stmt} {N ps : List Str} {k : Nat} {sp : Sp} (F : AtN K mg x st ps kw) (S : FnScope N (ps ++ [kw]) (defScope st)) (len : ∀ vs H Q E, sp vs H Q E → vs.length = (ps ++ [kw]).length)
    (hbody : ∀ (f : Addr) (cdv : Value) (A : Around) (outer : List Env) (s : Shared) (H : Hp) (vs : List V) (Q : VK) (E : XK), Room k (A.deeper (envOfC x (defScope st) s.heap.objs.size f cdv)) → sp vs H Q E →
      ∃ t, PSs (cxOf CX0 P w K mg base N x (defScope st) f cdv A outer s H E).nox (defBody st) t ∧ t { nx := fun _ H' => Q .non H', rt := Q } (start N vs) H) : DnN P w K mg base CX0 (k + 1) x ps kw sp := by
  obtain ⟨f, fd, F, hm, hb⟩ := F
  refine ⟨f, fd, F.ok S len fun cdv A outer s H vs Q E hr h => ?_, hm, F.kp, hb, F.look⟩
  obtain ⟨t, h1, h2⟩ := hbody f cdv A outer s H vs Q E hr h
  exact ⟨t, h1.nox, h2⟩
theorem atN_mk {x kw : Str} {st : Stmt} {ps : List Str} {f : Addr} {fd : FuncData} (F : FunD K x x (defArgs st) (defBody st) (defScope st) [] [] f fd) (hm : mg x = some (.ref f))
    (h1 : ∀ (kV doc pm : Value) (an : Option Addr) (cdv ct : Value) (us ws : List Value), us.length = ps.length → ws.length = 1 →
      bindArgs (PySem.W.fnOf x x (defArgs st) (defBody st) (defScope st) .none kV doc pm an cdv ct) ⟨us, [kw].zip ws⟩ = pure ((ps ++ [kw]).zip (us ++ ws))) : AtN K mg x st ps kw := by
  refine ⟨f, fd, F, hm, ?_⟩
  obtain ⟨oc, od, dV, kV, doc, pm, an, cdv, ct, osl, rfl, lk, hcd, hD, hK⟩ := F.ex
  rcases hD with ⟨_, rfl⟩ | ⟨e, _⟩
  · exact ⟨fun s us ws _ l1 l2 => .of_eq (h1 kV doc pm an cdv ct us ws l1 l2), fun r rz => r.append rz⟩
  · exact absurd rfl e
end
section
variable {X : Cx} {k : Nat} {x kw : Str} {ps : List Str} {sp : Sp} {p pos kp : Pos} {e ek : Expr} {es : List Expr} {t : TA} {tk : TE}
theorem pe_callV (D : DnN X.prog X.w X.K X.mg X.base CX0 k x ps kw sp) (hr : Room k X.A) (ha : PA X (e :: es) t) (hk : PE X ek tk) (hg : Gl X x := by rfl)
    (hall : (backToKw pos (keywordEach [⟨some kw, ek, kp⟩] X.env)).all (·.1.isSome) = true := by rfl) (hks : (backToKw pos (keywordEach [⟨some kw, ek, kp⟩] X.env)).filterMap (·.1) = [kw] := by rfl)
    (hdb : (x == ("__debug__" : Str)) = false := by decide) (he : starEach (e :: es) X.env = (false, eval e X.env) :: starEach es X.env := by rfl)
    (hpl : ((backTo pos (starEach (e :: es) X.env)).any (·.1) || (backToKw pos (keywordEach [⟨some kw, ek, kp⟩] X.env)).any (·.1.isNone)) = false := by rfl) :
    PE X (.Call (.Name x p) (e :: es) [⟨some kw, ek, kp⟩] pos) (tCallW ps.length sp t tk) := by
  obtain ⟨f, fd, F, hm, hkp, hb, _⟩ := D
  have h := pe_callN (p := p) F hr hg hm hkp hb pass0 ha (pk_cons (nm := some kw) (kpos := kp) hk pk_nil) hall hks hdb he hpl
  refine ⟨fun pins s σ H Q I q => h.run pins s σ H Q I ?_⟩
  exact q
theorem pe_callV0 (D : DnN X.prog X.w X.K X.mg X.base CX0 k x [] kw sp) (hr : Room k X.A) (hk : PE X ek tk) (hg : Gl X x := by rfl)
    (hall : (backToKw pos (keywordEach [⟨some kw, ek, kp⟩] X.env)).all (·.1.isSome) = true := by rfl) (hks : (backToKw pos (keywordEach [⟨some kw, ek, kp⟩] X.env)).filterMap (·.1) = [kw] := by rfl)
    (hdb : (x == ("__debug__" : Str)) = false := by decide)
    (hpl : ((backTo pos (starEach [] X.env)).any (·.1) || (backToKw pos (keywordEach [⟨some kw, ek, kp⟩] X.env)).any (·.1.isNone)) = false := by rfl) :
    PE X (.Call (.Name x p) [] [⟨some kw, ek, kp⟩] pos) (fun σ H Q => tk σ H fun z H2 => [z].length = 1 ∧ sp [z] H2 Q E0) := by
  obtain ⟨f, fd, F, hm, hkp, hb, _⟩ := D
  refine ⟨fun pins s σ H Q I h => ?_⟩
  refine wpAny_Call_Name_kw (ld_glob I hg hm ?_ hdb)
  refine PySem.W.callWith_KW0 (h₀ := X.base) I.ok.mod.kin hkp hall ?_ hpl
  refine thn ((pk_cons (nm := some kw) (kpos := kp) hk pk_nil).run pos pins s σ H (fun zs H2 => zs.length = 1 ∧ sp zs H2 Q E0) I ?_) fun ws s2 ⟨zs, H2, I2, rz, l2, q2⟩ => ⟨I2.kIn, ?_⟩
  · exact h
  rw [hks]
  exact run_fnN (us := []) (vs := []) F hr hb pass0 I2 .nil rz rfl l2 q2
end
theorem pi_listK {X : Cx} (K : PySem.W.Frag) {tg e : Expr} {te : TE} (he : PE X e te) (hK : X.K = K := by rfl) : PI X tg e (iList K te) := by
  subst hK
  exact pi_list he
end Cm

set_option Elab.async false
set_option linter.all false
set_option maxRecDepth 100000
set_option maxHeartbeats 4000000
namespace Cm
open PySem PySem.Spec PyProof.Rows L2
/-- a list of lists of ints, each a list of its own -/
structure Mat (H : Hp) (r : Addr) (as : List Addr) (rows : List (List Int)) : Prop where
  hd : H r = some (.lst (as.map V.ref))
  nd : (r :: as).Nodup
  len : as.length = rows.length
  get : ∀ (i : Nat) (a : Addr) (row : List Int), as[i]? = some a → rows[i]? = some row → H a = some (.lst (row.map V.int))
theorem Mat.nil {H : Hp} {r : Addr} (h : H r = some (.lst [])) : Mat H r [] [] := ⟨h, by simp, rfl, fun i a row e => by simp at e⟩
theorem Mat.in {H : Hp} {r : Addr} {as : List Addr} {rows : List (List Int)} (M : Mat H r as rows) {a : Addr} (h : a ∈ as) : ∃ o, H a = some o := by
  obtain ⟨i, hi, e⟩ := List.mem_iff_getElem.mp h
  have hi2 : i < rows.length := by rw [← M.len]; exact hi
  exact ⟨_, M.get i a rows[i] (by rw [List.getElem?_eq_getElem hi, e]) (by rw [List.getElem?_eq_getElem hi2])⟩
theorem Mat.same {H H' : Hp} {r : Addr} {as : List Addr} {rows : List (List Int)} (M : Mat H r as rows) (s : Same H H') : Mat H' r as rows := ⟨s _ _ M.hd, M.nd, M.len, fun i a row e1 e2 => s _ _ (M.get i a row e1 e2)⟩
theorem Mat.snoc {H H4 : Hp} {r d : Addr} {as : List Addr} {rows : List (List Int)} {row : List Int} (M : Mat H r as rows) (s : Same H H4) (nd : H d = none) (ed : H4 d = some (.lst (row.map V.int))) :
    Mat (upd H4 r (.lst (as.map V.ref ++ [V.ref d]))) r (as ++ [d]) (rows ++ [row]) := by
  have dr : d ≠ r := fun e => by rw [e] at nd; rw [M.hd] at nd; cases nd
  have da : d ∉ as := fun h => by obtain ⟨o, e⟩ := M.in h; rw [nd] at e; cases e
  have hn := List.nodup_cons.mp M.nd
  refine ⟨by rw [upd_same, List.map_append]; rfl, ?_, by rw [List.length_append, List.length_append, M.len]; rfl, fun i a rw' e1 e2 => ?_⟩
  · refine List.nodup_cons.mpr ⟨fun h => ?_, ?_⟩
    · rcases List.mem_append.mp h with h | h
      · exact hn.1 h
      · exact dr (List.mem_singleton.mp h).symm
    · refine List.nodup_append.mpr ⟨hn.2, by simp, fun x hx y hy e => ?_⟩
      rw [List.mem_singleton.mp hy] at e
      exact da (e ▸ hx)
  · by_cases hi : i < as.length
    · rw [List.getElem?_append_left hi] at e1
      rw [List.getElem?_append_left (by rw [← M.len]; exact hi)] at e2
      have ha : a ∈ as := List.mem_of_getElem? e1
      have : a ≠ r := fun e => hn.1 (e ▸ ha)
      rw [upd_ne this]
      exact s _ _ (M.get i a rw' e1 e2)
    · have hi' : as.length ≤ i := by omega
      rw [List.getElem?_append_right hi'] at e1
      rw [List.getElem?_append_right (by rw [← M.len]; exact hi'), ← M.len] at e2
      have i0 : i - as.length = 0 := by
        cases h : i - as.length with
        | zero => rfl
        | succ n => rw [h] at e1; simp at e1
      rw [i0] at e1 e2
      simp at e1 e2
      rw [← e1, ← e2, upd_ne dr]
      exact ed
theorem Mat.kp {H H' : Hp} {r p : Addr} {as : List Addr} {rows : List (List Int)} (M : Mat H r as rows) (k : Kp p H H') (n : ∀ c ∈ r :: as, c ≠ p) : Mat H' r as rows :=
  ⟨k _ _ M.hd (n _ (List.mem_cons_self ..)), M.nd, M.len, fun i a row e1 e2 => k _ _ (M.get i a row e1 e2) (n _ (List.mem_cons_of_mem _ (List.mem_of_getElem? e1)))⟩
theorem Mat.put {H : Hp} {r : Addr} {as : List Addr} {rows : List (List Int)} (M : Mat H r as rows) {i : Nat} {a : Addr} (e : as[i]? = some a) (row : List Int) : Mat (upd H a (.lst (row.map V.int))) r as (rows.set i row) := by
  have hn := List.nodup_cons.mp M.nd
  have ha : a ∈ as := List.mem_of_getElem? e
  refine ⟨by rw [upd_ne (show r ≠ a from fun z => hn.1 (z ▸ ha))]; exact M.hd, M.nd, by rw [List.length_set]; exact M.len, fun j b rw' e1 e2 => ?_⟩
  by_cases h : j = i
  · subst h
    rw [e] at e1
    cases e1
    have hl : j < rows.length := by rw [← M.len]; exact (List.getElem?_eq_some_iff.mp e).1
    rw [List.getElem?_set_self hl] at e2
    cases e2
    exact upd_same
  · rw [List.getElem?_set_ne (Ne.symm h)] at e2
    have ba : b ≠ a := fun z => by
      rw [z] at e1
      obtain ⟨q1, q2⟩ := List.getElem?_eq_some_iff.mp e1
      obtain ⟨q3, q4⟩ := List.getElem?_eq_some_iff.mp e
      exact h ((List.getElem_inj (h₀ := q1) (h₁ := q3) hn.2).mp (q2.trans q4.symm))
    rw [upd_ne ba]
    exact M.get j b rw' e1 e2
/-! ### comprehensions whose members are new lists of ints -/
section
variable {J : It} {n : Nat} {G : Hp → Prop} {Y : Nat → Hp → V → Hp → Prop}
theorem lc_rows (w : Walk J n G Y) {g : TG} {tt : TT} {te : TE} {vs : List Nat} {σ : L2.St} {H1 : Hp} {D : Addr} {Qd : Hp → Prop} (rows : Nat → List Int) (hD : H1 D = none) (hn : n < sizeLine) (hG : ∀ H, Same H1 H → G H)
    (hs : ∀ i x H H' (R : V → Hp → Prop) (R' : Hp → Prop), i < n → Same H1 H → Y i H x H' → (∀ d H4, Same H H4 → H d = none → H4 d = some (.lst ((rows i).map V.int)) → R (.ref d) H4) → g x (wipe σ vs) H' fun σ2 H2 => wipe σ2 vs = wipe σ vs ∧ tt σ2 H2 fun b H3 => if b = true then te σ2 H3 R else R' H3)
    (hd : ∀ H as, Same H1 H → Mat H D as ((List.range n).map rows) → (∀ b ∈ as, H1 b = none) → Qd H) :
    ∃ W : Nat → Nat → Hp → Prop, (∃ m, W 0 m (upd H1 D (.lst []))) ∧ ∀ i m H, W i m H →
      (J.stop i H ∧ Qd H) ∨ (J.go i H ∧ ∃ Nx : Hp → Prop, (∀ H', Nx H' → ∃ m', m' < m ∧ W (i + 1) m' H') ∧ ∀ x H', J.yld i H x H' → g x (wipe σ vs) H' fun σ2 H2 => wipe σ2 vs = wipe σ vs ∧ tt σ2 H2 fun b H3 =>
        if b = true then te σ2 H3 fun y H4 => ∃ acc, H4 D = some (.lst acc) ∧ acc.length < sizeLine ∧ Nx (upd H4 D (.lst (acc ++ [y]))) else Nx H3) := by
  refine lc_it w (fun i H => Same H1 H ∧ ∃ as, Mat H D as ((List.range i).map rows) ∧ ∀ b ∈ as, H1 b = none) ⟨Same.new hD, [], Mat.nil upd_same, fun _ h => by cases h⟩ (fun i H _ p => hG H p.1) ?_ (fun H ⟨p1, as, p2, p3⟩ => hd H as p1 p2 p3)
  intro i x H H' hi p y
  obtain ⟨p1, as, p2, p3⟩ := p
  refine hs i x H H' _ _ hi p1 y fun d H4 s4 nd ed => ?_
  have al : as.length = i := by rw [p2.len, List.length_map, List.length_range]
  refine ⟨_, s4 _ _ p2.hd, by rw [List.length_map, al]; omega, fun b o e => ?_, as ++ [d], ?_, fun b hb => ?_⟩
  · rw [upd_ne (ne_of_none e hD)]
    exact s4 _ _ (p1 _ _ e)
  · rw [List.range_succ, List.map_append]
    exact p2.snoc s4 nd ed
  · rcases List.mem_append.mp hb with hb | hb
    · exact p3 b hb
    · rw [List.mem_singleton.mp hb]
      exact Same.low p1 nd
end
/-! ### dict comprehensions -/
section
variable {J : It} {n : Nat} {G : Hp → Prop} {Y : Nat → Hp → V → Hp → Prop}
theorem dc_it (w : Walk J n G Y) {g : TG} {tt : TT} {tk tv : TE} {vs : List Nat} {σ : L2.St} {H1 : Hp} {D : Addr} {Qd : Hp → Prop} (Pv : Nat → Hp → Prop) (h0 : Pv 0 (upd H1 D (.dK []))) (hG : ∀ i H, i ≤ n → Pv i H → G H)
    (hs : ∀ i x H H', i < n → Pv i H → Y i H x H' → g x (wipe σ vs) H' fun σ2 H2 => wipe σ2 vs = wipe σ vs ∧ tt σ2 H2 fun b H3 =>
      if b = true then tk σ2 H3 fun y H4 => tv σ2 H4 fun z H5 => ∃ kvs k, y = kV k ∧ H5 D = some (.dK kvs) ∧ kvs.length < sizeLine ∧ Pv (i + 1) (upd H5 D (.dK (putK kvs k z))) else Pv (i + 1) H3) (hd : ∀ H, Pv n H → Qd H) :
    ∃ W : Nat → Nat → Hp → Prop, (∃ m, W 0 m (upd H1 D (.dK []))) ∧ ∀ i m H, W i m H →
      (J.stop i H ∧ Qd H) ∨ (J.go i H ∧ ∃ Nx : Hp → Prop, (∀ H', Nx H' → ∃ m', m' < m ∧ W (i + 1) m' H') ∧ ∀ x H', J.yld i H x H' → g x (wipe σ vs) H' fun σ2 H2 => wipe σ2 vs = wipe σ vs ∧ tt σ2 H2 fun b H3 =>
        if b = true then tk σ2 H3 fun y H4 => tv σ2 H4 fun z H5 => ∃ kvs k, y = kV k ∧ H5 D = some (.dK kvs) ∧ kvs.length < sizeLine ∧ Nx (upd H5 D (.dK (putK kvs k z))) else Nx H3) := by
  refine ⟨fun i m H => m = n - i ∧ i ≤ n ∧ Pv i H, ⟨n, by simp, Nat.zero_le _, h0⟩, ?_⟩
  rintro i m H ⟨rfl, hi, p⟩
  have q := hG i H hi p
  by_cases hlt : i < n
  · refine .inr ⟨w.goes i H hlt q, Pv (i + 1), fun H' p' => ⟨n - (i + 1), by omega, rfl, hlt, p'⟩, fun x H' y => hs i x H H' hlt p (w.yields i H x H' hlt q y)⟩
  · have e : i = n := by omega
    subst e
    exact .inl ⟨w.stops H q, hd H p⟩
/-- of keys that are all unlike, and values that are known -/
theorem dc_map (w : Walk J n G Y) {g : TG} {tt : TT} {tk tv : TE} {vs : List Nat} {σ : L2.St} {H1 : Hp} {D : Addr} {Qd : Hp → Prop} (kf : Nat → Key) (vf : Nat → V) (hk : ∀ i j, i < j → j < n → kf i ≠ kf j) (hD : H1 D = none) (hn : n < sizeLine) (hG : ∀ H, Same H1 H → G H)
    (hs : ∀ i x H H' (R : V → V → Hp → Prop) (R' : Hp → Prop), i < n → Same H1 H → Y i H x H' → (∀ H4, Same H H4 → R (kV (kf i)) (vf i) H4) → g x (wipe σ vs) H' fun σ2 H2 => wipe σ2 vs = wipe σ vs ∧ tt σ2 H2 fun b H3 => if b = true then tk σ2 H3 fun y H4 => tv σ2 H4 (R y) else R' H3)
    (hd : ∀ H, Same H1 H → H D = some (.dK ((List.range n).map fun i => (kf i, vf i))) → Qd H) :
    ∃ W : Nat → Nat → Hp → Prop, (∃ m, W 0 m (upd H1 D (.dK []))) ∧ ∀ i m H, W i m H →
      (J.stop i H ∧ Qd H) ∨ (J.go i H ∧ ∃ Nx : Hp → Prop, (∀ H', Nx H' → ∃ m', m' < m ∧ W (i + 1) m' H') ∧ ∀ x H', J.yld i H x H' → g x (wipe σ vs) H' fun σ2 H2 => wipe σ2 vs = wipe σ vs ∧ tt σ2 H2 fun b H3 =>
        if b = true then tk σ2 H3 fun y H4 => tv σ2 H4 fun z H5 => ∃ kvs k, y = kV k ∧ H5 D = some (.dK kvs) ∧ kvs.length < sizeLine ∧ Nx (upd H5 D (.dK (putK kvs k z))) else Nx H3) := by
  refine dc_it w (fun i H => Same H1 H ∧ H D = some (.dK ((List.range i).map fun i => (kf i, vf i)))) ⟨Same.new hD, upd_same⟩ (fun i H _ p => hG H p.1) ?_ (fun H p => hd H p.1 p.2)
  intro i x H H' hi p y
  refine hs i x H H' (fun y z H5 => ∃ kvs k, y = kV k ∧ H5 D = some (.dK kvs) ∧ kvs.length < sizeLine ∧ (Same H1 (upd H5 D (.dK (putK kvs k z))) ∧ upd H5 D (.dK (putK kvs k z)) D = some (.dK ((List.range (i + 1)).map fun i => (kf i, vf i))))) _ hi p.1 y fun H4 s4 => ?_
  refine ⟨_, _, rfl, s4 _ _ p.2, by rw [List.length_map, List.length_range]; omega, fun b o e => ?_, ?_⟩
  · rw [upd_ne (ne_of_none e hD)]
    exact s4 _ _ (p.1 _ _ e)
  · rw [upd_same, putK_new, List.range_succ, List.map_append]
    · rfl
    · have : ∀ m, m ≤ i → valV ((List.range m).map fun i => (kf i, vf i)) (kf i) = none := fun m => by
        induction m with
        | zero => intro _; rfl
        | succ m ih =>
          intro hm
          rw [List.range_succ, List.map_append]
          show valV (((List.range m).map fun i => (kf i, vf i)) ++ [(kf m, vf m)]) (kf i) = none
          have h0 : valV ((List.range m).map fun i => (kf i, vf i)) (kf m) = none := by
            have : ∀ q, q ≤ m → valV ((List.range q).map fun i => (kf i, vf i)) (kf m) = none := fun q => by
              induction q with
              | zero => intro _; rfl
              | succ q ihq =>
                intro hq
                have e1 : ((List.range (q + 1)).map fun i => (kf i, vf i)) = ((List.range q).map fun i => (kf i, vf i)) ++ [(kf q, vf q)] := by rw [List.range_succ, List.map_append]; rfl
                unfold valV
                rw [e1, List.find?_append]
                have := ihq (by omega)
                unfold valV at this
                rw [Option.map_eq_none_iff] at this
                rw [this]
                simp [hk q m (by omega) (by omega)]
            exact this m (Nat.le_refl _)
          rw [valV_snoc _ _ _ _ h0, if_neg (fun e => hk m i (by omega) hi e.symm)]
          exact ih (by omega)
      exact this i (Nat.le_refl _)
end
theorem valV_none {kvs : List (Key × V)} {k : Key} (h : ∀ p ∈ kvs, p.1 ≠ k) : valV kvs k = none := by
  unfold valV
  rw [Option.map_eq_none_iff, List.find?_eq_none]
  intro p hp
  simpa using h p hp
theorem valV_range {n : Nat} {kf : Nat → Key} {vf : Nat → V} (hk : ∀ i j, i < j → j < n → kf i ≠ kf j) : ∀ {m j : Nat}, m ≤ n → j < m → valV ((List.range m).map fun i => (kf i, vf i)) (kf j) = some (vf j)
  | 0, j, _, h => absurd h (by omega)
  | m + 1, j, hm, hj => by
    have e1 : ((List.range (m + 1)).map fun i => (kf i, vf i)) = ((List.range m).map fun i => (kf i, vf i)) ++ [(kf m, vf m)] := by rw [List.range_succ, List.map_append]; rfl
    rw [e1]
    have h0 : valV ((List.range m).map fun i => (kf i, vf i)) (kf m) = none := valV_none fun p hp => by
      obtain ⟨i, hi, rfl⟩ := List.mem_map.mp hp
      exact hk i m (List.mem_range.mp hi) (by omega)
    rw [valV_snoc _ _ _ _ h0]
    by_cases e : j = m
    · subst e
      rw [if_pos rfl]
    · rw [if_neg (hk j m (by omega) (by omega))]
      exact valV_range hk (by omega) (by omega)
/-! ### a dict of lists of ints, by places from 0 -/
def pairsD (as : List Addr) : List (Key × V) := (List.range as.length).map fun (i : Nat) => (Sum.inl (i : Int), V.ref (as.getD i default))
theorem inl_ne {i j : Nat} (h : i < j) : (Sum.inl (i : Int) : Key) ≠ Sum.inl (j : Int) := fun e => by
  have := Sum.inl.inj e
  omega
theorem pairsD_at {as : List Addr} {i : Nat} {a : Addr} (h : as[i]? = some a) : valV (pairsD as) (Sum.inl (i : Int)) = some (.ref a) := by
  have hi := (List.getElem?_eq_some_iff.mp h).1
  have := valV_range (n := as.length) (kf := fun i => Sum.inl (i : Int)) (vf := fun i => V.ref (as.getD i default)) (fun i j h _ => inl_ne h) (Nat.le_refl _) hi
  unfold pairsD
  rw [this, List.getD_eq_getElem?_getD, h]
  rfl
structure DMat (H : Hp) (r : Addr) (as : List Addr) (rows : List (List Int)) : Prop where
  hd : H r = some (.dK (pairsD as))
  nd : (r :: as).Nodup
  len : as.length = rows.length
  get : ∀ (i : Nat) (a : Addr) (row : List Int), as[i]? = some a → rows[i]? = some row → H a = some (.lst (row.map V.int))
theorem DMat.same {H H' : Hp} {r : Addr} {as : List Addr} {rows : List (List Int)} (M : DMat H r as rows) (s : Same H H') : DMat H' r as rows := ⟨s _ _ M.hd, M.nd, M.len, fun i a row e1 e2 => s _ _ (M.get i a row e1 e2)⟩
theorem DMat.in {H : Hp} {r : Addr} {as : List Addr} {rows : List (List Int)} (M : DMat H r as rows) {a : Addr} (h : a ∈ as) : ∃ o, H a = some o := by
  obtain ⟨i, hi, e⟩ := List.mem_iff_getElem.mp h
  have hi2 : i < rows.length := by rw [← M.len]; exact hi
  exact ⟨_, M.get i a rows[i] (by rw [List.getElem?_eq_getElem hi, e]) (by rw [List.getElem?_eq_getElem hi2])⟩
theorem pairsD_snoc (as : List Addr) (d : Addr) : putK (pairsD as) (Sum.inl (as.length : Int)) (.ref d) = pairsD (as ++ [d]) := by
  rw [putK_new]
  · unfold pairsD
    rw [List.length_append, List.length_singleton, List.range_succ, List.map_append]
    congr 1
    · refine List.map_congr_left fun i hi => ?_
      rw [List.getD_eq_getElem?_getD, List.getD_eq_getElem?_getD, List.getElem?_append_left (List.mem_range.mp hi)]
    · simp [List.getD]
  · refine valV_none fun p hp => ?_
    obtain ⟨i, hi, rfl⟩ := List.mem_map.mp hp
    exact inl_ne (List.mem_range.mp hi)
theorem DMat.snoc {H H4 : Hp} {r d : Addr} {as : List Addr} {rows : List (List Int)} {row : List Int} (M : DMat H r as rows) (s : Same H H4) (nd : H d = none) (ed : H4 d = some (.lst (row.map V.int))) :
    DMat (upd H4 r (.dK (putK (pairsD as) (Sum.inl (as.length : Int)) (.ref d)))) r (as ++ [d]) (rows ++ [row]) := by
  have dr : d ≠ r := fun e => by rw [e] at nd; rw [M.hd] at nd; cases nd
  have da : d ∉ as := fun h => by obtain ⟨o, e⟩ := M.in h; rw [nd] at e; cases e
  have hn := List.nodup_cons.mp M.nd
  refine ⟨by rw [upd_same, pairsD_snoc], ?_, by rw [List.length_append, List.length_append, M.len]; rfl, fun i a rw' e1 e2 => ?_⟩
  · refine List.nodup_cons.mpr ⟨fun h => ?_, ?_⟩
    · rcases List.mem_append.mp h with h | h
      · exact hn.1 h
      · exact dr (List.mem_singleton.mp h).symm
    · refine List.nodup_append.mpr ⟨hn.2, by simp, fun x hx y hy e => ?_⟩
      rw [List.mem_singleton.mp hy] at e
      exact da (e ▸ hx)
  · by_cases hi : i < as.length
    · rw [List.getElem?_append_left hi] at e1
      rw [List.getElem?_append_left (by rw [← M.len]; exact hi)] at e2
      have ha : a ∈ as := List.mem_of_getElem? e1
      have : a ≠ r := fun e => hn.1 (e ▸ ha)
      rw [upd_ne this]
      exact s _ _ (M.get i a rw' e1 e2)
    · have hi' : as.length ≤ i := by omega
      rw [List.getElem?_append_right hi'] at e1
      rw [List.getElem?_append_right (by rw [← M.len]; exact hi'), ← M.len] at e2
      have i0 : i - as.length = 0 := by
        cases h : i - as.length with
        | zero => rfl
        | succ n => rw [h] at e1; simp at e1
      rw [i0] at e1 e2
      simp at e1 e2
      rw [← e1, ← e2, upd_ne dr]
      exact ed
section
variable {J : It} {n : Nat} {G : Hp → Prop} {Y : Nat → Hp → V → Hp → Prop}
theorem dc_rows (w : Walk J n G Y) {g : TG} {tt : TT} {tk tv : TE} {vs : List Nat} {σ : L2.St} {H1 : Hp} {D : Addr} {Qd : Hp → Prop} (rows : Nat → List Int) (hD : H1 D = none) (hn : n < sizeLine) (hG : ∀ H, Same H1 H → G H)
    (hs : ∀ i x H H' (R : V → V → Hp → Prop) (R' : Hp → Prop), i < n → Same H1 H → Y i H x H' → (∀ d H4, Same H H4 → H d = none → H4 d = some (.lst ((rows i).map V.int)) → R (.int i) (.ref d) H4) → g x (wipe σ vs) H' fun σ2 H2 => wipe σ2 vs = wipe σ vs ∧ tt σ2 H2 fun b H3 => if b = true then tk σ2 H3 fun y H4 => tv σ2 H4 (R y) else R' H3)
    (hd : ∀ H as, Same H1 H → DMat H D as ((List.range n).map rows) → (∀ b ∈ as, H1 b = none) → Qd H) :
    ∃ W : Nat → Nat → Hp → Prop, (∃ m, W 0 m (upd H1 D (.dK []))) ∧ ∀ i m H, W i m H →
      (J.stop i H ∧ Qd H) ∨ (J.go i H ∧ ∃ Nx : Hp → Prop, (∀ H', Nx H' → ∃ m', m' < m ∧ W (i + 1) m' H') ∧ ∀ x H', J.yld i H x H' → g x (wipe σ vs) H' fun σ2 H2 => wipe σ2 vs = wipe σ vs ∧ tt σ2 H2 fun b H3 =>
        if b = true then tk σ2 H3 fun y H4 => tv σ2 H4 fun z H5 => ∃ kvs k, y = kV k ∧ H5 D = some (.dK kvs) ∧ kvs.length < sizeLine ∧ Nx (upd H5 D (.dK (putK kvs k z))) else Nx H3) := by
  refine dc_it w (fun i H => Same H1 H ∧ ∃ as, DMat H D as ((List.range i).map rows) ∧ ∀ b ∈ as, H1 b = none) ⟨Same.new hD, [], ⟨(by show upd H1 D (.dK []) D = some (.dK []); exact upd_same), by simp, rfl, fun i a row e => by simp at e⟩, fun _ h => by cases h⟩ (fun i H _ p => hG H p.1) ?_ (fun H ⟨p1, as, p2, p3⟩ => hd H as p1 p2 p3)
  intro i x H H' hi p y
  obtain ⟨p1, as, p2, p3⟩ := p
  refine hs i x H H' (fun y z H5 => ∃ kvs k, y = kV k ∧ H5 D = some (.dK kvs) ∧ kvs.length < sizeLine ∧ (Same H1 (upd H5 D (.dK (putK kvs k z))) ∧ ∃ as, DMat (upd H5 D (.dK (putK kvs k z))) D as ((List.range (i + 1)).map rows) ∧ ∀ b ∈ as, H1 b = none)) _ hi p1 y fun d H4 s4 nd ed => ?_
  have al : as.length = i := by rw [p2.len, List.length_map, List.length_range]
  refine ⟨pairsD as, Sum.inl (as.length : Int), by rw [al]; rfl, s4 _ _ p2.hd, by unfold pairsD; rw [List.length_map, List.length_range, al]; omega, fun b o e => ?_, as ++ [d], ?_, fun b hb => ?_⟩
  · rw [upd_ne (ne_of_none e hD)]
    exact s4 _ _ (p1 _ _ e)
  · rw [List.range_succ, List.map_append]
    exact p2.snoc s4 nd ed
  · rcases List.mem_append.mp hb with hb | hb
    · exact p3 b hb
    · rw [List.mem_singleton.mp hb]
      exact Same.low p1 nd
end
end Cm

set_option Elab.async false
set_option linter.all false
set_option maxRecDepth 100000
set_option maxHeartbeats 4000000
namespace Cm
open PySem PySem.Spec PyProof.Rows L2
/-- try: body / except x as n: y = n; z = n.f -/
def wKeepF (K : PySem.W.Frag) (c : Value) (i j k : Nat) (f : Str) (D : Ends) : WX := fun cls d σ H => PySem.W.exmOne K cls c = some true ∧ ∃ (C dd : Addr) (fs : List (Str × V)) (v : V), cls = .ref C ∧ d = some dd ∧ H dd = some (.xd fs) ∧ XfC K C ∧ PySem.W.findIn K (.ref C) f = some none ∧ fs.lookup f = some v ∧
  ∀ a, H a = none → D.nx ((((σ.set i (some (.ref a))).set j (some (.ref a))).set k (some v)).set i none) (upd H a (exh a cls d))
section
variable {X : Cx} {x n y z fld : Str} {c : Value} {i j k : Nat} {body : List Stmt} {np np2 np3 fp yp zp p2 p3 pos pos' : Pos} {tb : WX → TS}
theorem ps_try_keepF (hs : X.stack = X.env :: X.outer) (hf : X.env.frame = some X.env.locals) (hx : X.ex = []) (hN : X.N.Nodup) (hi : X.N[i]? = some n) (hln : X.env.kindOf n = some .local) (hj : X.N[j]? = some y) (hly : X.env.scope.names.lookup y = some .local) (hk : X.N[k]? = some z) (hlz : X.env.scope.names.lookup z = some .local) (hij : i ≠ j) (hik : i ≠ k) (hjk : j ≠ k) (hdn : (n == ("__debug__" : Str)) = false) (hdc : (n == ("__classdict__" : Str)) = false) (hc : Names X x c)
    (hsw : swapsWith (.Name n np2) (some (.Name y yp)) p2.line X.env = pure false) (hsw2 : swapsWith (.Attribute (.Name n np3) fld fp) (some (.Name z zp)) p3.line X.env = pure false) (hab : ∀ X' : Cx, X'.env = X.env → attributeBase (.Name n np3) fld X'.env (eval (.Name n np3) X'.env) = eval (.Name n np3) X'.env)
    (hb : ∀ (W : WX) (pn : List (Addr × Obj)) (xe : Value → Shared → Prop), Takes (X.tr pn xe) W → PassesOwn (model X.prog X.w) X.A X.env xe → PSs (X.tr pn xe) body (tb W)) :
    PS X (.Try body [.ExceptHandler (some (.Name x np)) (some n) [.Assign [.Name y yp] (.Name n np2) p2, .Assign [.Name z zp] (.Attribute (.Name n np3) fld fp) p3] pos'] [] [] pos) (fun D σ H => tb (wKeepF X.K c i j k fld D) D σ H) := by
  refine ⟨fun pins s σ H D I h => ?_⟩
  have ok := I.ok
  refine wpAny_Try_except (wpAny_mono ((hb (wKeepF X.K c i j k fld D) (X.pn ++ pins) _ (fun u s1 air => ?_) PassesOwn.looking).run [] s σ H D (I.toTry _) h) (fun f s1 q => ?_) fun _ _ q => q)
  · obtain ⟨a, B, sI, pins1, σ1, H1, cls, d, rfl, K1, nb, up, sky, na, os, ag, em, C, dd, fs, v, rfl, rfl, ed, TT, hno, lk, fin⟩ := air
    have J : Inv X pins σ1 H1 sI := K1.ofTry ok
    have hA : X.A.frames = some (X.env :: X.outer) := by rw [ok.frames, hs]
    have inB : ∀ b o, sI.heap.get? b = some o → b ∉ frs (X.env :: X.outer) → B.get? b = some o := hs ▸ nb
    refine Sky.land Zc.steady hA hf (hs ▸ sky) fun h3 fl3 up3 => ?_
    have aB : B.get? a = none := fl3.2.1
    have J3 : Inv X pins σ1 H1 { s1 with heap := h3 } := J.landed nb fl3.1 (up.trans up3) os ag
    obtain ⟨oe3, vs3, e3, z3, dt3⟩ := fl3.there
    have notF : a ∉ frs (X.env :: X.outer) := fun hm => by
      obtain ⟨_, o, e, nf⟩ := fl3.2.2.1.mem hm
      rw [e3] at e
      cases e
      exact nf _ dt3
    have nL : a ≠ X.env.locals := fun z => notF (List.mem_filterMap.mpr ⟨X.env, List.mem_cons_self, by rw [hf, z]⟩)
    have nF : a ∉ X.fs := fun hm => by
      obtain ⟨ev, h1, h2⟩ := List.mem_filterMap.mp hm
      exact notF (List.mem_filterMap.mpr ⟨ev, List.mem_cons_of_mem _ h1, h2⟩)
    have frOf : ∀ b, b ≠ X.env.locals → b ∉ X.fs → b ∉ frs (X.env :: X.outer) := fun b h1 h2 hm => by
      obtain ⟨ev, h3, h4⟩ := List.mem_filterMap.mp hm
      rcases List.mem_cons.mp h3 with rfl | h3
      · rw [hf] at h4
        exact h1 (Option.some.inj h4).symm
      · exact h2 (List.mem_filterMap.mpr ⟨ev, h3, h4⟩)
    have nP : ∀ p ∈ X.pn ++ pins, p.1 ≠ a := fun p hp z => by
      obtain ⟨q1, _, q3, q4, _⟩ := J.pin p hp
      have := inB _ _ q1 (frOf _ q3 q4)
      rw [z, aB] at this
      cases this
    have n0 : X.s_0.heap.get? a = none := by
      cases e : X.s_0.heap.get? a with
      | none => rfl
      | some o =>
        obtain ⟨o', e'⟩ := J.base.there a o e (by rw [hx]; simp)
        have := inB _ _ e' notF
        rw [aB] at this
        cases this
    have S3 := J3.suite e3 dt3 na nL nF
    refine wpAny_handleBy_cons (codeAny_handlers_test ?_) (fun z => by cases z)
    have tyA : PySem.W.Looks (model X.prog X.w) h3 (typeOf (.ref a)) (.ref C) := fun _ _ _ _ k q => wpAny_typeOf_ref (k _ _ e3) (by rw [z3.1]; exact q)
    have ex := PySem.W.exm_one (M := model X.prog X.w) J3.kIn tyA em
    have named : ∀ {Q : Value → Shared → Prop} {E : Value → Shared → Prop}, Q c { s1 with heap := h3 } → wpAny (model X.prog X.w) (X.A.mark (some (.ref a))) (eval (.Name x np) X.env) Q E { s1 with heap := h3 } := fun {Q E} q => by
      obtain ⟨g1, g2, g3 | ⟨g3, g4, g5⟩⟩ := hc
      · exact ld_glob (X := X.suite a ((a, oe3) :: (X.pn ++ pins))) S3 g1 g3 q g2
      · exact ld_blt (X := X.suite a ((a, oe3) :: (X.pn ++ pins))) S3 g1 g3 g4 q g5 g2
    refine named (ex.here (codeAny_handlers_suite_as (HandSPX.lands_againZ fl3 fun h4 fl4 up4 => ?_)))
    have J4 : Inv X pins σ1 H1 { s1 with heap := h4 } := J.landed nb fl4.1 ((up.trans up3).trans up4) os ag
    obtain ⟨oe, vs, e4, z4, dt4⟩ := fl4.there
    refine store_ok (X := X.suite a ((a, oe) :: (X.pn ++ pins))) (v := .ref a) (J4.suite e4 dt4 na nL nF) hN hi (.inl hln) rfl (fun s5 S5 => ?_) (.inr hln)
    have hi1 : i < σ1.length := by rw [J.len]; exact (List.getElem?_eq_some_iff.mp hi).1
    have step : PSs (X.suite a ((a, oe) :: (X.pn ++ pins))) [.Assign [.Name y yp] (.Name n np2) p2, .Assign [.Name z zp] (.Attribute (.Name n np3) fld fp) p3] (tSeq (tAsg (tVar i) (gName j)) (tAsg (tXf a (.ref C) (some dd) C fld (tVar i)) (gName k))) :=
      pss_cons (ps_set (i := j) hN hj (.inl hly) (pe_var hi (.inl hln) hdn hdc) hsw (.inr hly)) (pss_one (ps_set (i := k) hN hk (.inl hlz) (pe_xf TT hno z4 ⟨vs, dt4⟩ (pe_var hi (.inl hln) hdn hdc) (hab _ rfl)) hsw2 (.inr hlz)))
    refine wpAny_mono (step.run [] s5 (σ1.set i (some (.ref a))) H1 { nx := fun σ6 H6 => σ6 = ((σ1.set i (some (.ref a))).set j (some (.ref a))).set k (some v) ∧ H6 = H1, rt := fun _ _ => False } S5 ⟨.ref a, by rw [List.getElem?_set_self hi1], .ref a, by rw [List.getElem?_set_ne (Ne.symm hij), List.getElem?_set_self hi1], rfl, rfl, dd, fs, v, rfl, ed, lk, rfl, rfl⟩) (fun f s6 q => ?_) (fun _ _ z => z.elim)
    cases f with
    | next =>
      obtain ⟨σ6, H6, S6, rfl, rfl⟩ := q
      have e6 : s6.heap.get? a = some oe := (S6.pin (a, oe) (List.mem_append_left _ List.mem_cons_self)).1
      refine gone_ok (track (S6.unsuite ok) e6 na nL (fun v z => by rw [dt4] at z; cases z) nP n0 (exh_ok e6 z4 dt4)) hN hi hln fun s7 J7 => ⟨_, _, J7, fin a na⟩
    | brk =>
      obtain ⟨_, _, _, q⟩ := q
      exact q.elim
    | cont =>
      obtain ⟨_, _, _, q⟩ := q
      exact q.elim
    | ret u =>
      obtain ⟨_, _, _, _, _, q⟩ := q
      exact q.elim
  · cases f with
    | next =>
      obtain ⟨σ1, H1, J, q⟩ := q
      exact wpAny_execs_nil ⟨σ1, H1, J.ofTry ok, q⟩
    | brk =>
      obtain ⟨σ1, H1, J, q⟩ := q
      exact ⟨σ1, H1, J.ofTry ok, q⟩
    | cont =>
      obtain ⟨σ1, H1, J, q⟩ := q
      exact ⟨σ1, H1, J.ofTry ok, q⟩
    | ret u =>
      obtain ⟨v, σ1, H1, J, r, q⟩ := q
      exact ⟨v, σ1, H1, J.ofTry ok, r, q⟩
end

/-! ### defs with one keyword-only parameter, that may raise -/
section
variable {P : Program} {w : World} {K : PySem.W.Frag} {mg : Str → Option Value} {base : Heap}
theorem AtK.okX {x kw : Str} {dv : V} {st : Stmt} {N ps : List Str} {k : Nat} {sp : Sp} (F : AtK K mg x st ps kw dv) (S : FnScope N (ps ++ [kw]) (defScope st)) (len : ∀ vs H Q E, sp vs H Q E → vs.length = (ps ++ [kw]).length)
    (hbody : ∀ (f : Addr) (cdv : Value) (A : Around) (outer : List Env) (s : Shared) (H : Hp) (vs : List V) (Q : VK) (E : XK), Room k (A.deeper (envOfC x (defScope st) s.heap.objs.size f cdv)) → sp vs H Q E →
      ∃ t, PSs (cxOf (L2.CX P w) P w K mg base N x (defScope st) f cdv A outer s H E) (defBody st) t ∧ t { nx := fun _ H' => Q .non H', rt := Q } (start N vs) H) : DnK P w K mg base (L2.CX P w) (k + 1) x ps kw dv sp := by
  obtain ⟨f, fd, F, hm, hb, hd⟩ := F
  exact ⟨f, fd, F.ok S len fun cdv A outer s H vs Q E hr h => hbody f cdv A outer s H vs Q E hr h, hm, F.kp, hb, hd, F.look⟩
end
section
variable {X : Cx} {W : WX} {CX : CXT} {k n : Nat} {f : Addr} {fd : FuncData} {ks : List Str} {g : List Value → List Value → List Value} {gV : List V → List V → List V} {x kw : Str} {dv : V} {ps : List Str} {sp : Sp} {E : L2.St → XK} {p pos kp : Pos} {e ek : Expr} {es : List Expr} {t : TA} {tk : TE}
theorem run_fnNS {pins : List (Addr × Obj)} {σ : L2.St} {H : Hp} {s : Shared} {Q : VK} {us ws : List Value} {vs zs : List V} (F : FnOk X.prog X.w X.K X.mg X.base CX k f fd ps sp) (hr : Room k X.A) (hb : KBn X.K fd ps n ks g gV) (hx : PassesAt CX X σ (E σ))
    (I : Inv X pins σ H s) (r : Vals vs us) (rz : Vals zs ws) (l1 : vs.length = n) (l2 : zs.length = ks.length) (h : sp (gV vs zs) H Q (E σ)) : wpAny (model X.prog X.w) X.A (call (.ref f) us (ks.zip ws)) (EP X pins σ Q) X.xe s := by
  have r2 := hb.rel r rz
  refine wpAny_call (codeAny_mono (F.run X.A X.stack s H ⟨us, ks.zip ws⟩ (g us ws) (gV vs zs) Q (E σ) hr I.env0 (hb.to s us ws I.kIn (r.length.symm.trans l1) (rz.length.symm.trans l2)) r2 h) fun r s' hq => ?_)
  cases r with
  | error e => exact hx pins H s e s' I hq
  | ok fl =>
    cases fl with
    | ret u => exact I.after hq
    | next => exact False.elim hq
    | brk => exact False.elim hq
    | cont => exact False.elim hq
/-- f(e, .., kw=ek), where f may raise -/
def tCallWX (n : Nat) (sp : Sp) (W : WX) (t : TA) (tk : TE) : TE := fun σ H Q => t σ H fun vs H1 => tk σ H1 fun z H2 => vs.length = n ∧ [z].length = 1 ∧ sp (vs ++ [z]) H2 Q (WE W σ)
theorem pe_callWX (D : DnK X.prog X.w X.K X.mg X.base (L2.CX X.prog X.w) k x ps kw dv sp) (hr : Room k X.A) (tk0 : Takes X W) (ha : PA X (e :: es) t) (hk : PE X ek tk) (hg : Gl X x := by rfl)
    (hall : (backToKw pos (keywordEach [⟨some kw, ek, kp⟩] X.env)).all (·.1.isSome) = true := by rfl) (hks : (backToKw pos (keywordEach [⟨some kw, ek, kp⟩] X.env)).filterMap (·.1) = [kw] := by rfl)
    (hdb : (x == ("__debug__" : Str)) = false := by decide) (he : starEach (e :: es) X.env = (false, eval e X.env) :: starEach es X.env := by rfl)
    (hpl : ((backTo pos (starEach (e :: es) X.env)).any (·.1) || (backToKw pos (keywordEach [⟨some kw, ek, kp⟩] X.env)).any (·.1.isNone)) = false := by rfl) :
    PE X (.Call (.Name x p) (e :: es) [⟨some kw, ek, kp⟩] pos) (tCallWX ps.length sp W t tk) := by
  obtain ⟨f, fd, F, hm, hkp, hb, _⟩ := D
  refine ⟨fun pins s σ H Q I h => ?_⟩
  refine wpAny_Call_Name_kw (ld_glob I hg hm ?_ hdb)
  refine PySem.W.callWith_KW (h₀ := X.base) I.ok.mod.kin hkp hall (thn (ha.run pos pins s σ H _ I h) fun us s1 ⟨vs, H1, I1, r, q⟩ => ?_) hpl he
  refine thn ((pk_cons (nm := some kw) (kpos := kp) hk pk_nil).run pos pins s1 σ H1 (fun zs H2 => vs.length = ps.length ∧ zs.length = 1 ∧ sp (vs ++ zs) H2 Q (WE W σ)) I1 ?_) fun ws s2 ⟨zs, H2, I2, rz, l1, l2, q2⟩ => ⟨I2.kIn, ?_⟩
  · exact q
  rw [hks]
  exact run_fnNS (E := WE W) F hr hb (passAt tk0 σ) I2 r rz l1 l2 q2
theorem pe_callWX0 (D : DnK X.prog X.w X.K X.mg X.base (L2.CX X.prog X.w) k x [] kw dv sp) (hr : Room k X.A) (tk0 : Takes X W) (hk : PE X ek tk) (hg : Gl X x := by rfl)
    (hall : (backToKw pos (keywordEach [⟨some kw, ek, kp⟩] X.env)).all (·.1.isSome) = true := by rfl) (hks : (backToKw pos (keywordEach [⟨some kw, ek, kp⟩] X.env)).filterMap (·.1) = [kw] := by rfl)
    (hdb : (x == ("__debug__" : Str)) = false := by decide)
    (hpl : ((backTo pos (starEach [] X.env)).any (·.1) || (backToKw pos (keywordEach [⟨some kw, ek, kp⟩] X.env)).any (·.1.isNone)) = false := by rfl) :
    PE X (.Call (.Name x p) [] [⟨some kw, ek, kp⟩] pos) (fun σ H Q => tk σ H fun z H2 => [z].length = 1 ∧ sp [z] H2 Q (WE W σ)) := by
  obtain ⟨f, fd, F, hm, hkp, hb, _⟩ := D
  refine ⟨fun pins s σ H Q I h => ?_⟩
  refine wpAny_Call_Name_kw (ld_glob I hg hm ?_ hdb)
  refine PySem.W.callWith_KW0 (h₀ := X.base) I.ok.mod.kin hkp hall ?_ hpl
  refine thn ((pk_cons (nm := some kw) (kpos := kp) hk pk_nil).run pos pins s σ H (fun zs H2 => zs.length = 1 ∧ sp zs H2 Q (WE W σ)) I ?_) fun ws s2 ⟨zs, H2, I2, rz, l2, q2⟩ => ⟨I2.kIn, ?_⟩
  · exact h
  rw [hks]
  exact run_fnNS (us := []) (vs := []) (E := WE W) F hr hb (passAt tk0 σ) I2 .nil rz rfl l2 q2
end
def exmB (K : PySem.W.Frag) (x y : Str) : Bool := decide (PySem.W.exmOne K (.ref (He.ga K x)) (.ref (He.ga K y)) = some true)
theorem exmB_ok {K : PySem.W.Frag} {x y : Str} (h : exmB K x y = true) : PySem.W.exmOne K (.ref (He.ga K x)) (.ref (He.ga K y)) = some true := of_decide_eq_true h
/-! ### sorted lists -/
theorem sorted_uniq : ∀ {xs ys : List Int}, xs.Perm ys → xs.Pairwise (· ≤ ·) → ys.Pairwise (· ≤ ·) → xs = ys
  | [], ys, h, _, _ => (List.Perm.nil_eq h)
  | x :: xs, [], h, _, _ => absurd (List.Perm.eq_nil h) (by simp)
  | x :: xs, y :: ys, h, hx, hy => by
    have hx' := List.pairwise_cons.mp hx
    have hy' := List.pairwise_cons.mp hy
    have e : x = y := by
      have h1 : x ∈ y :: ys := h.mem_iff.mp (List.mem_cons_self ..)
      have h2 : y ∈ x :: xs := h.mem_iff.mpr (List.mem_cons_self ..)
      rcases List.mem_cons.mp h1 with e | h1
      · exact e
      · rcases List.mem_cons.mp h2 with e | h2
        · exact e.symm
        · have a := hy'.1 _ h1
          have b := hx'.1 _ h2
          omega
    subst e
    rw [sorted_uniq (List.Perm.cons_inv h) hx'.2 hy'.2]
/-! ### tuples made of parts -/
section
variable {X : Cx}
def rCatTF (K : PySem.W.Frag) : R2 := fun x y H Q => ∃ a b xs ys, x = .ref a ∧ y = .ref b ∧ SqT K H a xs ∧ SqT K H b ys ∧ xs ≠ [] ∧ ys ≠ [] ∧ xs.length + ys.length ≤ sizeLine ∧ ∀ p H', H p = none → Same H H' → H' p = some (.tup (xs ++ ys)) → Q (.ref p) H'
theorem op_catTF : OpR X (binaryOp .Add) (rCatTF X.K) := op_catA.imp fun x y H Q h => by
  obtain ⟨a, b, xs, ys, rfl, rfl, ha, hb, nx, ny, hl, q⟩ := h
  exact ⟨a, b, xs, ys, rfl, rfl, ha, hb, hl, fun e => absurd e nx, fun _ e => absurd e ny, fun _ _ p np => q p _ np (Same.new np) upd_same⟩
def rSlTF (K : PySem.W.Frag) : V → Option Int → Option Int → Hp → VK → Prop := fun x lo hi H Q => ∃ a xs, x = .ref a ∧ SqT K H a xs ∧ ¬ (HT.sIx xs.length 0 lo = 0 ∧ HT.sIx xs.length xs.length hi = xs.length) ∧ ∀ p H', H p = none → Same H H' → H' p = some (.tup (cutV xs lo hi)) → Q (.ref p) H'
theorem sl_tupTF : SlR X (rSlTF X.K) := by
  intro pins s σ H x v vl vu lo hi sl Q I rx hs pl pu h
  obtain ⟨a, xs, rfl, ha, nw, q⟩ := h
  exact sl_tupA pins s σ H (.ref a) v vl vu lo hi sl Q I rx hs pl pu ⟨a, xs, rfl, ha, fun e => absurd e nw, fun _ p np => q p _ np (Same.new np) upd_same⟩
end
end Cm

set_option Elab.async false
set_option linter.all false
namespace Cm
/-! ### sums, fillings -/
def sm (f : Nat → Int) : Nat → Int
  | 0 => 0
  | n + 1 => sm f n + f n
theorem sm_congr {f g : Nat → Int} : ∀ {n : Nat}, (∀ i, i < n → f i = g i) → sm f n = sm g n
  | 0, _ => rfl
  | n + 1, h => by rw [sm, sm, sm_congr fun i hi => h i (by omega), h n (by omega)]
theorem sm_add (f : Nat → Int) (a : Nat) : ∀ b, sm f (a + b) = sm f a + sm (fun i => f (a + i)) b
  | 0 => by simp [sm]
  | b + 1 => by rw [← Nat.add_assoc, sm, sm_add f a b, sm]; omega
theorem sm_mul (f : Nat → Int) (b : Nat) : ∀ a, sm f (a * b) = sm (fun i => sm (fun j => f (i * b + j)) b) a
  | 0 => by simp [sm]
  | a + 1 => by rw [Nat.succ_mul, sm_add, sm_mul f b a, sm]
theorem sm_zero {f : Nat → Int} : ∀ {n : Nat}, (∀ i, i < n → f i = 0) → sm f n = 0
  | 0, _ => rfl
  | n + 1, h => by rw [sm, sm_zero fun i hi => h i (by omega), h n (by omega)]; rfl
theorem sm_one {f : Nat → Int} {k : Nat} : ∀ {n : Nat}, k < n → (∀ i, i < n → i ≠ k → f i = 0) → sm f n = f k
  | 0, h, _ => absurd h (by omega)
  | n + 1, h, z => by
    by_cases e : k = n
    · subst e
      rw [sm, sm_zero fun i hi => z i (by omega) (by omega)]
      omega
    · rw [sm, sm_one (k := k) (by omega) fun i hi ne => z i (by omega) ne, z n (by omega) (by omega)]
      omega
theorem sm_lin (f g : Nat → Int) (a b : Int) : ∀ n, sm (fun i => a * f i + b * g i) n = a * sm f n + b * sm g n
  | 0 => by simp [sm]
  | n + 1 => by rw [sm, sm_lin f g a b n, sm, sm, Int.mul_add, Int.mul_add]; omega
theorem sm_plus (f g : Nat → Int) : ∀ n, sm (fun i => f i + g i) n = sm f n + sm g n
  | 0 => rfl
  | n + 1 => by rw [sm, sm_plus f g n, sm, sm]; omega
theorem sm_scale (f : Nat → Int) (a : Int) : ∀ n, sm (fun i => a * f i) n = a * sm f n
  | 0 => by simp [sm]
  | n + 1 => by rw [sm, sm_scale f a n, sm, Int.mul_add]
theorem sm_swap (f : Nat → Nat → Int) (n : Nat) : ∀ m, sm (fun i => sm (fun j => f i j) n) m = sm (fun j => sm (fun i => f i j) m) n
  | 0 => (sm_zero fun _ _ => rfl).symm
  | m + 1 => by
    rw [sm, sm_swap f n m, ← sm_plus]
    rfl
/-- the same rest by 97 -/
theorem sm_mod {f g : Nat → Int} : ∀ {n : Nat}, (∀ i, i < n → f i % 97 = g i % 97) → sm f n % 97 = sm g n % 97
  | 0, _ => rfl
  | n + 1, h => by
    have h1 := sm_mod (n := n) fun i hi => h i (by omega)
    have h2 := h n (by omega)
    rw [sm, sm]
    omega
theorem sum_range (f : Nat → Int) : ∀ n, ((List.range n).map f).sum = sm f n
  | 0 => rfl
  | n + 1 => by rw [List.range_succ, List.map_append, List.sum_append, sum_range f n, sm]; simp
theorem zip_map (f g : Nat → Int) : ∀ n, List.zipWith (· * ·) ((List.range n).map f) ((List.range n).map g) = (List.range n).map fun i => f i * g i := by
  intro n
  rw [List.zipWith_map, List.zipWith_self]
theorem list_getD (xs : List Int) : xs = (List.range xs.length).map fun i => xs.getD i 0 := by
  apply List.ext_getElem
  · simp
  · intro i h1 h2
    simp [List.getD, h1]
theorem getD_range (f : Nat → Int) {n i : Nat} (h : i < n) : ((List.range n).map f).getD i 0 = f i := by
  simp [List.getD, h]
/-- what row and numbers give, each with each -/
theorem dot_range (f : Nat → Int) (xs : List Int) {n : Nat} (hl : xs.length = n) : (List.zipWith (· * ·) ((List.range n).map f) xs).sum = sm (fun i => f i * xs.getD i 0) n := by
  subst hl
  conv => lhs; rw [list_getD xs]
  rw [List.length_map, List.length_range, zip_map, sum_range]
/-- data number t lies at place dp Z t -/
def dp (Z t : Nat) : Nat := t / Z * (Z + 1) + t % Z
theorem dp_at {Z i j : Nat} (h : j < Z) : dp Z (i * Z + j) = i * (Z + 1) + j := by
  unfold dp
  have e1 : (i * Z + j) / Z = i := by rw [Nat.mul_comm, Nat.mul_add_div (by omega), Nat.div_eq_of_lt h]; rfl
  have e2 : (i * Z + j) % Z = j := by rw [Nat.mul_comm, Nat.mul_add_mod, Nat.mod_eq_of_lt h]
  rw [e1, e2]
theorem blk_div {Z i j : Nat} (h : j < Z + 1) : (i * (Z + 1) + j) / (Z + 1) = i := by
  rw [Nat.mul_comm, Nat.mul_add_div (by omega), Nat.div_eq_of_lt h]; rfl
theorem blk_mod {Z i j : Nat} (h : j < Z + 1) : (i * (Z + 1) + j) % (Z + 1) = j := by
  rw [Nat.mul_comm, Nat.mul_add_mod, Nat.mod_eq_of_lt h]
theorem blk_lt {G Z i j : Nat} (hi : i < G) (h : j < Z + 1) : i * (Z + 1) + j < G * (Z + 1) := by
  have : (i + 1) * (Z + 1) ≤ G * (Z + 1) := Nat.mul_le_mul_right _ hi
  rw [Nat.succ_mul] at this
  omega
def sgn (i j : Nat) : Int := ([1, 11, 40, 30] : List Int).getD i 0 + (j : Int)
/-- over number n (from 0) of the data numbers d -/
def overS (G Z : Nat) (d : Nat → Int) (n : Nat) : Int := sm (fun i => sm (fun j => sgn i j ^ (n + 1) * d (i * Z + j)) Z) G
/-- the number at place p of the filling of the data numbers d -/
def fillF (G Z : Nat) (d : Nat → Int) (p : Nat) : Int :=
  if p / (Z + 1) < G then (if p % (Z + 1) = Z then sm (fun j => d (p / (Z + 1) * Z + j)) Z % 97 else d (p / (Z + 1) * Z + p % (Z + 1)))
  else overS G Z d (p - G * (Z + 1)) % 97
theorem fill_data {G Z i j : Nat} (d : Nat → Int) (hi : i < G) (hj : j < Z) : fillF G Z d (i * (Z + 1) + j) = d (i * Z + j) := by
  unfold fillF
  rw [blk_div (by omega), blk_mod (by omega), if_pos hi, if_neg (by omega)]
theorem fill_local {G Z i : Nat} (d : Nat → Int) (hi : i < G) : fillF G Z d (i * (Z + 1) + Z) = sm (fun j => d (i * Z + j)) Z % 97 := by
  unfold fillF
  rw [blk_div (by omega), blk_mod (by omega), if_pos hi, if_pos rfl]
theorem fill_over {G Z t : Nat} (d : Nat → Int) : fillF G Z d (G * (Z + 1) + t) = overS G Z d t % 97 := by
  unfold fillF
  have : G ≤ (G * (Z + 1) + t) / (Z + 1) := (Nat.le_div_iff_mul_le (by omega)).mpr (by omega)
  rw [if_neg (by omega)]
  congr 2
  omega
theorem place_cases {G Z M p : Nat} (h : p < G * (Z + 1) + M) : (∃ i j, i < G ∧ j < Z ∧ p = i * (Z + 1) + j) ∨ (∃ i, i < G ∧ p = i * (Z + 1) + Z) ∨ ∃ t, t < M ∧ p = G * (Z + 1) + t := by
  by_cases hp : p < G * (Z + 1)
  · have hi : p / (Z + 1) < G := (Nat.div_lt_iff_lt_mul (by omega)).mpr hp
    have hm : p % (Z + 1) < Z + 1 := Nat.mod_lt _ (by omega)
    have e : p / (Z + 1) * (Z + 1) + p % (Z + 1) = p := by rw [Nat.mul_comm]; exact Nat.div_add_mod p (Z + 1)
    by_cases hz : p % (Z + 1) = Z
    · exact .inr (.inl ⟨p / (Z + 1), hi, by omega⟩)
    · exact .inl ⟨p / (Z + 1), p % (Z + 1), hi, by omega, e.symm⟩
  · exact .inr (.inr ⟨p - G * (Z + 1), by omega, by omega⟩)
/-- x keeps the checks: it is the filling of its own data numbers -/
def Keeps (G Z M : Nat) (x : Nat → Int) : Prop := ∀ p, p < G * (Z + 1) + M → fillF G Z (fun t => x (dp Z t)) p = x p
/-- the checks' sums -/
def locC (Z i : Nat) (x : Nat → Int) : Int := sm (fun j => x (i * (Z + 1) + j)) Z + 96 * x (i * (Z + 1) + Z)
def ovC (G Z n : Nat) (x : Nat → Int) : Int := sm (fun i => sm (fun j => sgn i j ^ (n + 1) * x (i * (Z + 1) + j)) Z) G + 96 * x (G * (Z + 1) + n)
theorem overS_dp (G Z n : Nat) (x : Nat → Int) : overS G Z (fun t => x (dp Z t)) n = sm (fun i => sm (fun j => sgn i j ^ (n + 1) * x (i * (Z + 1) + j)) Z) G := by
  unfold overS
  refine sm_congr fun i hi => sm_congr fun j hj => ?_
  show sgn i j ^ (n + 1) * x (dp Z (i * Z + j)) = _
  rw [dp_at hj]
theorem loc_dp (Z i : Nat) (x : Nat → Int) : sm (fun j => x (dp Z (i * Z + j))) Z = sm (fun j => x (i * (Z + 1) + j)) Z :=
  sm_congr fun j hj => by
    show x (dp Z (i * Z + j)) = _
    rw [dp_at hj]
theorem keeps_iff {G Z M : Nat} {x : Nat → Int} (hx : ∀ p, p < G * (Z + 1) + M → 0 ≤ x p ∧ x p ≤ 96) :
    Keeps G Z M x ↔ (∀ i, i < G → locC Z i x % 97 = 0) ∧ ∀ n, n < M → ovC G Z n x % 97 = 0 := by
  constructor
  · intro k
    refine ⟨fun i hi => ?_, fun n hn => ?_⟩
    · have hp : i * (Z + 1) + Z < G * (Z + 1) + M := by have := blk_lt (Z := Z) (j := Z) hi (by omega); omega
      have h := k _ hp
      rw [fill_local _ hi, loc_dp] at h
      unfold locC
      omega
    · have h := k (G * (Z + 1) + n) (by omega)
      rw [fill_over, overS_dp] at h
      unfold ovC
      omega
  · rintro ⟨h1, h2⟩ p hp
    rcases place_cases hp with ⟨i, j, hi, hj, rfl⟩ | ⟨i, hi, rfl⟩ | ⟨t, ht, rfl⟩
    · rw [fill_data _ hi hj]
      show x (dp Z (i * Z + j)) = _
      rw [dp_at hj]
    · rw [fill_local _ hi, loc_dp]
      have b := hx _ hp
      have c := h1 i hi
      unfold locC at c
      omega
    · rw [fill_over, overS_dp]
      have b := hx _ hp
      have c := h2 t ht
      unfold ovC at c
      omega
theorem sm_chg {f g : Nat → Int} {k : Nat} : ∀ {n : Nat}, k < n → (∀ i, i < n → i ≠ k → f i = g i) → sm f n = sm g n + (f k - g k)
  | 0, h, _ => absurd h (by omega)
  | n + 1, h, z => by
    by_cases e : k = n
    · subst e
      rw [sm, sm, sm_congr fun i hi => z i (by omega) (by omega)]
      omega
    · rw [sm, sm, sm_chg (k := k) (by omega) fun i hi ne => z i (by omega) ne, z n (by omega) (by omega)]
      omega
/-- one number changed: no filling any more -/
theorem keeps_chg {G Z M p : Nat} {x y : Nat → Int} {d : Int} (hp : p < G * (Z + 1) + M) (k : Keeps G Z M x) (hx : ∀ p, p < G * (Z + 1) + M → 0 ≤ x p ∧ x p ≤ 96) (hy : ∀ p, p < G * (Z + 1) + M → 0 ≤ y p ∧ y p ≤ 96)
    (e : ∀ q, q < G * (Z + 1) + M → q ≠ p → y q = x q) (d1 : 1 ≤ d) (d2 : d ≤ 96) (ep : y p = (x p + d) % 97) : ¬ Keeps G Z M y := by
  intro k2
  obtain ⟨a1, a2⟩ := (keeps_iff hx).mp k
  obtain ⟨b1, b2⟩ := (keeps_iff hy).mp k2
  have low : ∀ {i j : Nat}, i < G → j < Z + 1 → i * (Z + 1) + j < G * (Z + 1) + M := fun {i j} hi hj => by have := blk_lt (Z := Z) hi hj; omega
  have ne : ∀ {i j i' j' : Nat}, j < Z + 1 → j' < Z + 1 → ¬ (i = i' ∧ j = j') → i * (Z + 1) + j ≠ i' * (Z + 1) + j' := fun {i j i' j'} h1 h2 h3 h4 => by
    apply h3
    have c1 := congrArg (· / (Z + 1)) h4
    have c2 := congrArg (· % (Z + 1)) h4
    simp only [blk_div h1, blk_div h2, blk_mod h1, blk_mod h2] at c1 c2
    exact ⟨c1, c2⟩
  rcases place_cases hp with ⟨i, j, hi, hj, rfl⟩ | ⟨i, hi, rfl⟩ | ⟨t, ht, rfl⟩
  · have c1 := a1 i hi
    have c2 := b1 i hi
    unfold locC at c1 c2
    rw [sm_chg (f := fun j => y (i * (Z + 1) + j)) (g := fun j => x (i * (Z + 1) + j)) hj fun j' hj' nj => e _ (low hi (by omega)) (ne (by omega) (by omega) fun z => nj z.2)] at c2
    have c3 := e (i * (Z + 1) + Z) (low hi (by omega)) (ne (by omega) (by omega) fun z => by omega)
    have h1 := hx _ hp
    omega
  · have c1 := a1 i hi
    have c2 := b1 i hi
    unfold locC at c1 c2
    rw [sm_congr (f := fun j => y (i * (Z + 1) + j)) (g := fun j => x (i * (Z + 1) + j)) fun j hj => e _ (low hi (by omega)) (ne (by omega) (by omega) fun z => by omega)] at c2
    have h1 := hx _ hp
    omega
  · have c1 := a2 t ht
    have c2 := b2 t ht
    unfold ovC at c1 c2
    rw [sm_congr (f := fun i => sm (fun j => sgn i j ^ (t + 1) * y (i * (Z + 1) + j)) Z) (g := fun i => sm (fun j => sgn i j ^ (t + 1) * x (i * (Z + 1) + j)) Z) fun i hi => sm_congr fun j hj => by rw [e _ (low hi (by omega)) (by have := blk_lt (Z := Z) (j := j) hi (by omega); omega)]] at c2
    have h1 := hx _ hp
    omega
theorem sm_comb (f g : Nat → Int) (c : Int) (n : Nat) : sm (fun i => f i + c * g i) n = sm f n + c * sm g n := by
  rw [sm_plus, sm_scale]
/-- sums of multiples of fillings are fillings -/
theorem keeps_comb {G Z M : Nat} {x y z : Nat → Int} {c : Int} (kx : Keeps G Z M x) (ky : Keeps G Z M y) (hx : ∀ p, p < G * (Z + 1) + M → 0 ≤ x p ∧ x p ≤ 96) (hy : ∀ p, p < G * (Z + 1) + M → 0 ≤ y p ∧ y p ≤ 96)
    (e : ∀ q, q < G * (Z + 1) + M → z q = (x q + c * y q) % 97) : Keeps G Z M z := by
  obtain ⟨a1, a2⟩ := (keeps_iff hx).mp kx
  obtain ⟨b1, b2⟩ := (keeps_iff hy).mp ky
  refine (keeps_iff fun p hp => ?_).mpr ⟨fun i hi => ?_, fun n hn => ?_⟩
  · rw [e p hp]
    omega
  · have low : ∀ {j : Nat}, j < Z + 1 → i * (Z + 1) + j < G * (Z + 1) + M := fun {j} hj => by have := blk_lt (Z := Z) hi hj; omega
    have h1 := sm_mod (f := fun j => z (i * (Z + 1) + j)) (g := fun j => x (i * (Z + 1) + j) + c * y (i * (Z + 1) + j)) (n := Z) fun j hj => by
      show z (i * (Z + 1) + j) % 97 = _
      rw [e _ (low (by omega))]
      omega
    rw [sm_comb] at h1
    have h2 := e _ (low (show Z < Z + 1 by omega))
    have c1 := a1 i hi
    have c2 := b1 i hi
    unfold locC at c1 c2 ⊢
    have c3 : (c * (sm (fun j => y (i * (Z + 1) + j)) Z + 96 * y (i * (Z + 1) + Z))) % 97 = 0 := by rw [Int.mul_emod, c2]; simp
    have c4 : c * (sm (fun j => y (i * (Z + 1) + j)) Z + 96 * y (i * (Z + 1) + Z)) = c * sm (fun j => y (i * (Z + 1) + j)) Z + 96 * (c * y (i * (Z + 1) + Z)) := by rw [Int.mul_add, Int.mul_left_comm]
    omega
  · have h1 := sm_mod (f := fun i => sm (fun j => sgn i j ^ (n + 1) * z (i * (Z + 1) + j)) Z) (g := fun i => sm (fun j => sgn i j ^ (n + 1) * x (i * (Z + 1) + j)) Z + c * sm (fun j => sgn i j ^ (n + 1) * y (i * (Z + 1) + j)) Z) (n := G) fun i hi => by
      show sm _ Z % 97 = (sm _ Z + c * sm _ Z) % 97
      rw [← sm_comb]
      refine sm_mod fun j hj => ?_
      show (sgn i j ^ (n + 1) * z (i * (Z + 1) + j)) % 97 = (sgn i j ^ (n + 1) * x (i * (Z + 1) + j) + c * (sgn i j ^ (n + 1) * y (i * (Z + 1) + j))) % 97
      rw [e _ (by have := blk_lt (Z := Z) (j := j) hi (by omega); omega)]
      rw [Int.mul_emod, Int.emod_emod_of_dvd _ (Int.dvd_refl 97), ← Int.mul_emod, Int.mul_add, Int.mul_left_comm]
    rw [sm_comb] at h1
    have h2 := e (G * (Z + 1) + n) (by omega)
    have c1 := a2 n hn
    have c2 := b2 n hn
    unfold ovC at c1 c2 ⊢
    generalize hA : sm (fun i => sm (fun j => sgn i j ^ (n + 1) * y (i * (Z + 1) + j)) Z) G = A at *
    have c3 : (c * (A + 96 * y (G * (Z + 1) + n))) % 97 = 0 := by rw [Int.mul_emod, c2]; simp
    have c4 : c * (A + 96 * y (G * (Z + 1) + n)) = c * A + 96 * (c * y (G * (Z + 1) + n)) := by rw [Int.mul_add, Int.mul_left_comm]
    omega
theorem keeps_zero (G Z M : Nat) : Keeps G Z M fun _ => 0 := by
  refine (keeps_iff fun p hp => by decide).mpr ⟨fun i hi => ?_, fun n hn => ?_⟩
  · unfold locC
    rw [sm_zero fun _ _ => rfl]
    rfl
  · unfold ovC
    rw [sm_zero fun i _ => sm_zero fun j _ => by rw [Int.mul_zero]]
    rfl
theorem bz_div {Z i j : Nat} (h : j < Z) : (i * Z + j) / Z = i := by rw [Nat.mul_comm, Nat.mul_add_div (by omega), Nat.div_eq_of_lt h]; rfl
theorem bz_mod {Z i j : Nat} (h : j < Z) : (i * Z + j) % Z = j := by rw [Nat.mul_comm, Nat.mul_add_mod, Nat.mod_eq_of_lt h]
theorem bz_lt {G Z i j : Nat} (hi : i < G) (hj : j < Z) : i * Z + j < G * Z := by
  have : (i + 1) * Z ≤ G * Z := Nat.mul_le_mul_right _ hi
  rw [Nat.succ_mul] at this
  omega
theorem t_cases {G Z t : Nat} (h : t < G * Z) : ∃ i j, i < G ∧ j < Z ∧ t = i * Z + j := by
  have hZ : 0 < Z := by
    cases Z with
    | zero => simp at h
    | succ n => omega
  refine ⟨t / Z, t % Z, (Nat.div_lt_iff_lt_mul hZ).mpr h, Nat.mod_lt _ hZ, ?_⟩
  rw [Nat.mul_comm]
  exact (Nat.div_add_mod t Z).symm
/-- the filling whose data number t is 1, all others 0 -/
def unitF (G Z t : Nat) : Nat → Int := fillF G Z fun s => if s = t then 1 else 0
theorem unit_data {G Z i j : Nat} (t : Nat) (hi : i < G) (hj : j < Z) : unitF G Z t (i * (Z + 1) + j) = if i * Z + j = t then 1 else 0 := by
  unfold unitF
  rw [fill_data _ hi hj]
theorem unit_local {G Z i i' j' : Nat} (hi : i < G) (hj' : j' < Z) : unitF G Z (i' * Z + j') (i * (Z + 1) + Z) = if i' = i then 1 else 0 := by
  unfold unitF
  rw [fill_local _ hi]
  by_cases h : i' = i
  · subst h
    rw [sm_one (k := j') hj' fun j hj ne => by rw [if_neg (by omega)], if_pos rfl, if_pos rfl]
    rfl
  · rw [sm_zero fun j hj => ?_, if_neg h]
    · rfl
    · rw [if_neg]
      intro e
      have := congrArg (· / Z) e
      simp only [bz_div hj, bz_div hj'] at this
      exact h this.symm
theorem unit_over {G Z i' j' n : Nat} (hi' : i' < G) (hj' : j' < Z) : unitF G Z (i' * Z + j') (G * (Z + 1) + n) = sgn i' j' ^ (n + 1) % 97 := by
  unfold unitF
  rw [fill_over]
  unfold overS
  rw [sm_one (k := i') hi' fun i hi ne => sm_zero fun j hj => ?_]
  · rw [sm_one (k := j') hj' fun j hj ne => by simp only; rw [if_neg (by omega), Int.mul_zero]]
    simp only
    rw [if_pos trivial, Int.mul_one]
  · simp only
    rw [if_neg, Int.mul_zero]
    intro e
    have := congrArg (· / Z) e
    simp only [bz_div hj, bz_div hj'] at this
    exact ne this
/-- each filling is the sum of its data numbers times the units -/
theorem unit_comb {G Z M p : Nat} {d : Nat → Int} (hd : ∀ t, t < G * Z → 0 ≤ d t ∧ d t ≤ 96) (hp : p < G * (Z + 1) + M) : sm (fun t => d t * unitF G Z t p) (G * Z) % 97 = fillF G Z d p := by
  rcases place_cases hp with ⟨i, j, hi, hj, rfl⟩ | ⟨i, hi, rfl⟩ | ⟨n, hn, rfl⟩
  · rw [fill_data _ hi hj, sm_one (k := i * Z + j) (bz_lt hi hj) fun t ht ne => by rw [unit_data t hi hj, if_neg (by omega), Int.mul_zero], unit_data _ hi hj, if_pos rfl, Int.mul_one]
    have := hd _ (bz_lt hi hj)
    omega
  · rw [fill_local _ hi, sm_mul, sm_one (k := i) hi fun i' hi' ne => sm_zero fun j hj => by rw [unit_local hi hj, if_neg ne, Int.mul_zero]]
    rw [sm_congr fun j hj => by rw [unit_local hi hj, if_pos rfl, Int.mul_one]]
  · rw [fill_over, sm_mul]
    unfold overS
    refine sm_mod fun i hi => ?_
    refine sm_mod fun j hj => ?_
    rw [unit_over hi hj, Int.mul_comm (sgn i j ^ (n + 1)), Int.mul_emod, Int.emod_emod_of_dvd _ (Int.dvd_refl 97), ← Int.mul_emod]
/-- the places that the checks fix, in their order -/
def fx (G Z i : Nat) : Nat := if i < G then i * (Z + 1) + Z else G * (Z + 1) + (i - G)
theorem fx_lt {G Z i j : Nat} (h : i < j) : fx G Z i < fx G Z j := by
  unfold fx
  by_cases h1 : j < G
  · rw [if_pos h1, if_pos (by omega)]
    have : (i + 1) * (Z + 1) ≤ j * (Z + 1) := Nat.mul_le_mul_right _ h
    rw [Nat.succ_mul] at this
    omega
  · rw [if_neg h1]
    by_cases h2 : i < G
    · rw [if_pos h2]
      have := blk_lt (Z := Z) (j := Z) h2 (by omega)
      omega
    · rw [if_neg h2]
      omega
theorem fx_local {G Z i : Nat} (h : i < G) : fx G Z i = i * (Z + 1) + Z := if_pos h
theorem fx_over (G Z n : Nat) : fx G Z (G + n) = G * (Z + 1) + n := by
  unfold fx
  rw [if_neg (by omega)]
  omega
theorem fx_not_data {G Z M i i' j : Nat} (hi : i < G + M) (hi' : i' < G) (hj : j < Z) : fx G Z i ≠ i' * (Z + 1) + j := by
  unfold fx
  have h3 := blk_lt (Z := Z) (j := j) hi' (by omega)
  split
  · intro e
    have c2 := congrArg (· % (Z + 1)) e
    simp only [blk_mod (show Z < Z + 1 by omega), blk_mod (show j < Z + 1 by omega)] at c2
    omega
  · omega
end Cm

set_option Elab.async false
set_option linter.all false
set_option maxRecDepth 100000
set_option maxHeartbeats 4000000
namespace Hx
open PySem PySem.Spec PyProof.Rows L2 Cm
def top (i : Nat) : Stmt := PySem.Challenge.pw_sherdhall_k10_data_pieces_needed.main.body.getD i (.Pass ⟨0, 0, 0, 0⟩)
abbrev s_is_whole : Stmt := top 30
abbrev s_is_between : Stmt := top 31
abbrev s_is_shape : Stmt := top 34
abbrev s_check_shape : Stmt := top 35
abbrev s_count : Stmt := top 36
abbrev s_is_place : Stmt := top 37
abbrev s_check_place : Stmt := top 38
abbrev s_kind_of : Stmt := top 39
abbrev s_data_places : Stmt := top 40
abbrev s_needed : Stmt := top 42
abbrev s__law_purse : Stmt := top 44
abbrev s__law_drawn : Stmt := top 45
abbrev s__law_shape : Stmt := top 46
abbrev s__law_same : Stmt := top 47
abbrev s__law_classes : Stmt := top 48
abbrev s__law_no_mould : Stmt := top 49
abbrev s__law_refused : Stmt := top 50
abbrev s__law_due : Stmt := top 51
abbrev s_law : Stmt := top 52
abbrev s_NoShape : Stmt := top 3
abbrev si_NoShape : Stmt := inCls s_NoShape 0
structure Txt (K : PySem.W.Frag) (mg : Str → Option Value) where
  n_len : mg "len" = none
  n_max : mg "max" = none
  n_min : mg "min" = none
  n_range : mg "range" = none
  n_isinstance : mg "isinstance" = none
  n_int : mg "int" = none
  n_bool : mg "bool" = none
  n_tuple : mg "tuple" = none
  n_list : mg "list" = none
  n_divmod : mg "divmod" = none
  n_all : mg "all" = none
  n_sum : mg "sum" = none
  n_zip : mg "zip" = none
  n_dict : mg "dict" = none
  n_enumerate : mg "enumerate" = none
  n_sorted : mg "sorted" = none
  n_ValueError : mg "ValueError" = none
  g_PLAIN : mg "PLAIN" = some (.ref (He.ga K "PLAIN"))
  q_PLAIN : ∀ H, SqT K H (He.ga K "PLAIN") [.int 2, .int 3, .int 2]
  g_SherdError : mg "SherdError" = some (.ref (He.ga K "SherdError"))
  g_NoRest : mg "NoRest" = some (.ref (He.ga K "NoRest"))
  g_NoShape : mg "NoShape" = some (.ref (He.ga K "NoShape"))
  g_NoPlace : mg "NoPlace" = some (.ref (He.ga K "NoPlace"))
  g_NoRow : mg "NoRow" = some (.ref (He.ga K "NoRow"))
  g_Hidden : mg "Hidden" = some (.ref (He.ga K "Hidden"))
  g_NoName : mg "NoName" = some (.ref (He.ga K "NoName"))
  g_Taken : mg "Taken" = some (.ref (He.ga K "Taken"))
  g_NoHouse : mg "NoHouse" = some (.ref (He.ga K "NoHouse"))
  g_Down : mg "Down" = some (.ref (He.ga K "Down"))
  g_NoCard : mg "NoCard" = some (.ref (He.ga K "NoCard"))
  g_Dark : mg "Dark" = some (.ref (He.ga K "Dark"))
  g_NoBook : mg "NoBook" = some (.ref (He.ga K "NoBook"))
  g_Stale : mg "Stale" = some (.ref (He.ga K "Stale"))
  g_NoObject : mg "NoObject" = some (.ref (He.ga K "NoObject"))
  g_NoHour : mg "NoHour" = some (.ref (He.ga K "NoHour"))
  g_NoTicket : mg "NoTicket" = some (.ref (He.ga K "NoTicket"))
  g_NoHomes : mg "NoHomes" = some (.ref (He.ga K "NoHomes"))
  g_NotAll : mg "NotAll" = some (.ref (He.ga K "NotAll"))
  g_Lost : mg "Lost" = some (.ref (He.ga K "Lost"))
  g_NoWeight : mg "NoWeight" = some (.ref (He.ga K "NoWeight"))
  g_NoRoom : mg "NoRoom" = some (.ref (He.ga K "NoRoom"))
  g_NoLevel : mg "NoLevel" = some (.ref (He.ga K "NoLevel"))
  g_NoMoves : mg "NoMoves" = some (.ref (He.ga K "NoMoves"))
  g_NoText : mg "NoText" = some (.ref (He.ga K "NoText"))
  g_NoOrder : mg "NoOrder" = some (.ref (He.ga K "NoOrder"))
  g_NotEmpty : mg "NotEmpty" = some (.ref (He.ga K "NotEmpty"))
  g_Stopped : mg "Stopped" = some (.ref (He.ga K "Stopped"))
  k_NoShape : isAll K "NoShape" [("NoRest", false), ("NoShape", true), ("NoPlace", false), ("NoRow", false), ("Hidden", false), ("NoName", false), ("Taken", false), ("NoHouse", false), ("Down", false), ("NoCard", false), ("Dark", false), ("NoBook", false), ("Stale", false), ("NoObject", false), ("NoHour", false), ("NoTicket", false), ("NoHomes", false), ("NotAll", false), ("Lost", false), ("NoWeight", false), ("NoRoom", false), ("NoLevel", false), ("NoMoves", false), ("NoText", false), ("NoOrder", false), ("NotEmpty", false), ("Stopped", false), ("SherdError", true)] = true
  m_NoShape_NoShape : exmB K "NoShape" "NoShape" = true
/-! ### numbers by 97 -/
theorem mod_ml (a b : Int) : (a % 97 * b) % 97 = a * b % 97 := by rw [Int.mul_emod, Int.emod_emod, ← Int.mul_emod]
theorem mod_mr (a b : Int) : (a * (b % 97)) % 97 = a * b % 97 := by rw [Int.mul_emod, Int.emod_emod, ← Int.mul_emod]
theorem mod_pw (a : Int) : ∀ n : Nat, (a % 97) ^ n % 97 = a ^ n % 97
  | 0 => by rw [Int.pow_zero, Int.pow_zero]
  | n + 1 => by rw [Int.pow_succ, Int.pow_succ, Int.mul_emod, mod_pw a n, Int.emod_emod, ← Int.mul_emod]
theorem fermat {a : Int} (h : a % 97 ≠ 0) : a ^ 96 % 97 = 1 := by
  rw [← mod_pw]
  have h0 : 0 ≤ a % 97 := Int.emod_nonneg _ (by decide)
  have h1 : a % 97 < 97 := Int.emod_lt_of_pos _ (by decide)
  obtain ⟨n, hn⟩ : ∃ n : Nat, a % 97 = (n : Int) := ⟨(a % 97).toNat, by omega⟩
  rw [hn] at h h0 h1 ⊢
  have key : ∀ n : Fin 97, n.val ≠ 0 → ((n.val : Int)) ^ 96 % 97 = 1 := by decide +kernel
  exact key ⟨n, by omega⟩ (by simp; omega)
/-- a small enough number -/
def Bd (a : Int) : Prop := a.natAbs < 2 ^ 250
theorem Bd.mod (a : Int) : Bd (a % 97) := by
  have h0 : 0 ≤ a % 97 := Int.emod_nonneg _ (by decide)
  have h1 : a % 97 < 97 := Int.emod_lt_of_pos _ (by decide)
  have h2 : 97 < 2 ^ 250 := by decide
  unfold Bd
  omega
section
variable {P : Program} {w : World} {K : PySem.W.Frag} {mg : Str → Option Value} {base : Heap}
theorem sc_is_whole : FnScope ["thing"] ["thing"] (defScope s_is_whole) := ⟨rfl, rfl, rfl, by decide +kernel, rfl, by decide +kernel, by decide +kernel⟩
theorem sc_is_between : FnScope ["thing", "least", "most"] ["thing", "least", "most"] (defScope s_is_between) := ⟨rfl, rfl, rfl, by decide +kernel, rfl, by decide +kernel, by decide +kernel⟩
theorem sc_is_shape : FnScope ["thing", "groups", "size", "sums"] ["thing"] (defScope s_is_shape) := ⟨rfl, rfl, rfl, by decide +kernel, rfl, by decide +kernel, by decide +kernel⟩
theorem sc_check_shape : FnScope ["shape"] ["shape"] (defScope s_check_shape) := ⟨rfl, rfl, rfl, by decide +kernel, rfl, by decide +kernel, by decide +kernel⟩
theorem sc_count : FnScope ["shape", "groups", "size", "sums"] ["shape"] (defScope s_count) := ⟨rfl, rfl, rfl, by decide +kernel, rfl, by decide +kernel, by decide +kernel⟩
theorem sc_is_place : FnScope ["thing", "shape"] ["thing", "shape"] (defScope s_is_place) := ⟨rfl, rfl, rfl, by decide +kernel, rfl, by decide +kernel, by decide +kernel⟩
theorem sc_check_place : FnScope ["thing", "shape"] ["thing", "shape"] (defScope s_check_place) := ⟨rfl, rfl, rfl, by decide +kernel, rfl, by decide +kernel, by decide +kernel⟩
theorem sc_kind_of : FnScope ["place", "shape", "groups", "size", "_", "group", "at"] ["place", "shape"] (defScope s_kind_of) := ⟨rfl, rfl, rfl, by decide +kernel, rfl, by decide +kernel, by decide +kernel⟩
theorem sc_data_places : FnScope ["shape", "places", "place"] ["shape"] (defScope s_data_places) := ⟨rfl, rfl, rfl, by decide +kernel, rfl, by decide +kernel, by decide +kernel⟩
theorem sc_needed : FnScope ["first", "behind", "shape", "data", "at", "place"] ["first", "behind", "shape"] (defScope s_needed) := ⟨rfl, rfl, rfl, by decide +kernel, rfl, by decide +kernel, by decide +kernel⟩
theorem sc__law_purse : FnScope ["script", "k", "cell"] ["script", "k"] (defScope s__law_purse) := ⟨rfl, rfl, rfl, by decide +kernel, rfl, by decide +kernel, by decide +kernel⟩
theorem sc__law_drawn : FnScope ["purse", "many", "found", "turn", "mixed"] ["purse", "many"] (defScope s__law_drawn) := ⟨rfl, rfl, rfl, by decide +kernel, rfl, by decide +kernel, by decide +kernel⟩
theorem sc__law_shape : FnScope ["purse", "most", "found", "groups", "size", "sums"] ["purse", "most"] (defScope s__law_shape) := ⟨rfl, rfl, rfl, by decide +kernel, rfl, by decide +kernel, by decide +kernel⟩
theorem sc__law_same : FnScope ["found", "due", "k"] ["found", "due"] (defScope s__law_same) := ⟨rfl, rfl, rfl, by decide +kernel, rfl, by decide +kernel, by decide +kernel⟩
theorem sc__law_classes : FnScope ["caught", "pairs", "other", "word", "there"] ["caught"] (defScope s__law_classes) := ⟨rfl, rfl, rfl, by decide +kernel, rfl, by decide +kernel, by decide +kernel⟩
theorem sc__law_no_mould : FnScope ["purse", "mould", "way", "some"] ["purse", "mould"] (defScope s__law_no_mould) := ⟨rfl, rfl, rfl, by decide +kernel, rfl, by decide +kernel, by decide +kernel⟩
theorem sc__law_refused : FnScope ["first", "behind", "thing", "caught", "field", "e"] ["first", "behind", "thing"] (defScope s__law_refused) := ⟨rfl, rfl, rfl, by decide +kernel, rfl, by decide +kernel, by decide +kernel⟩
theorem sc__law_due : FnScope ["first", "behind", "mould", "wide", "place", "spots", "there", "number"] ["first", "behind", "mould"] (defScope s__law_due) := ⟨rfl, rfl, rfl, by decide +kernel, rfl, by decide +kernel, by decide +kernel⟩
theorem sc_law : FnScope ["script", "k", "purse", "near", "mould", "first", "behind", "none"] ["script"] (defScope s_law) := ⟨rfl, rfl, rfl, by decide +kernel, rfl, by decide +kernel, by decide +kernel⟩
theorem sci_NoShape : FnScope ["self", "shape"] ["self", "shape"] (defScope si_NoShape) := ⟨rfl, rfl, rfl, by decide +kernel, rfl, by decide +kernel, by decide +kernel⟩
end
local macro_rules | `(tactic| walk_at "bd") => `(tactic| first | assumption | exact Bd.mod _ | (unfold Bd; decide))
local macro_rules | `(tactic| walk_at "rd") => `(tactic| repeat (first | refine ⟨_, rfl, ?_⟩ | refine ⟨_, _, rfl, rfl, ?_⟩ | refine ⟨_, _, rfl, ?_⟩ | refine ⟨_, _, _, rfl, ?_⟩ | refine ⟨rfl, ?_⟩ | refine ⟨(by walk_at "bd" : Bd _), ?_⟩))
local macro_rules | `(tactic| walk_at "mem") => `(tactic| first | assumption | exact upd_same | (refine old ?_ ?_ <;> walk_at "mem"))
local macro_rules | `(tactic| walk_at "sq") => `(tactic| first | assumption | (refine SqL.of ?_; walk_at "mem"))
section
variable {P : Program} {w : World} {K : PySem.W.Frag} {mg : Str → Option Value} {base : Heap}
def isInt : V → Bool
  | .int _ => true
  | _ => false
def betw (v : V) (lo hi : Int) : Bool := match v with
  | .int i => decide (lo ≤ i) && decide (i ≤ hi)
  | _ => false
theorem ty_isInt {K : PySem.W.Frag} {H : Hp} {v : V} {n : String} (h : Ty K H v n) : ((n == "int" || (n == "bool" && "int" == "int")) && !(n == "bool" || (n == "bool" && "bool" == "int"))) = isInt v := by
  cases h <;> rfl
def spWhole (K : PySem.W.Frag) : Sp := fun vs H Q _ => ∃ v n, vs = [v] ∧ Ty K H v n ∧ Q (.bl (isInt v)) H
def spBetw (K : PySem.W.Frag) : Sp := fun vs H Q _ => ∃ v n lo hi, vs = [v, .int lo, .int hi] ∧ Ty K H v n ∧ Q (.bl (betw v lo hi)) H
def spRest (K : PySem.W.Frag) : Sp := fun vs H Q _ => ∃ v n, vs = [v] ∧ Ty K H v n ∧ Q (.bl (betw v 0 96)) H
theorem ok_whole (T : Txt K mg) (F : At K mg "is_whole" s_is_whole ["thing"]) : Dn P w K mg base CX0 1 "is_whole" ["thing"] (spWhole K) := by
  refine F.ok sc_is_whole (fun vs H Q E h => ?_) (fun f cdv A outer s H vs Q E hr h => ?_)
  · obtain ⟨v, n, rfl, _⟩ := h
    rfl
  · obtain ⟨v, n, rfl, ty, q⟩ := h
    refine ⟨_, (pss_one (ps_ret (pe_and (pe_callB (r := rIsi K) call_isi (by rfl) T.n_isinstance (by decide +kernel) (pa_cons (pv 0) (pa_cons (pe_bltn (v := .ty "int") (u := .type "int") (by rfl) T.n_int (by decide +kernel) (by exact rfl)) pa_nil))) (pe_one (pe_not (pe_callB (r := rIsi K) call_isi (by rfl) T.n_isinstance (by decide +kernel) (pa_cons (pv 0) (pa_cons (pe_bltn (v := .ty "bool") (u := .type "bool") (by rfl) T.n_bool (by decide +kernel) (by exact rfl)) pa_nil)))))))), ?_⟩
    rw [← ty_isInt ty] at q
    refine ⟨_, rfl, _, _, _, _, _, rfl, .ty "int", ty.x, ty.kit "int", ?_⟩
    refine ⟨_, rfl, iteB (fun h => ?_) fun h => ?_⟩
    · rw [h, Bool.true_and] at q
      exact ⟨_, rfl, _, _, _, _, _, rfl, .ty "bool", ty.x, ty.kit "bool", _, rfl, q⟩
    · rw [h, Bool.false_and] at q
      exact q
theorem ok_between (D_is_whole : Dn P w K mg base CX0 1 "is_whole" ["thing"] (spWhole K)) (F : At K mg "is_between" s_is_between ["thing", "least", "most"]) : Dn P w K mg base CX0 2 "is_between" ["thing", "least", "most"] (spBetw K) := by
  refine F.ok sc_is_between (fun vs H Q E h => ?_) (fun f cdv A outer s H vs Q E hr h => ?_)
  · obtain ⟨v, n, lo, hi, rfl, _⟩ := h
    rfl
  · obtain ⟨v, n, lo, hi, rfl, ty, q⟩ := h
    refine ⟨_, (pss_one (ps_ret (pe_and (pe_callD D_is_whole (by first | exact hr | exact hr.mono (by decide)) (pa_cons (pv 0) pa_nil)) (pe_one (pe_chain op_le op_le (pv 1) (pv 0) (pv 2)))))), ?_⟩
    refine ⟨_, rfl, _, _, rfl, ty, _, rfl, iteB (fun h => ?_) fun h => ?_⟩
    · obtain ⟨i, rfl⟩ : ∃ i, v = .int i := by
        cases v with
        | int i => exact ⟨i, rfl⟩
        | _ => cases h
      refine ⟨_, rfl, _, rfl, _, _, rfl, rfl, _, rfl, iteD (fun h1 => ?_) fun h1 => ?_⟩
      · refine ⟨_, rfl, _, _, rfl, rfl, ?_⟩
        have q' : Q (.bl (decide (lo ≤ i) && decide (i ≤ hi))) H := q
        rw [decide_eq_true h1, Bool.true_and] at q'
        exact q'
      · have q' : Q (.bl (decide (lo ≤ i) && decide (i ≤ hi))) H := q
        rw [decide_eq_false h1, Bool.false_and] at q'
        exact q'
    · have e : betw v lo hi = false := by
        cases v with
        | int i => cases h
        | _ => rfl
      rw [e] at q
      exact q
/-- a shape of g groups of s data places, m sums -/
def Mould (K : PySem.W.Frag) (H : Hp) (a : Addr) (g s m : Int) : Prop := SqT K H a [.int g, .int s, .int m] ∧ 1 ≤ g ∧ g ≤ 4 ∧ 1 ≤ s ∧ s ≤ 4 ∧ 0 ≤ m ∧ m ≤ 2
theorem Mould.same {K : PySem.W.Frag} {H H' : Hp} {a : Addr} {g s m : Int} (h : Mould K H a g s m) (e : Same H H') : Mould K H' a g s m := ⟨Same.sqt e h.1, h.2⟩
def manyZ (g s m : Int) : Int := g * (s + 1) + m
theorem many_le {g s m : Int} (g1 : 1 ≤ g) (g4 : g ≤ 4) (s1 : 1 ≤ s) (s4 : s ≤ 4) (m0 : 0 ≤ m) (m2 : m ≤ 2) : 2 ≤ manyZ g s m ∧ manyZ g s m ≤ 22 ∧ 2 ≤ g * (s + 1) ∧ g * (s + 1) ≤ 20 := by
  obtain rfl | rfl | rfl | rfl : g = 1 ∨ g = 2 ∨ g = 3 ∨ g = 4 := by omega
  all_goals (unfold manyZ; omega)
theorem Mould.le {K : PySem.W.Frag} {H : Hp} {a : Addr} {g s m : Int} (h : Mould K H a g s m) : 2 ≤ manyZ g s m ∧ manyZ g s m ≤ 22 ∧ 2 ≤ g * (s + 1) ∧ g * (s + 1) ≤ 20 := many_le h.2.1 h.2.2.1 h.2.2.2.1 h.2.2.2.2.1 h.2.2.2.2.2.1 h.2.2.2.2.2.2
theorem betw_t {i lo hi : Int} (h1 : lo ≤ i) (h2 : i ≤ hi) : betw (.int i) lo hi = true := by
  show (decide (lo ≤ i) && decide (i ≤ hi)) = true
  rw [decide_eq_true h1, decide_eq_true h2]; rfl
def spShape (K : PySem.W.Frag) : Sp := fun vs H Q _ => ∃ a g s m, vs = [.ref a] ∧ Mould K H a g s m ∧ Q (.bl true) H
theorem ok_is_shape (T : Txt K mg) (D_is_between : Dn P w K mg base CX0 2 "is_between" ["thing", "least", "most"] (spBetw K)) (F : At K mg "is_shape" s_is_shape ["thing"]) : Dn P w K mg base CX0 3 "is_shape" ["thing"] (spShape K) := by
  refine F.ok sc_is_shape (fun vs H Q E h => ?_) (fun f cdv A outer s H vs Q E hr h => ?_)
  · obtain ⟨a, g, s, m, rfl, _⟩ := h
    rfl
  · obtain ⟨a, g, z, m, rfl, M, q⟩ := h
    obtain ⟨ha, g1, g4, s1, s4, m0, m2⟩ := id M
    refine ⟨_, (pss_cons (ps_if (PW.pt (pw_or (pt_not (pt_val (pe_callB (r := rIsi K) call_isi (by rfl) T.n_isinstance (by decide +kernel) (pa_cons (pv 0) (pa_cons (pe_bltn (v := .ty "tuple") (u := .type "tuple") (by rfl) T.n_tuple (by decide +kernel) (by exact rfl)) pa_nil))))) (pw_or1 (pt_cmpR op_ne (pe_callB (r := rLen K) call_len (by rfl) T.n_len (by decide +kernel) (pa_cons (pv 0) pa_nil)) pe_int (nomark _))))) (pss_one (ps_ret pe_bl)) pss_nil)
  (pss_cons (ps_asg (pv 0) (pg_tup (by rfl) (pgs_cons (pg_name (i := 1) sc_is_shape.nd rfl (by first | exact Or.inl rfl | exact Or.inr rfl)) (pgs_cons (pg_name (i := 2) sc_is_shape.nd rfl (by first | exact Or.inl rfl | exact Or.inr rfl)) (pgs_cons (pg_name (i := 3) sc_is_shape.nd rfl (by first | exact Or.inl rfl | exact Or.inr rfl)) pgs_nil)))))
  (pss_one (ps_ret (pe_and (pe_callD D_is_between (by first | exact hr | exact hr.mono (by decide)) (pa_cons (pv 1) (pa_cons pe_int (pa_cons pe_int pa_nil)))) (pe_and (pe_callD D_is_between (by first | exact hr | exact hr.mono (by decide)) (pa_cons (pv 2) (pa_cons pe_int (pa_cons pe_int pa_nil)))) (pe_one (pe_callD D_is_between (by first | exact hr | exact hr.mono (by decide)) (pa_cons (pv 3) (pa_cons pe_int (pa_cons pe_int pa_nil))))))))))), ?_⟩
    have ty : Ty K H (.ref a) "tuple" := .tup ha
    refine ⟨_, rfl, _, _, _, _, _, rfl, .ty "tuple", ty.x, ty.kit "tuple", _, rfl, _, rfl, _, _, rfl, .inr ⟨_, ha, rfl⟩, rfl, _, rfl, iteIn (fun z => absurd rfl z) fun _ => ?_⟩
    refine ⟨_, rfl, _, _, rfl, ha, rfl, _, _, rfl, _, _, rfl, _, _, rfl, rfl, ?_⟩
    refine ⟨_, rfl, _, _, _, _, rfl, .int g, ?_⟩
    rw [betw_t g1 g4]
    refine ⟨_, rfl, _, rfl, _, _, _, _, rfl, .int z, ?_⟩
    rw [betw_t s1 s4]
    refine ⟨_, rfl, _, rfl, _, _, _, _, rfl, .int m, ?_⟩
    rw [betw_t m0 m2]
    exact q
def spChk (K : PySem.W.Frag) : Sp := fun vs H Q _ => ∃ a g s m, vs = [.ref a] ∧ Mould K H a g s m ∧ Q .non H
theorem ok_check_shape (D_is_shape : Dn P w K mg base CX0 3 "is_shape" ["thing"] (spShape K)) (F : At K mg "check_shape" s_check_shape ["shape"]) : Dn P w K mg base CX0 4 "check_shape" ["shape"] (spChk K) := by
  refine F.ok sc_check_shape (fun vs H Q E h => ?_) (fun f cdv A outer s H vs Q E hr h => ?_)
  · obtain ⟨a, g, s, m, rfl, _⟩ := h
    rfl
  · obtain ⟨a, g, z, m, rfl, M, q⟩ := h
    refine ⟨_, (pss_one (ps_if (pt_not (pt_val (pe_callD D_is_shape (by first | exact hr | exact hr.mono (by decide)) (pa_cons (pv 0) pa_nil)))) (pss_one ps_never) pss_nil)), ?_⟩
    exact ⟨_, rfl, a, g, z, m, rfl, M, _, rfl, q⟩
def spCount (K : PySem.W.Frag) : Sp := fun vs H Q _ => ∃ a g s m, vs = [.ref a] ∧ Mould K H a g s m ∧ Q (.int (manyZ g s m)) H
theorem ok_count (D_check_shape : Dn P w K mg base CX0 4 "check_shape" ["shape"] (spChk K)) {dv : V} (F : AtK K mg "count" s_count [] "shape" dv) : DnK P w K mg base CX0 5 "count" [] "shape" dv (spCount K) := by
  refine F.ok sc_count (fun vs H Q E h => ?_) (fun f cdv A outer s H vs Q E hr h => ?_)
  · obtain ⟨a, g, s, m, rfl, _⟩ := h
    rfl
  · obtain ⟨a, g, z, m, rfl, M, q⟩ := h
    obtain ⟨ha, g1, g4, s1, s4, m0, m2⟩ := id M
    refine ⟨_, (pss_cons (ps_expr (pe_callD D_check_shape (by first | exact hr | exact hr.mono (by decide)) (pa_cons (pv 0) pa_nil)))
  (pss_cons (ps_asg (pv 0) (pg_tup (by rfl) (pgs_cons (pg_name (i := 1) sc_count.nd rfl (by first | exact Or.inl rfl | exact Or.inr rfl)) (pgs_cons (pg_name (i := 2) sc_count.nd rfl (by first | exact Or.inl rfl | exact Or.inr rfl)) (pgs_cons (pg_name (i := 3) sc_count.nd rfl (by first | exact Or.inl rfl | exact Or.inr rfl)) pgs_nil)))))
  (pss_one (ps_ret (pe_op op_add (pe_op op_mul (pv 1) (pe_op op_add (pv 2) pe_int)) (pv 3)))))), ?_⟩
    refine ⟨_, rfl, a, g, z, m, rfl, M, ?_⟩
    refine ⟨_, rfl, _, _, rfl, ha, rfl, _, _, rfl, _, _, rfl, _, _, rfl, rfl, ?_⟩
    exact ⟨_, rfl, _, rfl, _, _, rfl, rfl, _, _, rfl, rfl, .inl ⟨by omega, by omega⟩, _, rfl, _, _, rfl, rfl, q⟩
def spPlace (K : PySem.W.Frag) : Sp := fun vs H Q _ => ∃ (v : V) (n : String) (a : Addr) (g s m : Int), vs = [v, .ref a] ∧ Ty K H v n ∧ Mould K H a g s m ∧ Q (.bl (betw v 0 (manyZ g s m - 1))) H
theorem ok_is_place (D_is_between : Dn P w K mg base CX0 2 "is_between" ["thing", "least", "most"] (spBetw K)) {dv : V} (D_count : DnK P w K mg base CX0 5 "count" [] "shape" dv (spCount K)) (F : AtK K mg "is_place" s_is_place ["thing"] "shape" dv) : DnK P w K mg base CX0 6 "is_place" ["thing"] "shape" dv (spPlace K) := by
  refine F.ok sc_is_place (fun vs H Q E h => ?_) (fun f cdv A outer s H vs Q E hr h => ?_)
  · obtain ⟨v, n, a, g, s, m, rfl, _⟩ := h
    rfl
  · obtain ⟨v, n, a, g, z, m, rfl, ty, M, q⟩ := h
    refine ⟨_, (pss_one (ps_ret (pe_callD D_is_between (by first | exact hr | exact hr.mono (by decide)) (pa_cons (pv 0) (pa_cons pe_int (pa_cons (pe_op op_sub (pe_callW0 D_count (by first | exact hr | exact hr.mono (by decide)) (pv 1)) pe_int) pa_nil)))))), ?_⟩
    refine ⟨_, rfl, _, rfl, rfl, a, g, z, m, rfl, M, _, _, rfl, rfl, ?_⟩
    exact ⟨v, n, _, _, rfl, ty, q⟩
def spChkP (K : PySem.W.Frag) : Sp := fun vs H Q _ => ∃ (p : Int) (a : Addr) (g s m : Int), vs = [.int p, .ref a] ∧ Mould K H a g s m ∧ 0 ≤ p ∧ p < manyZ g s m ∧ Q .non H
theorem ok_check_place {dv : V} (D_is_place : DnK P w K mg base CX0 6 "is_place" ["thing"] "shape" dv (spPlace K)) (F : At K mg "check_place" s_check_place ["thing", "shape"]) : Dn P w K mg base CX0 7 "check_place" ["thing", "shape"] (spChkP K) := by
  refine F.ok sc_check_place (fun vs H Q E h => ?_) (fun f cdv A outer s H vs Q E hr h => ?_)
  · obtain ⟨p, a, g, s, m, rfl, _⟩ := h
    rfl
  · obtain ⟨p, a, g, z, m, rfl, M, p0, p1, q⟩ := h
    refine ⟨_, (pss_one (ps_if (pt_not (pt_val (pe_callW D_is_place (by first | exact hr | exact hr.mono (by decide)) (pa_cons (pv 0) pa_nil) (pv 1)))) (pss_one ps_never) pss_nil)), ?_⟩
    refine ⟨_, rfl, _, rfl, rfl, rfl, .int p, "int", a, g, z, m, rfl, .int p, M, ?_⟩
    rw [betw_t p0 (by omega)]
    exact ⟨_, rfl, q⟩
/-- what a place is -/
def kindV (g s p : Int) : List V := if p / (s + 1) ≥ g then [.str "over", .int (p - g * (s + 1) + 1)] else if p % (s + 1) = s then [.str "local", .int (p / (s + 1))] else [.str "data", .int (p / (s + 1)), .int (p % (s + 1))]
def spKind (K : PySem.W.Frag) : Sp := fun vs H Q _ => ∃ (p : Int) (a : Addr) (g s m : Int), vs = [.int p, .ref a] ∧ Mould K H a g s m ∧ 0 ≤ p ∧ p < manyZ g s m ∧ ∀ r H', Same H H' → H' r = some (.tup (kindV g s p)) → Q (.ref r) H'
theorem ok_kind_of (T : Txt K mg) (D_check_place : Dn P w K mg base CX0 7 "check_place" ["thing", "shape"] (spChkP K)) {dv : V} (F : AtK K mg "kind_of" s_kind_of ["place"] "shape" dv) : DnK P w K mg base CX0 8 "kind_of" ["place"] "shape" dv (spKind K) := by
  refine F.ok sc_kind_of (fun vs H Q E h => ?_) (fun f cdv A outer s H vs Q E hr h => ?_)
  · obtain ⟨p, a, g, s, m, rfl, _⟩ := h
    rfl
  · obtain ⟨p, a, g, z, m, rfl, M, p0, p1, q⟩ := h
    obtain ⟨ha, g1, g4, s1, s4, m0, m2⟩ := id M
    refine ⟨_, (pss_cons (ps_expr (pe_callD D_check_place (by first | exact hr | exact hr.mono (by decide)) (pa_cons (pv 0) (pa_cons (pv 1) pa_nil))))
  (pss_cons (ps_asg (pv 1) (pg_tup (by rfl) (pgs_cons (pg_name (i := 2) sc_kind_of.nd rfl (by first | exact Or.inl rfl | exact Or.inr rfl)) (pgs_cons (pg_name (i := 3) sc_kind_of.nd rfl (by first | exact Or.inl rfl | exact Or.inr rfl)) (pgs_cons (pg_name (i := 4) sc_kind_of.nd rfl (by first | exact Or.inl rfl | exact Or.inr rfl)) pgs_nil)))))
  (pss_cons (ps_asg (pe_callB call_divmod (by rfl) T.n_divmod (by decide +kernel) (pa_cons (pv 0) (pa_cons (pe_op op_add (pv 3) pe_int) pa_nil))) (pg_tup (by rfl) (pgs_cons (pg_name (i := 5) sc_kind_of.nd rfl (by first | exact Or.inl rfl | exact Or.inr rfl)) (pgs_cons (pg_name (i := 6) sc_kind_of.nd rfl (by first | exact Or.inl rfl | exact Or.inr rfl)) pgs_nil))))
  (pss_cons (ps_if (pt_cmpR op_ge (pv 5) (pv 2) (nomark _)) (pss_one (ps_ret (pe_tup (pa_cons pe_str (pa_cons (pe_op op_add (pe_op op_sub (pv 0) (pe_op op_mul (pv 2) (pe_op op_add (pv 3) pe_int))) pe_int) pa_nil))))) pss_nil)
  (pss_cons (ps_if (pt_cmpR op_eq (pv 6) (pv 3) (nomark _)) (pss_one (ps_ret (pe_tup (pa_cons pe_str (pa_cons (pv 5) pa_nil))))) pss_nil)
  (pss_one (ps_ret (pe_tup (pa_cons pe_str (pa_cons (pv 5) (pa_cons (pv 6) pa_nil))))))))))), ?_⟩
    refine ⟨_, rfl, _, rfl, p, a, g, z, m, rfl, M, p0, p1, ?_⟩
    refine ⟨_, rfl, _, _, rfl, ha, rfl, _, _, rfl, _, _, rfl, _, _, rfl, rfl, ?_⟩
    refine ⟨_, rfl, _, rfl, _, _, rfl, rfl, _, _, rfl, ⟨?_, ?_⟩, fun r nr => ?_⟩
    · omega
    · omega
    have s1' := Same.new (o := .tup [.int (p / (z + 1)), .int (p % (z + 1))]) nr
    refine ⟨_, _, rfl, SqT.of upd_same, rfl, _, _, rfl, _, _, rfl, rfl, ?_⟩
    refine ⟨_, rfl, _, rfl, _, _, rfl, rfl, _, rfl, iteD (fun h1 => ?_) fun h1 => ?_⟩
    · have e : kindV g z p = [.str "over", .int (p - g * (z + 1) + 1)] := if_pos h1
      refine ⟨_, rfl, _, rfl, _, rfl, _, _, rfl, rfl, _, _, rfl, rfl, .inl ⟨by omega, by omega⟩, _, _, rfl, rfl, _, _, rfl, rfl, (by show 2 ≤ sizeLine; decide), fun t nt => ?_⟩
      exact q t _ (Same.trans s1' (Same.new nt)) (by rw [e]; exact upd_same)
    refine ⟨_, rfl, _, rfl, rfl, _, rfl, iteI (fun h2 => ?_) fun h2 => ?_⟩
    · have e : kindV g z p = [.str "local", .int (p / (z + 1))] := by unfold kindV; rw [if_neg h1, if_pos h2]
      refine ⟨_, rfl, (by show 2 ≤ sizeLine; decide), fun t nt => ?_⟩
      exact q t _ (Same.trans s1' (Same.new nt)) (by rw [e]; exact upd_same)
    · have e : kindV g z p = [.str "data", .int (p / (z + 1)), .int (p % (z + 1))] := by unfold kindV; rw [if_neg h1, if_neg h2]
      refine ⟨_, rfl, _, rfl, (by show 3 ≤ sizeLine; decide), fun t nt => ?_⟩
      exact q t _ (Same.trans s1' (Same.new nt)) (by rw [e]; exact upd_same)
/-- a data place -/
def isData (g s p : Int) : Bool := decide (p / (s + 1) < g) && decide (p % (s + 1) ≠ s)
theorem kind_data {g s p : Int} (h : isData g s p = true) : kindV g s p = [.str "data", .int (p / (s + 1)), .int (p % (s + 1))] := by
  unfold isData at h
  simp only [Bool.and_eq_true, decide_eq_true_eq] at h
  unfold kindV
  rw [if_neg (by omega), if_neg h.2]
theorem Mould.nat {K : PySem.W.Frag} {H : Hp} {a : Addr} {g z m : Int} (M : Mould K H a g z m) : ∃ G Z N : Nat, g = G ∧ z = Z ∧ m = N := by
  obtain ⟨_, g1, g4, z1, z4, m0, m2⟩ := M
  exact ⟨g.toNat, z.toNat, m.toNat, by omega, by omega, by omega⟩
theorem cdiv (p Z : Nat) : ((p : Int) / ((Z : Int) + 1)) = ((p / (Z + 1) : Nat) : Int) := by rw [Int.natCast_ediv]; rfl
theorem cmod (p Z : Nat) : ((p : Int) % ((Z : Int) + 1)) = ((p % (Z + 1) : Nat) : Int) := by rw [Int.natCast_emod]; rfl
theorem many_nat (G Z M : Nat) : (manyZ G Z M).toNat = G * (Z + 1) + M := by
  unfold manyZ
  have e : (G : Int) * ((Z : Int) + 1) = ((G * (Z + 1) : Nat) : Int) := by rw [Int.natCast_mul]; rfl
  rw [e]
  omega
theorem over_div (G Z t : Nat) : G ≤ (G * (Z + 1) + t) / (Z + 1) := (Nat.le_div_iff_mul_le (by omega)).mpr (by omega)
-- F
theorem dat_listM {G Z N : Nat} (hG : G ≤ 4) (hZ : Z ≤ 4) (hN : N ≤ 2) : ((List.range (G * (Z + 1) + N)).filter fun i : Nat => isData (G : Int) Z (i : Int)) = (List.range (G * Z)).map (dp Z) := by
  have key : ∀ G : Fin 5, ∀ Z : Fin 5, ∀ N : Fin 3, ((List.range (G.val * (Z.val + 1) + N.val)).filter fun i : Nat => isData (G.val : Int) (Z.val : Int) (i : Int)) = (List.range (G.val * Z.val)).map (dp Z.val) := by decide +kernel
  exact key ⟨G, by omega⟩ ⟨Z, by omega⟩ ⟨N, by omega⟩
def placesL (G Z : Nat) : List Int := (List.range (G * Z)).map fun t => ((dp Z t : Nat) : Int)
def spPlaces (K : PySem.W.Frag) : Sp := fun vs H Q _ => ∃ (a : Addr) (g s m : Int), vs = [.ref a] ∧ Mould K H a g s m ∧ ∀ r H', Same H H' → H r = none → H' r = some (.lst ((placesL g.toNat s.toNat).map V.int)) → Q (.ref r) H'
theorem kind_head {g s p : Int} : ∃ w r, kindV g s p = .str w :: r ∧ (w = "data" ↔ isData g s p = true) := by
  unfold kindV isData
  by_cases h1 : p / (s + 1) ≥ g
  · rw [if_pos h1, decide_eq_false (by omega)]
    exact ⟨_, _, rfl, by rw [Bool.false_and]; decide⟩
  · rw [if_neg h1, decide_eq_true (by omega)]
    by_cases h2 : p % (s + 1) = s
    · rw [if_pos h2, decide_eq_false (by simpa using h2)]
      exact ⟨_, _, rfl, by decide⟩
    · rw [if_neg h2, decide_eq_true h2]
      exact ⟨_, _, rfl, by decide⟩
theorem ok_places (T : Txt K mg) {dv : V} (D_count : DnK P w K mg base CX0 5 "count" [] "shape" dv (spCount K)) (D_kind_of : DnK P w K mg base CX0 8 "kind_of" ["place"] "shape" dv (spKind K)) (F : AtK K mg "data_places" s_data_places [] "shape" dv) : DnK P w K mg base CX0 9 "data_places" [] "shape" dv (spPlaces K) := by
  refine F.ok sc_data_places (fun vs H Q E h => ?_) (fun f cdv A outer s H vs Q E hr h => ?_)
  · obtain ⟨a, g, s, m, rfl, _⟩ := h
    rfl
  · obtain ⟨a, g, z, m, rfl, M, q⟩ := h
    obtain ⟨G, Z, N, rfl, rfl, rfl⟩ := M.nat
    obtain ⟨ha, g1, g4, z1, z4, m0, m2⟩ := id M
    obtain ⟨l1, l2, l3, l4⟩ := M.le
    have mz : manyZ (G : Int) Z N = ((G * (Z + 1) + N : Nat) : Int) := by have := many_nat G Z N; omega
    refine ⟨_, (pss_cons (ps_set (i := 1) sc_data_places.nd rfl (by first | exact Or.inl rfl | exact Or.inr rfl) (pe_callTy cr_range1 (by rfl) T.n_range (by decide +kernel) (pa_cons (pe_callW0 D_count (by first | exact hr | exact hr.mono (by decide)) (pv 0)) pa_nil)))
  (pss_one (ps_ret (pe_lc (own := [("place", 2)]) (g := (gName 2)) (by rfl) sc_data_places.nd (pi_rng (pv 1)) (blkOk_by (own := [("place", 2)]) (N := ["shape", "places", "place"]) (sc := defScope s_data_places) (by decide +kernel)) (fun _ _ _ _ _ => (pg_name (i := 2) sc_data_places.nd rfl (by first | exact Or.inl rfl | exact Or.inr rfl) (by first | exact Or.inr rfl | exact Or.inl rfl))) (fun _ _ _ _ _ => (pts_one (pt_cmpR op_eq (pe_ix (r := rIxT K) ix_tup (pe_callW D_kind_of (by first | exact hr | exact hr.mono (by decide)) (pa_cons (pv 2) pa_nil) (pv 0)) pe_int (fun _ _ => rfl)) pe_str (nomark _)))) (fun _ _ _ _ _ => (pv 2)))))), ?_⟩
    refine ⟨_, rfl, rfl, a, G, Z, N, rfl, M, _, rfl, fun r nr => ?_⟩
    have sr := Same.new (o := .rng 0 (manyZ G Z N)) nr
    have er : upd H r (.rng 0 (manyZ G Z N)) r = some (.rng 0 (manyZ G Z N)) := upd_same
    have M1 := M.same sr
    generalize upd H r (.rng 0 (manyZ G Z N)) = H1 at *
    refine ⟨_, rfl, r, 0, _, rfl, er, ⟨by omega, by omega, by omega, by omega⟩, fun D nD => ?_⟩
    refine lc_filt (fun i : Nat => V.int i) walk_range (fun i => i) (fun i => isData G Z i) nD (small1000' (by omega)) (fun _ _ => trivial) ?_ ?_
    · intro i x H2 H3 R R' hi s2 y k1 k2
      obtain ⟨rfl, rfl⟩ := y
      refine ⟨rfl, _, rfl, _, rfl, rfl, rfl, _, a, G, Z, N, rfl, M1.same s2, by omega, by omega, fun t H4 s4 et => ?_⟩
      rw [Int.zero_add] at et
      obtain ⟨w, rr, ek, iw⟩ := kind_head (g := (G : Int)) (s := (Z : Int)) (p := (i : Int))
      rw [ek] at et
      have i0 : V.int (0 + (i : Int)) = V.int (i : Int) := by rw [Int.zero_add]
      refine ⟨_, _, _, .str w, rfl, rfl, SqT.of et, at_of (j := 0) rfl rfl, rfl, _, rfl, iteD (fun h => ?_) fun h => ?_⟩
      · refine ⟨_, rfl, ?_⟩
        show R (V.int (0 + (i : Int))) H4
        rw [i0]
        exact k1 H4 s4 (iw.mp (V.str.inj h))
      · refine k2 H4 s4 ?_
        cases hd : isData G Z i with
        | false => rfl
        | true => exact absurd (congrArg V.str (iw.mpr hd)) h
    · intro H2 s2 e2
      have e3 : (manyZ (G : Int) Z N - 0).toNat = G * (Z + 1) + N := by omega
      rw [List.map_id', e3, dat_listM (by omega) (by omega) (by omega), List.map_map] at e2
      refine q D H2 (Same.trans sr s2) (Same.low sr nD) ?_
      rw [e2, Int.toNat_natCast, Int.toNat_natCast]
      unfold placesL
      rw [List.map_map]
      rfl
-- F
/-- the data places on which numbers from first up to behind lie -/
def neededL (G Z : Nat) (first behind : Int) : List Int := ((List.range (G * Z)).filter fun t : Nat => decide (first + ((t : Int) - first) % ((G * Z : Nat) : Int) < behind)).map fun t => ((dp Z t : Nat) : Int)
def spNeeded (K : PySem.W.Frag) : Sp := fun vs H Q _ => ∃ (first behind : Int) (a : Addr) (g s m : Int), vs = [.int first, .int behind, .ref a] ∧ Mould K H a g s m ∧
  ∀ r H', Same H H' → H r = none → H' r = some (.lst ((neededL g.toNat s.toNat first behind).map V.int)) → Q (.ref r) H'
theorem ok_needed (T : Txt K mg) {dv : V} (D_data_places : DnK P w K mg base CX0 9 "data_places" [] "shape" dv (spPlaces K)) (F : AtK K mg "needed" s_needed ["first", "behind"] "shape" dv) : DnK P w K mg base CX0 10 "needed" ["first", "behind"] "shape" dv (spNeeded K) := by
  refine F.ok sc_needed (fun vs H Q E h => ?_) (fun f cdv A outer s H vs Q E hr h => ?_)
  · obtain ⟨first, behind, a, g, s, m, rfl, _⟩ := h
    rfl
  · obtain ⟨first, behind, a, g, z, m, rfl, M, q⟩ := h
    obtain ⟨G, Z, N, rfl, rfl, rfl⟩ := M.nat
    obtain ⟨ha, g1, g4, z1, z4, _, _⟩ := id M
    simp only [Int.toNat_natCast] at q
    have gz : G * Z ≤ 16 := Nat.mul_le_mul (show G ≤ 4 by omega) (show Z ≤ 4 by omega)
    have gz1 : 1 ≤ G * Z := Nat.mul_le_mul (show 1 ≤ G by omega) (show 1 ≤ Z by omega)
    refine ⟨_, (pss_cons (ps_set (i := 3) sc_needed.nd rfl (by first | exact Or.inl rfl | exact Or.inr rfl) (pe_callW0 D_data_places (by first | exact hr | exact hr.mono (by decide)) (pv 2)))
  (pss_one (ps_ret (pe_lc (own := [("at", 4), ("place", 5)]) (g := (gTup K 2 (gCons (gName 4) (gCons (gName 5) gNil)))) (by rfl) sc_needed.nd (pi_enum (by rfl) T.n_enumerate (pa_cons (pv 3) pa_nil)) (blkOk_by (own := [("at", 4), ("place", 5)]) (N := ["first", "behind", "shape", "data", "at", "place"]) (sc := defScope s_needed) (by decide +kernel)) (fun _ _ _ _ _ => (pg_tup rfl (pgs_cons (pg_name (i := 4) sc_needed.nd rfl (by first | exact Or.inl rfl | exact Or.inr rfl) (by first | exact Or.inr rfl | exact Or.inl rfl)) (pgs_cons (pg_name (i := 5) sc_needed.nd rfl (by first | exact Or.inl rfl | exact Or.inr rfl) (by first | exact Or.inr rfl | exact Or.inl rfl)) pgs_nil)))) (fun _ _ _ _ _ => (pts_one (pt_cmpR op_lt (pe_op op_add (pv 0) (pe_op op_mod (pe_op op_sub (pv 4) (pv 0)) (pe_callB (r := rLen K) call_len (by rfl) T.n_len (by decide +kernel) (pa_cons (pv 3) pa_nil)))) (pv 1) (nomark _)))) (fun _ _ _ _ _ => (pv 5)))))), ?_⟩
    refine ⟨_, rfl, rfl, a, G, Z, N, rfl, M, fun da H1 s1 nda eda => ?_⟩
    simp only [Int.toNat_natCast] at eda
    have lp : (placesL G Z).length = G * Z := by
      unfold placesL
      rw [List.length_map, List.length_range]
    refine ⟨_, rfl, _, _, rfl, SqL.of eda, fun D nD => ?_⟩
    refine lc_filt (fun t : Nat => V.int ((dp Z t : Nat) : Int)) (walk_enum (xs := (placesL G Z).map V.int)) (fun t => t) (fun t => decide (first + ((t : Int) - first) % ((G * Z : Nat) : Int) < behind)) nD (by rw [List.length_map, lp]; exact small1000' (by omega)) (fun H' s => s.seq (SqL.of eda)) ?_ ?_
    · intro t x H2 H3 R R' ht s2 y k1 k2
      obtain ⟨tu, x1, x2, rfl, ntu, rfl, ex1, ex2⟩ := y
      rw [List.length_map, lp] at ht
      cases ex1
      have ex2' : x2 = .int ((dp Z t : Nat) : Int) := by
        have := ex2
        unfold placesL at this
        simp only [List.getElem?_map, List.getElem?_range ht] at this
        exact (Option.some.inj this).symm
      subst ex2'
      have sn := Same.new (o := .tup [V.int (t : Int), .int ((dp Z t : Nat) : Int)]) ntu
      have eda3 := sn _ _ (s2 _ _ eda)
      refine ⟨_, _, rfl, SqT.of upd_same, rfl, _, _, rfl, _, _, rfl, rfl, rfl, ?_⟩
      refine ⟨_, rfl, _, rfl, _, rfl, _, _, rfl, rfl, _, rfl, _, _, rfl, .inl ⟨_, SqL.of eda3, rfl⟩, ?_⟩
      rw [List.length_map, lp]
      refine ⟨_, _, rfl, rfl, (by omega), _, _, rfl, rfl, _, rfl, _, _, rfl, rfl, _, rfl, iteD (fun h => ?_) fun h => ?_⟩
      · exact ⟨_, rfl, k1 _ sn (decide_eq_true h)⟩
      · exact k2 _ sn (decide_eq_false h)
    · intro H2 s2 e2
      rw [List.length_map, lp, List.map_id'] at e2
      refine q D H2 (Same.trans s1 s2) (Same.low s1 nD) ?_
      rw [e2]
      unfold neededL
      rw [List.map_map]
      rfl
theorem mod_sub_eq {t n : Nat} {w : Int} (hw : 0 < w) : ((t : Int) - (n : Int)) % w = 0 ↔ (t : Int) % w = (n : Int) % w := by
  rw [Int.sub_emod]
  constructor
  · intro h
    have h1 := Int.emod_nonneg (t : Int) (show w ≠ 0 by omega)
    have h2 := Int.emod_lt_of_pos (t : Int) hw
    have h3 := Int.emod_nonneg (n : Int) (show w ≠ 0 by omega)
    have h4 := Int.emod_lt_of_pos (n : Int) hw
    obtain ⟨k, hk⟩ := Int.dvd_of_emod_eq_zero h
    have : k = 0 := by
      rcases Int.lt_trichotomy k 0 with h5 | h5 | h5
      · have := Int.mul_le_mul_of_nonneg_left (show k ≤ -1 by omega) (show 0 ≤ w by omega)
        omega
      · exact h5
      · have := Int.mul_le_mul_of_nonneg_left (show 1 ≤ k by omega) (show 0 ≤ w by omega)
        omega
    rw [this, Int.mul_zero] at hk
    omega
  · intro h
    rw [h, Int.sub_self]
    rfl
/-- one number's data place -/
theorem needed_one {G Z n : Nat} (h : 1 ≤ G * Z) : neededL G Z (n : Int) ((n : Int) + 1) = [((dp Z (n % (G * Z)) : Nat) : Int)] := by
  have hl : n % (G * Z) < G * Z := Nat.mod_lt _ (by omega)
  have e : ((List.range (G * Z)).filter fun t : Nat => decide ((n : Int) + ((t : Int) - (n : Int)) % ((G * Z : Nat) : Int) < (n : Int) + 1)) = (List.range (G * Z)).filter fun t => t == n % (G * Z) := by
    refine List.filter_congr fun t ht => ?_
    have ht := List.mem_range.mp ht
    have h1 := Int.emod_nonneg ((t : Int) - (n : Int)) (show ((G * Z : Nat) : Int) ≠ 0 by omega)
    rw [Bool.eq_iff_iff, decide_eq_true_eq, beq_iff_eq]
    have := mod_sub_eq (t := t) (n := n) (w := ((G * Z : Nat) : Int)) (by omega)
    have e1 : (t : Int) % ((G * Z : Nat) : Int) = (t : Int) := by rw [← Int.natCast_emod, Nat.mod_eq_of_lt ht]
    have e2 : (n : Int) % ((G * Z : Nat) : Int) = ((n % (G * Z) : Nat) : Int) := by rw [Int.natCast_emod]
    rw [e1, e2] at this
    omega
  unfold neededL
  rw [e]
  have : (List.range (G * Z)).filter (fun t => t == n % (G * Z)) = [n % (G * Z)] := by
    have key : ∀ m k, k < m → (List.range m).filter (fun t => t == k) = [k] := fun m => by
      induction m with
      | zero => intro k h; omega
      | succ m ih =>
        intro k hk
        rw [List.range_succ, List.filter_append]
        by_cases hm : k = m
        · subst hm
          have : (List.range k).filter (fun t => t == k) = [] := List.filter_eq_nil_iff.mpr fun t ht => by
            have := List.mem_range.mp ht
            simp
            omega
          rw [this]
          simp
        · rw [ih k (by omega)]
          simp [Ne.symm hm]
    exact key _ _ hl
  rw [this]
  rfl
/-- from the first number on -/
theorem needed_from {G Z : Nat} (m : Nat) : neededL G Z 0 (m : Int) = ((List.range (G * Z)).filter fun t => decide (t < m)).map fun t => ((dp Z t : Nat) : Int) := by
  unfold neededL
  congr 1
  refine List.filter_congr fun t ht => ?_
  have ht := List.mem_range.mp ht
  have e1 : ((t : Int) - 0) % ((G * Z : Nat) : Int) = (t : Int) := by rw [Int.sub_zero, ← Int.natCast_emod, Nat.mod_eq_of_lt ht]
  rw [e1, Bool.eq_iff_iff, decide_eq_true_eq, decide_eq_true_eq]
  omega
mutual
/-- lists and tuples of at most a million members -/
def wide : PyData → Bool
  | .list xs | .tuple xs => decide (xs.length ≤ 1000000) && wideAll xs
  | .dict _ => false
  | .none | .bool _ | .int _ | .str _ => true
def wideAll : List PyData → Bool
  | [] => true
  | x :: xs => wide x && wideAll xs
end
theorem wideAll_get : ∀ {ds : List PyData} {i : Nat} {d : PyData}, wideAll ds = true → ds[i]? = some d → wide d = true
  | [], _, _, _, e => by simp at e
  | x :: xs, 0, d, h, e => by
    rw [wideAll, Bool.and_eq_true] at h
    simp at e
    exact e ▸ h.1
  | x :: xs, i + 1, d, h, e => by
    rw [wideAll, Bool.and_eq_true] at h
    exact wideAll_get h.2 (by simpa using e)
theorem wide_ints (xs : List Int) : wideAll (xs.map PyData.int) = true := by
  induction xs with
  | nil => rfl
  | cons x xs ih => rw [List.map_cons, wideAll, ih]; rfl
theorem depth_get : ∀ {ds : List PyData} {i : Nat} {d : PyData}, ds[i]? = some d → PyData.depth d ≤ PyData.depthAll ds
  | [], _, _, e => by simp at e
  | x :: xs, 0, d, e => by
    simp at e
    rw [PyData.depthAll, e]
    exact Nat.le_max_left _ _
  | x :: xs, i + 1, d, e => by
    rw [PyData.depthAll]
    exact Nat.le_trans (depth_get (ds := xs) (i := i) (by simpa using e)) (Nat.le_max_right _ _)
theorem dpAll_len {K : PySem.W.Frag} {H : Hp} : ∀ {xs : List V} {ds : List PyData}, DpAll K H xs ds → xs.length = ds.length
  | [], [], .nil => rfl
  | _ :: _, _ :: _, .cons _ t => by rw [List.length_cons, List.length_cons, dpAll_len t]
theorem dpAll_get {K : PySem.W.Frag} {H : Hp} : ∀ {xs : List V} {ds : List PyData}, DpAll K H xs ds → ∀ {i : Nat} {v : V}, xs[i]? = some v → ∃ d, ds[i]? = some d ∧ Dp K H v d
  | [], [], .nil, i, v, e => by simp at e
  | x :: xs, d :: ds, .cons h t, 0, v, e => by
    simp at e
    exact ⟨d, by simp, e ▸ h⟩
  | x :: xs, d :: ds, .cons h t, i + 1, v, e => by
    obtain ⟨d', e1, e2⟩ := dpAll_get t (i := i) (v := v) (by simpa using e)
    exact ⟨d', by simpa using e1, e2⟩
mutual
theorem dp_same {K : PySem.W.Frag} {H H' : Hp} (s : Same H H') : ∀ {v : V} {d : PyData}, Dp K H v d → Dp K H' v d
  | _, _, .non => .non
  | _, _, .bl b => .bl b
  | _, _, .int i => .int i
  | _, _, .str x => .str x
  | _, _, .lst h a => .lst (s.seq h) (dpAll_same s a)
  | _, _, .tup h a => .tup (Same.sqt s h) (dpAll_same s a)
theorem dpAll_same {K : PySem.W.Frag} {H H' : Hp} (s : Same H H') : ∀ {xs : List V} {ds : List PyData}, DpAll K H xs ds → DpAll K H' xs ds
  | _, _, .nil => .nil
  | _, _, .cons h t => .cons (dp_same s h) (dpAll_same s t)
end
def tyD : PyData → String
  | .none => "NoneType"
  | .bool _ => "bool"
  | .int _ => "int"
  | .str _ => "str"
  | .list _ => "list"
  | .tuple _ => "tuple"
  | .dict _ => "dict"
theorem Dp.ty {K : PySem.W.Frag} {H : Hp} {v : V} {d : PyData} (h : Dp K H v d) : Ty K H v (tyD d) := by
  cases h with
  | non => exact .non
  | bl b => exact .bl b
  | int i => exact .int i
  | str x => exact .str x
  | lst h _ => exact .lst h
  | tup h _ => exact .tup h
theorem kitAnyLT {K : PySem.W.Frag} {n : String} (h : n ∈ ["NoneType", "bool", "int", "str", "list", "tuple", "dict"]) : PySem.W.kitAny K (.type n) [.type "list", .type "tuple"] = some (n == "list" || n == "tuple") := by
  unfold PySem.W.kitAny
  rw [kit_ty (K := K) (kit_names (c := "list") (by decide) h)]
  unfold PySem.W.kitAny
  rw [kit_ty (K := K) (kit_names (c := "tuple") (by decide) h)]
  unfold PySem.W.kitAny
  simp only [List.mem_cons, List.not_mem_nil, or_false] at h
  rcases h with rfl | rfl | rfl | rfl | rfl | rfl | rfl <;> rfl
def spPurse (K : PySem.W.Frag) : Sp := fun vs H Q _ => ∃ (a : Addr) (ns : List Int) (k : Int), vs = [.ref a, .int k] ∧ SqL K H a (ns.map V.int) ∧ ns.length ≤ 1000 ∧ 0 ≤ k ∧ k ≤ 1000 ∧
  ∀ p x y, H p = none → 0 ≤ x → 0 ≤ y → y < 2 ^ 210 → Q (.ref p) (upd H p (.lst [.int x, .int y, .int 0]))
theorem ok_purse (T : Txt K mg) (F : At K mg "_law_purse" s__law_purse ["script", "k"]) : Dn P w K mg base CX0 1 "_law_purse" ["script", "k"] (spPurse K) := by
  refine F.ok sc__law_purse (fun vs H Q E h => ?_) (fun f cdv A outer s H vs Q E hr h => ?_)
  · obtain ⟨a, ns, k, rfl, _⟩ := h
    rfl
  · obtain ⟨a, ns, k, rfl, hS, hl, k0, k1, q⟩ := h
    have fin : ∀ cell : Int, ∀ p, H p = none → Q (.ref p) (upd H p (.lst [.int (if cell - 10 ^ (18 : Int).toNat > 0 then cell - 10 ^ (18 : Int).toNat else 0), .int (cell % (10 ^ (60 : Int).toNat + 7) + 611953 * k), .int 0])) := fun cell p hp => by
      have h1 : 0 ≤ cell % (10 ^ (60 : Int).toNat + 7) := Int.emod_nonneg _ (by decide)
      have h2 : cell % (10 ^ (60 : Int).toNat + 7) < 10 ^ (60 : Int).toNat + 7 := Int.emod_lt_of_pos _ (by decide)
      have h3 : (10 : Int) ^ (60 : Int).toNat + 7 + 611953 * 1000 < 2 ^ 210 := by decide
      refine q p _ _ hp ?_ ?_ ?_
      · split <;> omega
      · omega
      · omega
    refine ⟨_, (pss_cons (ps_set (i := 2) sc__law_purse.nd rfl (by first | exact Or.inl rfl | exact Or.inr rfl) pe_int)
  (pss_cons (ps_if (pt_cmpR op_lt (pv 1) (pe_callB (r := rLen K) call_len (by rfl) T.n_len (by decide +kernel) (pa_cons (pv 0) pa_nil)) (nomark _)) (pss_one (ps_set (i := 2) sc__law_purse.nd rfl (by first | exact Or.inl rfl | exact Or.inr rfl) (pe_ix (r := rIxL K) ix_list (pv 0) (pv 1) (fun _ _ => rfl)))) pss_nil)
  (pss_one (ps_ret (pe_lst (pa_cons (pe_callB (call_max2 rfl) (by rfl) T.n_max (by decide +kernel) (pa_cons pe_int (pa_cons (pe_op op_sub (pv 2) (pe_op op_pow pe_int pe_int)) pa_nil))) (pa_cons (pe_op op_add (pe_op op_mod (pv 2) (pe_op op_add (pe_op op_pow pe_int pe_int) pe_int)) (pe_op op_mul pe_int (pv 1))) (pa_cons pe_int pa_nil)))))))), ?_⟩
    walk_at "rd"
    refine ⟨_, _, rfl, .inl ⟨_, hS, rfl⟩, _, _, rfl, rfl, _, rfl, iteD (fun hk => ?_) fun _ => ?_⟩
    · obtain ⟨z, _, _, hz⟩ := at_ints (ns := ns) (k := k) k0 (by rw [List.length_map] at hk; exact hk)
      walk_at "rd"
      refine ⟨_, _, _, _, rfl, rfl, hS, hz, _, rfl, _, _, rfl, rfl, ⟨by decide, by decide, by decide⟩, _, _, rfl, rfl, _, _, rfl, _, rfl, _, _, rfl, rfl, ⟨by decide, by decide, by decide⟩, _, _, rfl, rfl, _, _, rfl, rfl, (by show (0 : Int) < _; decide), _, rfl, _, _, rfl, rfl, .inl ⟨by decide, by decide⟩, _, _, rfl, rfl, (by show 3 ≤ sizeLine; decide), fun p hp => fin z p hp⟩
    · refine ⟨_, rfl, _, _, rfl, rfl, ⟨by decide, by decide, by decide⟩, _, _, rfl, rfl, _, _, rfl, _, rfl, _, _, rfl, rfl, ⟨by decide, by decide, by decide⟩, _, _, rfl, rfl, _, _, rfl, rfl, (by show (0 : Int) < _; decide), _, rfl, _, _, rfl, rfl, .inl ⟨by decide, by decide⟩, _, _, rfl, rfl, (by show 3 ≤ sizeLine; decide), fun p hp => fin 0 p hp⟩
/-- a purse at p, of which at most c turns are taken -/
def Purse (H : Hp) (p : Addr) (c : Int) : Prop := ∃ x y z : Int, H p = some (.lst [.int x, .int y, .int z]) ∧ 0 ≤ x ∧ 0 ≤ y ∧ y < 2 ^ 210 ∧ 0 ≤ z ∧ z ≤ c
theorem Purse.mono {H : Hp} {p : Addr} {c d : Int} (h : Purse H p c) (l : c ≤ d) : Purse H p d := by
  obtain ⟨x, y, z, h1, h2, h3, h4, h5, h6⟩ := h
  exact ⟨x, y, z, h1, h2, h3, h4, h5, by omega⟩
theorem Purse.same {H H' : Hp} {p : Addr} {c : Int} (h : Purse H p c) (s : Same H H') : Purse H' p c := by
  obtain ⟨x, y, z, h1, h2⟩ := h
  exact ⟨x, y, z, s _ _ h1, h2⟩
/-- a draw: any number below many -/
def spDrawn : Sp := fun vs H Q _ => ∃ (p : Addr) (c many : Int), vs = [.ref p, .int many] ∧ Purse H p c ∧ c ≤ 100000 ∧ 0 < many ∧ many < 2 ^ 200 ∧
  ∀ v H', 0 ≤ v → v < many → Purse H' p (c + 1) → Kp p H H' → Q (.int v) H'
theorem ok_drawn (F : At K mg "_law_drawn" s__law_drawn ["purse", "many"]) : Dn P w K mg base CX0 1 "_law_drawn" ["purse", "many"] spDrawn := by
  refine F.ok sc__law_drawn (fun vs H Q E h => ?_) (fun f cdv A outer s H vs Q E hr h => ?_)
  · obtain ⟨p, c, many, rfl, _⟩ := h
    rfl
  · obtain ⟨p, c, many, rfl, ⟨x, y, z, hp, x0, y0, y1, z0, zc⟩, c1, m0, m1, q⟩ := h
    refine ⟨_, (pss_cons (ps_if (pt_cmpR op_gt (pe_ix (r := rIxL K) ix_list (pv 0) pe_int (fun _ _ => rfl)) pe_int (nomark _)) (pss_cons (ps_set (i := 2) sc__law_drawn.nd rfl (by first | exact Or.inl rfl | exact Or.inr rfl) (pe_op op_mod (pe_ix (r := rIxL K) ix_list (pv 0) pe_int (fun _ _ => rfl)) (pv 1)))
  (pss_cons (ps_asg (pe_op op_fdivW (pe_ix (r := rIxL K) ix_list (pv 0) pe_int (fun _ _ => rfl)) (pv 1)) (pg_sub (pv 0) pe_int set_list))
  (pss_one (ps_ret (pv 2))))) pss_nil)
  (pss_cons (ps_set (i := 3) sc__law_drawn.nd rfl (by first | exact Or.inl rfl | exact Or.inr rfl) (pe_op op_add (pe_ix (r := rIxL K) ix_list (pv 0) pe_int (fun _ _ => rfl)) pe_int))
  (pss_cons (ps_asg (pv 3) (pg_sub (pv 0) pe_int set_list))
  (pss_cons (ps_set (i := 4) sc__law_drawn.nd rfl (by first | exact Or.inl rfl | exact Or.inr rfl) (pe_op op_mod (pe_op op_powW (pe_op op_add (pe_op op_add (pe_ix (r := rIxL K) ix_list (pv 0) pe_int (fun _ _ => rfl)) (pe_op op_mul (pe_op op_mul pe_int (pv 3)) (pv 3))) (pe_op op_mul pe_int (pv 3))) pe_int) (pe_op op_add (pe_op op_pow pe_int pe_int) pe_int)))
  (pss_cons (ps_set (i := 4) sc__law_drawn.nd rfl (by first | exact Or.inl rfl | exact Or.inr rfl) (pe_op op_mod (pe_op op_powW (pe_op op_add (pv 4) (pe_op op_mul pe_int (pv 3))) pe_int) (pe_op op_add (pe_op op_pow pe_int pe_int) pe_int)))
  (pss_one (ps_ret (pe_op op_mod (pe_op op_fdiv (pv 4) pe_int) (pv 1))))))))), ?_⟩
    refine ⟨_, rfl, _, _, _, _, rfl, rfl, SqL.of hp, rfl, _, _, rfl, rfl, _, rfl, iteD (fun hx => ?_) fun hx => ?_⟩
    · refine ⟨_, rfl, _, _, _, _, rfl, rfl, SqL.of hp, rfl, _, rfl, _, _, rfl, rfl, m0, ?_⟩
      refine ⟨_, rfl, _, _, _, _, rfl, rfl, SqL.of hp, rfl, _, rfl, _, _, rfl, rfl, wide_div m0 (b := 200) (by omega) (by decide) (by decide), ?_⟩
      refine ⟨_, rfl, _, _, _, 0, rfl, rfl, hp, rfl, _, rfl, ?_⟩
      refine q _ _ (Int.emod_nonneg _ (by omega)) (Int.emod_lt_of_pos _ m0) ⟨_, y, z, upd_same, Int.ediv_nonneg x0 (by omega), y0, y1, z0, by omega⟩ Kp.put
    · have t0 : 0 ≤ z + 1 := by omega
      have t1 : z + 1 ≤ 100001 := by omega
      refine ⟨_, rfl, _, _, _, _, rfl, rfl, SqL.of hp, rfl, _, _, rfl, rfl, _, rfl, _, rfl, _, _, _, 2, rfl, rfl, hp, rfl, ?_⟩
      refine ⟨_, rfl, _, _, _, _, rfl, rfl, SqL.of upd_same, rfl, _, rfl, _, _, rfl, rfl, .inl ⟨by decide, by decide⟩, _, rfl, _, _, rfl, rfl, .inl ⟨by omega, by omega⟩, _, _, rfl, rfl, _, rfl, _, _, rfl, rfl, .inl ⟨by decide, by decide⟩, _, _, rfl, rfl, ?_⟩
      have b1 : (15485863 * (z + 1)) * (z + 1) ≤ 15485863 * 100001 * 100001 := Int.mul_le_mul (by omega) t1 t0 (by omega)
      have b0 : 0 ≤ (15485863 * (z + 1)) * (z + 1) := Int.mul_nonneg (by omega) t0
      refine ⟨_, _, rfl, rfl, CPowW.mk (a := 220) (n := 5) ?_ (by decide) (by decide), _, _, rfl, rfl, ⟨by decide, by decide, by decide⟩, _, _, rfl, rfl, _, _, rfl, rfl, (by show (0 : Int) < _; decide), ?_⟩
      · have e : (2 : Int) ^ 210 + 15485863 * 100001 * 100001 + 32452843 * 100001 < 2 ^ 220 := by decide
        have e2 : ((2 : Nat) ^ 220 : Nat) = (2 ^ 220 : Nat) := rfl
        omega
      generalize hm : ((y + 15485863 * (z + 1) * (z + 1) + 32452843 * (z + 1)) ^ (5 : Int).toNat % (10 ^ (18 : Int).toNat + 9) : Int) = m
      have m2 : 0 ≤ m := by rw [← hm]; exact Int.emod_nonneg _ (by decide)
      have m3 : m < 10 ^ (18 : Int).toNat + 9 := by rw [← hm]; exact Int.emod_lt_of_pos _ (by decide)
      refine ⟨_, rfl, _, rfl, _, _, rfl, rfl, .inl ⟨by decide, by decide⟩, _, _, rfl, rfl, _, _, rfl, rfl, CPowW.mk (a := 220) (n := 5) ?_ (by decide) (by decide), _, _, rfl, rfl, ⟨by decide, by decide, by decide⟩, _, _, rfl, rfl, _, _, rfl, rfl, (by show (0 : Int) < _; decide), ?_⟩
      · have e : (10 : Int) ^ (18 : Int).toNat + 9 + 49979687 * 100001 < 2 ^ 220 := by decide
        omega
      refine ⟨_, rfl, _, _, rfl, rfl, ⟨by decide, by decide⟩, _, rfl, _, _, rfl, rfl, m0, ?_⟩
      refine q _ _ (Int.emod_nonneg _ (by omega)) (Int.emod_lt_of_pos _ m0) ⟨x, y, z + 1, upd_same, x0, y0, y1, by omega, by omega⟩ Kp.put
/-- a tuple that is a shape of at most most places -/
def Good (most : Int) (H : Hp) (a : Addr) : Prop := ∃ g s m : Int, H a = some (.tup [.int g, .int s, .int m]) ∧ 1 ≤ g ∧ g ≤ 4 ∧ 1 ≤ s ∧ s ≤ 4 ∧ 0 ≤ m ∧ m ≤ 2 ∧ manyZ g s m ≤ most
theorem Good.same {most : Int} {H H' : Hp} {a : Addr} (h : Good most H a) (e : Same H H') : Good most H' a := by
  obtain ⟨g, s, m, e1, r⟩ := h
  exact ⟨g, s, m, e _ _ e1, r⟩
theorem Good.put {most : Int} {H : Hp} {a D : Addr} {xs : List V} {o : HO} (h : Good most H a) (e : H D = some (.lst xs)) : Good most (upd H D o) a := by
  obtain ⟨g, s, m, e1, r⟩ := h
  refine ⟨g, s, m, ?_, r⟩
  rw [upd_ne fun z => by rw [z, e] at e1; cases e1]
  exact e1
def spMould (K : PySem.W.Frag) : Sp := fun vs H Q _ => ∃ (p : Addr) (c most : Int), vs = [.ref p, .int most] ∧ Purse H p c ∧ c ≤ 100000 ∧ 2 ≤ most ∧
  ∀ a g s m H', Mould K H' a g s m → manyZ g s m ≤ most → Purse H' p (c + 1) → Kp p H H' → H a = none → Q (.ref a) H'
theorem ok_law_shape (T : Txt K mg) (D__law_drawn : Dn P w K mg base CX0 1 "_law_drawn" ["purse", "many"] spDrawn) (F : At K mg "_law_shape" s__law_shape ["purse", "most"]) : Dn P w K mg base CX0 2 "_law_shape" ["purse", "most"] (spMould K) := by
  refine F.ok sc__law_shape (fun vs H Q E h => ?_) (fun f cdv A outer s H vs Q E hr h => ?_)
  · obtain ⟨p, c, most, rfl, _⟩ := h
    rfl
  · obtain ⟨p, c, most, rfl, hp, c1, l0, q⟩ := h
    refine ⟨_, (pss_cons (ps_set (i := 2) sc__law_shape.nd rfl (by first | exact Or.inl rfl | exact Or.inr rfl) (pe_lst pa_nil))
  (pss_cons (ps_for PassesOwn.never rfl (pi_range2 (by rfl) T.n_range (pa_cons pe_int (pa_cons pe_int pa_nil))) (pg_name (i := 3) sc__law_shape.nd rfl (by first | exact Or.inl rfl | exact Or.inr rfl))
  (pss_one (ps_for PassesOwn.never rfl (pi_range2 (by rfl) T.n_range (pa_cons pe_int (pa_cons pe_int pa_nil))) (pg_name (i := 4) sc__law_shape.nd rfl (by first | exact Or.inl rfl | exact Or.inr rfl))
  (pss_one (ps_expr (pe_bmK K PySem.F.plainAttrs_list PySem.F.slot_list_extend PySem.F.type_list_extend mt_extend (pv 2) (pa_cons (pe_lc (own := [("sums", 5)]) (g := (gName 5)) (by rfl) sc__law_shape.nd (pi_range1 (by rfl) T.n_range (pa_cons pe_int pa_nil)) (blkOk_by (own := [("sums", 5)]) (N := ["purse", "most", "found", "groups", "size", "sums"]) (sc := defScope s__law_shape) (by decide +kernel)) (fun _ _ _ _ _ => (pg_name (i := 5) sc__law_shape.nd rfl (by first | exact Or.inl rfl | exact Or.inr rfl) (by first | exact Or.inr rfl | exact Or.inl rfl))) (fun _ _ _ _ _ => (pts_one (pt_cmpR op_le (pe_op op_add (pe_op op_mul (pv 3) (pe_op op_add (pv 4) pe_int)) (pv 5)) (pv 1) (nomark _)))) (fun _ _ _ _ _ => (pe_tup (pa_cons (pv 3) (pa_cons (pv 4) (pa_cons (pv 5) pa_nil)))))) pa_nil)))))))
  (pss_one (ps_ret (pe_ix (r := rIxL K) ix_list (pv 2) (pe_callD D__law_drawn (by first | exact hr | exact hr.mono (by decide)) (pa_cons (pv 0) (pa_cons (pe_callB (r := rLen K) call_len (by rfl) T.n_len (by decide +kernel) (pa_cons (pv 2) pa_nil)) pa_nil))) (fun _ _ => rfl)))))), ?_⟩
    refine ⟨(by show 0 ≤ sizeLine; decide), fun D nD => ?_⟩
    have pD : p ≠ D := fun e => by
      obtain ⟨_, _, _, e1, _⟩ := hp
      rw [e, nD] at e1
      cases e1
    refine ⟨_, _, rfl, ⟨by decide, by decide, by decide, by decide⟩, ?_⟩
    refine for_range (fun i σ H' => ∃ v3 v4 v5, σ = [some (.ref p), some (.int most), some (.ref D), v3, v4, v5] ∧ Same H H' ∧ ∃ as : List Addr, H' D = some (.lst (as.map V.ref)) ∧ as.length ≤ 12 * i ∧ (0 < i → as ≠ []) ∧ ∀ a ∈ as, Good most H' a ∧ H a = none)
      ⟨none, none, none, rfl, Same.new nD, [], upd_same, by decide, fun h => absurd h (by decide), fun _ h => by cases h⟩ ?_ ?_
    · rintro i σ H1 hi ⟨v3, v4, v5, rfl, p1, as, p2, p3, p4, p5⟩
      refine ⟨_, _, rfl, ⟨by decide, by decide, by decide, by decide⟩, ?_⟩
      refine for_range (fun j σ H' => ∃ v4 v5, σ = [some (.ref p), some (.int most), some (.ref D), some (.int (1 + (i : Int))), v4, v5] ∧ Same H H' ∧ ∃ as : List Addr, H' D = some (.lst (as.map V.ref)) ∧ as.length ≤ 12 * i + 3 * j ∧ (0 < i ∨ 0 < j → as ≠ []) ∧ ∀ a ∈ as, Good most H' a ∧ H a = none)
        ⟨v4, v5, rfl, p1, as, p2, by omega, fun h => p4 (by omega), p5⟩ ?_ ?_
      · rintro j σ H2 hj ⟨v4, v5, rfl, p1, as, p2, p3, p4, p5⟩
        refine ⟨_, rfl, .inl ⟨rfl, _, SqL.of p2⟩, ?_⟩
        refine ⟨_, rfl, by decide, by decide, fun d nd => ?_⟩
        refine lc_it walk_range (fun k H' => Same H2 H' ∧ ∃ bs : List Addr, H' d = some (.lst (bs.map V.ref)) ∧ bs.length ≤ k ∧ (0 < k → i = 0 → j = 0 → bs ≠ []) ∧ ∀ a ∈ bs, Good most H' a ∧ H2 a = none) ⟨Same.new nd, [], upd_same, by decide, fun h => absurd h (by decide), fun _ h => by cases h⟩ (fun _ _ _ _ => trivial) ?_ ?_
        · intro k x H' H3 hk pp y
          obtain ⟨rfl, rfl⟩ := y
          obtain ⟨q1, bs, q2, q3, q4, q5⟩ := pp
          have nb : ∀ {t : Addr}, H3 t = none → H2 t = none := fun {t} n => by
            cases h : H2 t with
            | none => rfl
            | some o => rw [q1 _ _ h] at n; cases n
          refine ⟨rfl, _, rfl, _, rfl, _, _, rfl, rfl, _, _, rfl, rfl, .inl ⟨by omega, by omega⟩, _, rfl, _, _, rfl, rfl, _, rfl, _, _, rfl, rfl, _, rfl, iteD (fun hle => ?_) fun hgt => ?_⟩
          · refine ⟨_, rfl, _, rfl, _, rfl, (by show 3 ≤ sizeLine; decide), fun t nt => ?_⟩
            have s3 := Same.new (o := .tup [.int (1 + (i : Int)), .int (1 + (j : Int)), .int (0 + (k : Int))]) nt
            have td : d ≠ t := fun e => by rw [e] at q2; rw [q2] at nt; cases nt
            have ed : upd H3 t (.tup [.int (1 + (i : Int)), .int (1 + (j : Int)), .int (0 + (k : Int))]) d = some (.lst (bs.map V.ref)) := s3 _ _ q2
            refine ⟨_, ed, ?_, fun b o e => ?_, bs ++ [t], by rw [upd_same, List.map_append]; rfl, by rw [List.length_append, List.length_singleton]; omega, fun _ _ _ => by simp, fun a ha => ?_⟩
            · rw [List.length_map]
              exact Nat.lt_of_lt_of_le (m := 1000) (by omega) (by decide)
            · rw [upd_ne (ne_of_none e nd)]
              exact s3 _ _ (q1 _ _ e)
            · rcases List.mem_append.mp ha with ha | ha
              · exact ⟨((q5 a ha).1.same s3).put ed, (q5 a ha).2⟩
              · rw [List.mem_singleton.mp ha]
                refine ⟨⟨1 + (i : Int), 1 + (j : Int), 0 + (k : Int), ?_, by omega, by omega, by omega, by omega, by omega, by omega, hle⟩, nb nt⟩
                rw [upd_ne (Ne.symm td)]
                exact upd_same
          · refine ⟨q1, bs, q2, by omega, fun _ i0 j0 => ?_, q5⟩
            subst i0 j0
            by_cases k0 : k = 0
            · subst k0
              exfalso
              apply hgt
              show _ ≤ _
              omega
            · exact q4 (by omega) rfl rfl
        · intro H3 pp
          obtain ⟨q1, bs, q2, q3, q4, q5⟩ := pp
          have s2 : (3 : Int).toNat = 3 := rfl
          rw [s2] at q3
          refine ⟨_, _, _, _, rfl, rfl, q1 _ _ p2, q2, ?_, _, v5, rfl, fun b o e => ?_, as ++ bs, by rw [upd_same, List.map_append], ?_, fun _ => ?_, fun a ha => ?_⟩
          · rw [List.length_map, List.length_map]
            exact Nat.le_trans (m := 1000) (by omega) (by decide)
          · rw [upd_ne (ne_of_none e nD)]
            exact q1 _ _ (p1 _ _ e)
          · rw [List.length_append]
            omega
          · intro e
            obtain ⟨e1, e2⟩ := List.append_eq_nil_iff.mp e
            by_cases h : 0 < i ∨ 0 < j
            · exact p4 h e1
            · exact q4 (by decide) (by omega) (by omega) e2
          · rcases List.mem_append.mp ha with ha | ha
            · exact ⟨((p5 a ha).1.same q1).put (q1 _ _ p2), (p5 a ha).2⟩
            · refine ⟨(q5 a ha).1.put (q1 _ _ p2), ?_⟩
              cases h : H a with
              | none => rfl
              | some o => have z := (q5 a ha).2; rw [p1 _ _ h] at z; cases z
      · rintro σ H2 ⟨v4, v5, rfl, p1, as, p2, p3, p4, p5⟩
        exact ⟨_, _, _, rfl, p1, as, p2, by omega, fun _ => p4 (.inr (by decide)), p5⟩
    · rintro σ H1 ⟨v3, v4, v5, rfl, p1, as, p2, p3, p4, p5⟩
      have n0 : as ≠ [] := p4 (by decide)
      have l0' : 0 < as.length := by
        cases as with
        | nil => exact absurd rfl n0
        | cons x y => simp
      have lt200 : ((as.length : Nat) : Int) < 2 ^ 200 := by
        have h4 : (5 - 1 : Int).toNat = 4 := rfl
        rw [h4] at p3
        have : (48 : Int) < 2 ^ 200 := by decide
        omega
      refine ⟨_, rfl, _, rfl, _, rfl, _, _, rfl, .inl ⟨_, SqL.of p2, rfl⟩, p, c, _, rfl, hp.same p1, c1, by rw [List.length_map]; omega, by rw [List.length_map]; exact lt200, fun v H2 v0 v1 hp2 k2 => ?_⟩
      rw [List.length_map] at v1
      have hv : v.toNat < as.length := by omega
      have ha : as[v.toNat] ∈ as := List.getElem_mem _
      obtain ⟨g, z, m, e, g1, g4, s1, s4, m0, m2, hm⟩ := (p5 _ ha).1
      have eD := k2 _ _ p2 (Ne.symm pD)
      have ea : H2 as[v.toNat] = some (.tup [.int g, .int z, .int m]) := k2 _ _ e fun z => by
        obtain ⟨_, _, _, e1, _⟩ := hp
        have := (p5 _ ha).2
        rw [z] at this
        rw [this] at e1
        cases e1
      have hat : atI (as.map V.ref) v = some (.ref as[v.toNat]) := by
        obtain ⟨n, rfl⟩ : ∃ n : Nat, v = (n : Int) := ⟨v.toNat, by omega⟩
        refine atI_nat ?_
        rw [List.getElem?_map, List.getElem?_eq_getElem (by simpa using hv)]
        rfl
      refine ⟨_, _, _, _, rfl, rfl, SqL.of eD, hat, ?_⟩
      exact q _ g z m H2 ⟨SqT.of ea, g1, g4, s1, s4, m0, m2⟩ hm hp2 ((Kp.of p1).trans k2) (p5 _ ha).2
-- F
def spData (K : PySem.W.Frag) : Sp := fun vs H Q _ => ∃ (p : Addr) (c wide : Int), vs = [.ref p, .int wide] ∧ Purse H p c ∧ c ≤ 50000 ∧ 0 ≤ wide ∧ wide ≤ 100 ∧
  ∀ (ds : List Int) r H', ds.length = wide.toNat → (∀ d ∈ ds, 0 ≤ d ∧ d ≤ 96) → H' r = some (.lst (ds.map V.int)) → H r = none → Kp p H H' → Purse H' p (c + 1 + 2 * wide) → Q (.ref r) H'
theorem Purse.ne {H : Hp} {p D : Addr} {c : Int} (h : Purse H p c) (n : H D = none) : p ≠ D := fun e => by
  obtain ⟨_, _, _, e1, _⟩ := h
  rw [e, n] at e1
  cases e1
theorem canLay_app : ∀ (a b : List PyData), PyData.canLayAll0 (a ++ b) = (PyData.canLayAll0 a && PyData.canLayAll0 b)
  | [], b => by rw [List.nil_append, PyData.canLayAll0, Bool.true_and]
  | x :: a, b => by rw [List.cons_append, PyData.canLayAll0, canLay_app a b, PyData.canLayAll0, Bool.and_assoc]
/-- plain data of depth at most k, p not among it -/
def Pv (K : PySem.W.Frag) (p : Addr) (H : Hp) (k : Nat) (v : V) : Prop := ∃ d, Dp K (cutP p H) v d ∧ PyData.canLay0 d = true ∧ PyData.depth d ≤ k
theorem Pv.kp {K : PySem.W.Frag} {p : Addr} {H H' : Hp} {k : Nat} {v : V} (h : Pv K p H k v) (s : Kp p H H') : Pv K p H' k v := by
  obtain ⟨d, h1, h2⟩ := h
  exact ⟨d, dp_same s.cut h1, h2⟩
theorem Pv.mono {K : PySem.W.Frag} {p : Addr} {H : Hp} {k m : Nat} {v : V} (h : Pv K p H k v) (l : k ≤ m) : Pv K p H m v := by
  obtain ⟨d, h1, h2, h3⟩ := h
  exact ⟨d, h1, h2, Nat.le_trans h3 l⟩
theorem Pv.int {K : PySem.W.Frag} {p : Addr} {H : Hp} (i : Int) : Pv K p H 0 (.int i) := ⟨_, .int i, rfl, Nat.le_refl 0⟩
theorem Pv.bl {K : PySem.W.Frag} {p : Addr} {H : Hp} (i : Bool) : Pv K p H 0 (.bl i) := ⟨_, .bl i, rfl, Nat.le_refl 0⟩
theorem Pv.non {K : PySem.W.Frag} {p : Addr} {H : Hp} : Pv K p H 0 .non := ⟨_, .non, rfl, Nat.le_refl 0⟩
theorem Pv.str {K : PySem.W.Frag} {p : Addr} {H : Hp} (x : Str) (h : PyData.strOk x = true) : Pv K p H 0 (.str x) := ⟨_, .str x, h, Nat.le_refl 0⟩
theorem Pv.ty {K : PySem.W.Frag} {p : Addr} {H : Hp} {k : Nat} {v : V} (h : Pv K p H k v) : ∃ n, Ty K H v n := by
  obtain ⟨d, h1, _⟩ := h
  exact ⟨_, (Dp.ty h1).same (cutP_same p H)⟩
/-- all of a list are plain -/
theorem Pv.all {K : PySem.W.Frag} {p : Addr} {H : Hp} {k : Nat} : ∀ {xs : List V}, (∀ x ∈ xs, Pv K p H k x) → ∃ ds, DpAll K (cutP p H) xs ds ∧ PyData.canLayAll0 ds = true ∧ PyData.depthAll ds ≤ k
  | [], _ => ⟨[], .nil, rfl, Nat.zero_le _⟩
  | x :: xs, h => by
    obtain ⟨d, h1, h2, h3⟩ := h x (List.mem_cons_self ..)
    obtain ⟨ds, e1, e2, e3⟩ := Pv.all (xs := xs) fun y hy => h y (List.mem_cons_of_mem _ hy)
    exact ⟨d :: ds, .cons h1 e1, by rw [PyData.canLayAll0, h2, e2]; rfl, by rw [PyData.depthAll]; exact Nat.max_le.mpr ⟨h3, e3⟩⟩
theorem Pv.lst {K : PySem.W.Frag} {p a : Addr} {H : Hp} {k : Nat} {xs : List V} (h : SqL K (cutP p H) a xs) (m : ∀ x ∈ xs, Pv K p H k x) : Pv K p H (k + 1) (.ref a) := by
  obtain ⟨ds, e1, e2, e3⟩ := Pv.all m
  exact ⟨.list ds, .lst h e1, e2, by rw [PyData.depth]; omega⟩
theorem Pv.tup {K : PySem.W.Frag} {p a : Addr} {H : Hp} {k : Nat} {xs : List V} (h : SqT K (cutP p H) a xs) (m : ∀ x ∈ xs, Pv K p H k x) : Pv K p H (k + 1) (.ref a) := by
  obtain ⟨ds, e1, e2, e3⟩ := Pv.all m
  exact ⟨.tuple ds, .tup h e1, e2, by rw [PyData.depth]; omega⟩
theorem sh_of {k : Nat} {d : PyData} (h : PyData.canLay0 d = true) (l : PyData.depth d ≤ k) (hk : k ≤ 64) : SeqAt.shaped d = true := by
  unfold SeqAt.shaped
  rw [h, decide_eq_true (by omega)]
  rfl
/-- a thing: a list of at most n plain members, or something else -/
def Th (K : PySem.W.Frag) (p : Addr) (H : Hp) (k n : Nat) (v : V) : Prop :=
  (∃ a xs, v = .ref a ∧ SqL K (cutP p H) a xs ∧ xs.length ≤ n ∧ ∀ x ∈ xs, Pv K p H k x) ∨
  (∃ t, Ty K (cutP p H) v t ∧ t ≠ "list" ∧ (Pv K p H k v ∨ ∃ a, v = .ref a ∧ cutP p H a = some (.dK [])))
theorem Th.kp {K : PySem.W.Frag} {p : Addr} {H H' : Hp} {k n : Nat} {v : V} (h : Th K p H k n v) (s : Kp p H H') : Th K p H' k n v := by
  rcases h with ⟨a, xs, rfl, h1, h2, h3⟩ | ⟨t, h1, h2, h3⟩
  · exact .inl ⟨a, xs, rfl, s.cut.seq h1, h2, fun x hx => (h3 x hx).kp s⟩
  · refine .inr ⟨t, h1.same s.cut, h2, ?_⟩
    rcases h3 with h3 | ⟨a, rfl, e⟩
    · exact .inl (h3.kp s)
    · exact .inr ⟨a, rfl, s.cut _ _ e⟩
theorem Th.mono {K : PySem.W.Frag} {p : Addr} {H : Hp} {k n k' n' : Nat} {v : V} (h : Th K p H k n v) (l : k ≤ k') (m : n ≤ n') : Th K p H k' n' v := by
  rcases h with ⟨a, xs, rfl, h1, h2, h3⟩ | ⟨t, h1, h2, h3⟩
  · exact .inl ⟨a, xs, rfl, h1, Nat.le_trans h2 m, fun x hx => (h3 x hx).mono l⟩
  · refine .inr ⟨t, h1, h2, ?_⟩
    rcases h3 with h3 | h3
    · exact .inl (h3.mono l)
    · exact .inr h3
theorem Th.of_int {K : PySem.W.Frag} {p : Addr} {H : Hp} {k n : Nat} (i : Int) : Th K p H k n (.int i) := .inr ⟨_, .int i, by decide, .inl ((Pv.int i).mono (Nat.zero_le _))⟩
theorem Th.of_non {K : PySem.W.Frag} {p : Addr} {H : Hp} {k n : Nat} : Th K p H k n .non := .inr ⟨_, .non, by decide, .inl (Pv.non.mono (Nat.zero_le _))⟩
theorem Th.of_bl {K : PySem.W.Frag} {p : Addr} {H : Hp} {k n : Nat} (b : Bool) : Th K p H k n (.bl b) := .inr ⟨_, .bl b, by decide, .inl ((Pv.bl b).mono (Nat.zero_le _))⟩
theorem Th.of_str {K : PySem.W.Frag} {p : Addr} {H : Hp} {k n : Nat} (x : Str) (h : PyData.strOk x = true) : Th K p H k n (.str x) := .inr ⟨_, .str x, by decide, .inl ((Pv.str x h).mono (Nat.zero_le _))⟩
theorem Th.of_tup {K : PySem.W.Frag} {p a : Addr} {H : Hp} {k n : Nat} {xs : List V} (h : SqT K (cutP p H) a xs) (m : ∀ x ∈ xs, Pv K p H k x) : Th K p H (k + 1) n (.ref a) := .inr ⟨_, .tup h, by decide, .inl (Pv.tup h m)⟩
theorem Th.of_dict {K : PySem.W.Frag} {p a : Addr} {H : Hp} {k n : Nat} (h : cutP p H a = some (.dK [])) : Th K p H k n (.ref a) := .inr ⟨_, .dK h, by decide, .inr ⟨a, rfl, h⟩⟩
theorem Th.of_lst {K : PySem.W.Frag} {p a : Addr} {H : Hp} {k n : Nat} {xs : List V} (h : SqL K (cutP p H) a xs) (l : xs.length ≤ n) (m : ∀ x ∈ xs, Pv K p H k x) : Th K p H k n (.ref a) := .inl ⟨a, xs, rfl, h, l, m⟩
theorem cut_mem {xs : List V} {lo hi : Option Int} {x : V} (h : x ∈ cutV xs lo hi) : x ∈ xs := List.mem_of_mem_drop (List.mem_of_mem_take h)
theorem cut_len (xs : List V) (lo hi : Option Int) : (cutV xs lo hi).length ≤ xs.length := by
  unfold cutV
  rw [List.length_take, List.length_drop]
  omega
theorem at_mem {xs : List V} {v : Int} (h0 : 0 ≤ v) (h1 : v < xs.length) : ∃ x, x ∈ xs ∧ atI xs v = some x := by
  obtain ⟨n, rfl⟩ : ∃ n : Nat, v = n := ⟨v.toNat, by omega⟩
  have h : n < xs.length := by omega
  exact ⟨xs[n], List.getElem_mem h, atI_nat (List.getElem?_eq_getElem h)⟩
/-- all refs of a list are others than p -/
theorem ne_new {H : Hp} {p a : Addr} {u : HO} (e : H p = some u) (n : H a = none) : a ≠ p := fun z => by rw [z, e] at n; cases n
theorem cut_sqt {K : PySem.W.Frag} {H : Hp} {p a : Addr} {xs : List V} (h : SqT K H a xs) (n : a ≠ p) : SqT K (cutP p H) a xs := by
  rcases h with (h | ⟨o, h⟩) | h
  · exact .inl (.inl (cutP_of h n))
  · exact .inl (.inr ⟨o, cutP_of h n⟩)
  · exact .inr h
theorem Mould.kp {K : PySem.W.Frag} {H H' : Hp} {a p : Addr} {g s m : Int} (h : Mould K H a g s m) (n : a ≠ p) (k : Kp p H H') : Mould K H' a g s m := ⟨Same.sqt (cutP_same p H') (Same.sqt k.cut (cut_sqt h.1 n)), h.2⟩
def spClasses (K : PySem.W.Frag) (x : Str) : Sp := fun vs H Q _ => ∃ (a : Addr) (d : Option Addr), vs = [.ref a] ∧ H a = some (exh a (.ref (He.ga K x)) d) ∧ DOk H d ∧ ∀ r H', Same H H' → H' r = some (.lst [.str x, .str "Sherd", .str "Value"]) → Q (.ref r) H'
theorem ok_classes_NoShape (T : Txt K mg) (C : ExcC K (He.ga K "NoShape")) (F : At K mg "_law_classes" s__law_classes ["caught"]) : Dn P w K mg base CX0 1 "_law_classes" ["caught"] (spClasses K "NoShape") := by
  refine F.ok sc__law_classes (fun vs H Q E h => ?_) (fun f cdv A outer s H vs Q E hr h => ?_)
  · obtain ⟨a, d, rfl, _⟩ := h
    rfl
  · obtain ⟨a, d, rfl, ea, dk, q⟩ := h
    refine ⟨_, (pss_cons (ps_set (i := 1) sc__law_classes.nd rfl (by first | exact Or.inl rfl | exact Or.inr rfl) (pe_lst (pa_cons (pe_tup (pa_cons pe_str (pa_cons (pe_callB (r := rIsX K) call_isX (by rfl) T.n_isinstance (by decide +kernel) (pa_cons (pv 0) (pa_cons (pe_glob (v := .ref (He.ga K "NoRest")) rfl T.g_NoRest (by exact rfl)) pa_nil))) pa_nil))) (pa_cons (pe_tup (pa_cons pe_str (pa_cons (pe_callB (r := rIsX K) call_isX (by rfl) T.n_isinstance (by decide +kernel) (pa_cons (pv 0) (pa_cons (pe_glob (v := .ref (He.ga K "NoShape")) rfl T.g_NoShape (by exact rfl)) pa_nil))) pa_nil))) pa_nil))))
  (pss_cons (ps_set (i := 1) sc__law_classes.nd rfl (by first | exact Or.inl rfl | exact Or.inr rfl) (pe_op op_cat (pv 1) (pe_lst (pa_cons (pe_tup (pa_cons pe_str (pa_cons (pe_callB (r := rIsX K) call_isX (by rfl) T.n_isinstance (by decide +kernel) (pa_cons (pv 0) (pa_cons (pe_glob (v := .ref (He.ga K "NoPlace")) rfl T.g_NoPlace (by exact rfl)) pa_nil))) pa_nil))) (pa_cons (pe_tup (pa_cons pe_str (pa_cons (pe_callB (r := rIsX K) call_isX (by rfl) T.n_isinstance (by decide +kernel) (pa_cons (pv 0) (pa_cons (pe_glob (v := .ref (He.ga K "NoRow")) rfl T.g_NoRow (by exact rfl)) pa_nil))) pa_nil))) pa_nil)))))
  (pss_cons (ps_set (i := 1) sc__law_classes.nd rfl (by first | exact Or.inl rfl | exact Or.inr rfl) (pe_op op_cat (pv 1) (pe_lst (pa_cons (pe_tup (pa_cons pe_str (pa_cons (pe_callB (r := rIsX K) call_isX (by rfl) T.n_isinstance (by decide +kernel) (pa_cons (pv 0) (pa_cons (pe_glob (v := .ref (He.ga K "Hidden")) rfl T.g_Hidden (by exact rfl)) pa_nil))) pa_nil))) (pa_cons (pe_tup (pa_cons pe_str (pa_cons (pe_callB (r := rIsX K) call_isX (by rfl) T.n_isinstance (by decide +kernel) (pa_cons (pv 0) (pa_cons (pe_glob (v := .ref (He.ga K "SherdError")) rfl T.g_SherdError (by exact rfl)) pa_nil))) pa_nil))) pa_nil)))))
  (pss_cons (ps_expr (pe_bmK K PySem.F.plainAttrs_list PySem.F.slot_list_append PySem.F.type_list_append mt_append (pv 1) (pa_cons (pe_tup (pa_cons pe_str (pa_cons (pe_callB (r := rIsX K) call_isX (by rfl) T.n_isinstance (by decide +kernel) (pa_cons (pv 0) (pa_cons (pe_bltn (v := .ty "ValueError") (u := .type "ValueError") (by rfl) T.n_ValueError (by decide +kernel) (by exact rfl)) pa_nil))) pa_nil))) pa_nil)))
  (pss_cons (ps_set (i := 2) sc__law_classes.nd rfl (by first | exact Or.inl rfl | exact Or.inr rfl) (pe_callB (r := rIsXT K) call_isXT (by rfl) T.n_isinstance (by decide +kernel) (pa_cons (pv 0) (pa_cons (pe_tup (pa_cons (pe_glob (v := .ref (He.ga K "Dark")) rfl T.g_Dark (by exact rfl)) (pa_cons (pe_glob (v := .ref (He.ga K "Down")) rfl T.g_Down (by exact rfl)) (pa_cons (pe_glob (v := .ref (He.ga K "Lost")) rfl T.g_Lost (by exact rfl)) (pa_cons (pe_glob (v := .ref (He.ga K "NoBook")) rfl T.g_NoBook (by exact rfl)) (pa_cons (pe_glob (v := .ref (He.ga K "NoCard")) rfl T.g_NoCard (by exact rfl)) (pa_cons (pe_glob (v := .ref (He.ga K "NoHomes")) rfl T.g_NoHomes (by exact rfl)) (pa_cons (pe_glob (v := .ref (He.ga K "NoHour")) rfl T.g_NoHour (by exact rfl)) (pa_cons (pe_glob (v := .ref (He.ga K "NoHouse")) rfl T.g_NoHouse (by exact rfl)) (pa_cons (pe_glob (v := .ref (He.ga K "NoLevel")) rfl T.g_NoLevel (by exact rfl)) (pa_cons (pe_glob (v := .ref (He.ga K "NoMoves")) rfl T.g_NoMoves (by exact rfl)) pa_nil))))))))))) pa_nil))))
  (pss_cons (ps_set (i := 2) sc__law_classes.nd rfl (by first | exact Or.inl rfl | exact Or.inr rfl) (pe_or (pv 2) (pe_one (pe_callB (r := rIsXT K) call_isXT (by rfl) T.n_isinstance (by decide +kernel) (pa_cons (pv 0) (pa_cons (pe_tup (pa_cons (pe_glob (v := .ref (He.ga K "NoName")) rfl T.g_NoName (by exact rfl)) (pa_cons (pe_glob (v := .ref (He.ga K "NoObject")) rfl T.g_NoObject (by exact rfl)) (pa_cons (pe_glob (v := .ref (He.ga K "NoOrder")) rfl T.g_NoOrder (by exact rfl)) (pa_cons (pe_glob (v := .ref (He.ga K "NoRoom")) rfl T.g_NoRoom (by exact rfl)) (pa_cons (pe_glob (v := .ref (He.ga K "NoText")) rfl T.g_NoText (by exact rfl)) (pa_cons (pe_glob (v := .ref (He.ga K "NoTicket")) rfl T.g_NoTicket (by exact rfl)) (pa_cons (pe_glob (v := .ref (He.ga K "NoWeight")) rfl T.g_NoWeight (by exact rfl)) (pa_cons (pe_glob (v := .ref (He.ga K "NotAll")) rfl T.g_NotAll (by exact rfl)) pa_nil))))))))) pa_nil))))))
  (pss_cons (ps_set (i := 2) sc__law_classes.nd rfl (by first | exact Or.inl rfl | exact Or.inr rfl) (pe_or (pv 2) (pe_one (pe_callB (r := rIsXT K) call_isXT (by rfl) T.n_isinstance (by decide +kernel) (pa_cons (pv 0) (pa_cons (pe_tup (pa_cons (pe_glob (v := .ref (He.ga K "NotEmpty")) rfl T.g_NotEmpty (by exact rfl)) (pa_cons (pe_glob (v := .ref (He.ga K "Stale")) rfl T.g_Stale (by exact rfl)) (pa_cons (pe_glob (v := .ref (He.ga K "Stopped")) rfl T.g_Stopped (by exact rfl)) (pa_cons (pe_glob (v := .ref (He.ga K "Taken")) rfl T.g_Taken (by exact rfl)) pa_nil))))) pa_nil))))))
  (pss_one (ps_ret (pe_lc (own := [("word", 3), ("there", 4)]) (g := (gTup K 2 (gCons (gName 3) (gCons (gName 4) gNil)))) (by rfl) sc__law_classes.nd (pi_list (pe_op op_cat (pv 1) (pe_lst (pa_cons (pe_tup (pa_cons pe_str (pa_cons (pv 2) pa_nil))) pa_nil)))) (blkOk_by (own := [("word", 3), ("there", 4)]) (N := ["caught", "pairs", "other", "word", "there"]) (sc := defScope s__law_classes) (by decide +kernel)) (fun _ _ _ _ _ => (pg_tup rfl (pgs_cons (pg_name (i := 3) sc__law_classes.nd rfl (by first | exact Or.inl rfl | exact Or.inr rfl) (by first | exact Or.inr rfl | exact Or.inl rfl)) (pgs_cons (pg_name (i := 4) sc__law_classes.nd rfl (by first | exact Or.inl rfl | exact Or.inr rfl) (by first | exact Or.inr rfl | exact Or.inl rfl)) pgs_nil)))) (fun _ _ _ _ _ => (pts_one (pt_val (pv 4)))) (fun _ _ _ _ _ => (pv 3)))))))))))), ?_⟩
    have s0 := Same.refl H
    refine ⟨_, rfl, a, _, d, _, _, _, rfl, s0 _ _ ea, dk.same s0, C, .own _, isAll_at T.k_NoShape 0, (by show 2 ≤ sizeLine; decide), fun t0 nt0 => ?_⟩
    have s1 := Same.trans s0 (Same.new (o := .tup [.str "NoRest", .bl false]) nt0)
    have et0 : upd H t0 (.tup [.str "NoRest", .bl false]) t0 = some (.tup [.str "NoRest", .bl false]) := upd_same
    generalize upd H t0 (.tup [.str "NoRest", .bl false]) = H1 at *
    replace et0 : H1 t0 = some (.tup [.str "NoRest", .bl false]) := et0
    refine ⟨_, rfl, a, _, d, _, _, _, rfl, s1 _ _ ea, dk.same s1, C, .own _, isAll_at T.k_NoShape 1, (by show 2 ≤ sizeLine; decide), fun t1 nt1 => ?_⟩
    have s2 := Same.trans s1 (Same.new (o := .tup [.str "NoShape", .bl true]) nt1)
    have et1 : upd H1 t1 (.tup [.str "NoShape", .bl true]) t1 = some (.tup [.str "NoShape", .bl true]) := upd_same
    replace et0 := old (p := t1) (o := .tup [.str "NoShape", .bl true]) et0 nt1
    generalize upd H1 t1 (.tup [.str "NoShape", .bl true]) = H2 at *
    replace et1 : H2 t1 = some (.tup [.str "NoShape", .bl true]) := et1
    refine ⟨(by show 2 ≤ sizeLine; decide), fun l1 nl1 => ?_⟩
    have s3 := Same.trans s2 (Same.new (o := .lst [.ref t0, .ref t1]) nl1)
    have el1 : upd H2 l1 (.lst [.ref t0, .ref t1]) l1 = some (.lst [.ref t0, .ref t1]) := upd_same
    replace et0 := old (p := l1) (o := .lst [.ref t0, .ref t1]) et0 nl1
    replace et1 := old (p := l1) (o := .lst [.ref t0, .ref t1]) et1 nl1
    generalize upd H2 l1 (.lst [.ref t0, .ref t1]) = H3 at *
    replace el1 : H3 l1 = some (.lst [.ref t0, .ref t1]) := el1
    refine ⟨_, rfl, ?_⟩
    refine ⟨_, rfl, a, _, d, _, _, _, rfl, s3 _ _ ea, dk.same s3, C, .own _, isAll_at T.k_NoShape 2, (by show 2 ≤ sizeLine; decide), fun t2 nt2 => ?_⟩
    have s4 := Same.trans s3 (Same.new (o := .tup [.str "NoPlace", .bl false]) nt2)
    have et2 : upd H3 t2 (.tup [.str "NoPlace", .bl false]) t2 = some (.tup [.str "NoPlace", .bl false]) := upd_same
    replace et0 := old (p := t2) (o := .tup [.str "NoPlace", .bl false]) et0 nt2
    replace et1 := old (p := t2) (o := .tup [.str "NoPlace", .bl false]) et1 nt2
    replace el1 := old (p := t2) (o := .tup [.str "NoPlace", .bl false]) el1 nt2
    generalize upd H3 t2 (.tup [.str "NoPlace", .bl false]) = H4 at *
    replace et2 : H4 t2 = some (.tup [.str "NoPlace", .bl false]) := et2
    refine ⟨_, rfl, a, _, d, _, _, _, rfl, s4 _ _ ea, dk.same s4, C, .own _, isAll_at T.k_NoShape 3, (by show 2 ≤ sizeLine; decide), fun t3 nt3 => ?_⟩
    have s5 := Same.trans s4 (Same.new (o := .tup [.str "NoRow", .bl false]) nt3)
    have et3 : upd H4 t3 (.tup [.str "NoRow", .bl false]) t3 = some (.tup [.str "NoRow", .bl false]) := upd_same
    replace et0 := old (p := t3) (o := .tup [.str "NoRow", .bl false]) et0 nt3
    replace et1 := old (p := t3) (o := .tup [.str "NoRow", .bl false]) et1 nt3
    replace el1 := old (p := t3) (o := .tup [.str "NoRow", .bl false]) el1 nt3
    replace et2 := old (p := t3) (o := .tup [.str "NoRow", .bl false]) et2 nt3
    generalize upd H4 t3 (.tup [.str "NoRow", .bl false]) = H5 at *
    replace et3 : H5 t3 = some (.tup [.str "NoRow", .bl false]) := et3
    refine ⟨(by show 2 ≤ sizeLine; decide), fun l2 nl2 => ?_⟩
    have s6 := Same.trans s5 (Same.new (o := .lst [.ref t2, .ref t3]) nl2)
    have el2 : upd H5 l2 (.lst [.ref t2, .ref t3]) l2 = some (.lst [.ref t2, .ref t3]) := upd_same
    replace et0 := old (p := l2) (o := .lst [.ref t2, .ref t3]) et0 nl2
    replace et1 := old (p := l2) (o := .lst [.ref t2, .ref t3]) et1 nl2
    replace el1 := old (p := l2) (o := .lst [.ref t2, .ref t3]) el1 nl2
    replace et2 := old (p := l2) (o := .lst [.ref t2, .ref t3]) et2 nl2
    replace et3 := old (p := l2) (o := .lst [.ref t2, .ref t3]) et3 nl2
    generalize upd H5 l2 (.lst [.ref t2, .ref t3]) = H6 at *
    replace el2 : H6 l2 = some (.lst [.ref t2, .ref t3]) := el2
    refine ⟨_, _, _, _, rfl, rfl, el1, el2, (by show 2 + 2 ≤ sizeLine; decide), fun l3 nl3 => ?_⟩
    have s7 := Same.trans s6 (Same.new (o := .lst ([.ref t0, .ref t1] ++ [.ref t2, .ref t3])) nl3)
    have el3 : upd H6 l3 (.lst ([.ref t0, .ref t1] ++ [.ref t2, .ref t3])) l3 = some (.lst ([.ref t0, .ref t1] ++ [.ref t2, .ref t3])) := upd_same
    replace et0 := old (p := l3) (o := .lst ([.ref t0, .ref t1] ++ [.ref t2, .ref t3])) et0 nl3
    replace et1 := old (p := l3) (o := .lst ([.ref t0, .ref t1] ++ [.ref t2, .ref t3])) et1 nl3
    replace el1 := old (p := l3) (o := .lst ([.ref t0, .ref t1] ++ [.ref t2, .ref t3])) el1 nl3
    replace et2 := old (p := l3) (o := .lst ([.ref t0, .ref t1] ++ [.ref t2, .ref t3])) et2 nl3
    replace et3 := old (p := l3) (o := .lst ([.ref t0, .ref t1] ++ [.ref t2, .ref t3])) et3 nl3
    replace el2 := old (p := l3) (o := .lst ([.ref t0, .ref t1] ++ [.ref t2, .ref t3])) el2 nl3
    generalize upd H6 l3 (.lst ([.ref t0, .ref t1] ++ [.ref t2, .ref t3])) = H7 at *
    replace el3 : H7 l3 = some (.lst [.ref t0, .ref t1, .ref t2, .ref t3]) := el3
    refine ⟨_, rfl, ?_⟩
    refine ⟨_, rfl, a, _, d, _, _, _, rfl, s7 _ _ ea, dk.same s7, C, .own _, isAll_at T.k_NoShape 4, (by show 2 ≤ sizeLine; decide), fun t4 nt4 => ?_⟩
    have s8 := Same.trans s7 (Same.new (o := .tup [.str "Hidden", .bl false]) nt4)
    have et4 : upd H7 t4 (.tup [.str "Hidden", .bl false]) t4 = some (.tup [.str "Hidden", .bl false]) := upd_same
    replace et0 := old (p := t4) (o := .tup [.str "Hidden", .bl false]) et0 nt4
    replace et1 := old (p := t4) (o := .tup [.str "Hidden", .bl false]) et1 nt4
    replace el1 := old (p := t4) (o := .tup [.str "Hidden", .bl false]) el1 nt4
    replace et2 := old (p := t4) (o := .tup [.str "Hidden", .bl false]) et2 nt4
    replace et3 := old (p := t4) (o := .tup [.str "Hidden", .bl false]) et3 nt4
    replace el2 := old (p := t4) (o := .tup [.str "Hidden", .bl false]) el2 nt4
    replace el3 := old (p := t4) (o := .tup [.str "Hidden", .bl false]) el3 nt4
    generalize upd H7 t4 (.tup [.str "Hidden", .bl false]) = H8 at *
    replace et4 : H8 t4 = some (.tup [.str "Hidden", .bl false]) := et4
    refine ⟨_, rfl, a, _, d, _, _, _, rfl, s8 _ _ ea, dk.same s8, C, .own _, isAll_at T.k_NoShape 27, (by show 2 ≤ sizeLine; decide), fun t5 nt5 => ?_⟩
    have s9 := Same.trans s8 (Same.new (o := .tup [.str "Sherd", .bl true]) nt5)
    have et5 : upd H8 t5 (.tup [.str "Sherd", .bl true]) t5 = some (.tup [.str "Sherd", .bl true]) := upd_same
    replace et0 := old (p := t5) (o := .tup [.str "Sherd", .bl true]) et0 nt5
    replace et1 := old (p := t5) (o := .tup [.str "Sherd", .bl true]) et1 nt5
    replace el1 := old (p := t5) (o := .tup [.str "Sherd", .bl true]) el1 nt5
    replace et2 := old (p := t5) (o := .tup [.str "Sherd", .bl true]) et2 nt5
    replace et3 := old (p := t5) (o := .tup [.str "Sherd", .bl true]) et3 nt5
    replace el2 := old (p := t5) (o := .tup [.str "Sherd", .bl true]) el2 nt5
    replace el3 := old (p := t5) (o := .tup [.str "Sherd", .bl true]) el3 nt5
    replace et4 := old (p := t5) (o := .tup [.str "Sherd", .bl true]) et4 nt5
    generalize upd H8 t5 (.tup [.str "Sherd", .bl true]) = H9 at *
    replace et5 : H9 t5 = some (.tup [.str "Sherd", .bl true]) := et5
    refine ⟨(by show 2 ≤ sizeLine; decide), fun l4 nl4 => ?_⟩
    have s10 := Same.trans s9 (Same.new (o := .lst [.ref t4, .ref t5]) nl4)
    have el4 : upd H9 l4 (.lst [.ref t4, .ref t5]) l4 = some (.lst [.ref t4, .ref t5]) := upd_same
    replace et0 := old (p := l4) (o := .lst [.ref t4, .ref t5]) et0 nl4
    replace et1 := old (p := l4) (o := .lst [.ref t4, .ref t5]) et1 nl4
    replace el1 := old (p := l4) (o := .lst [.ref t4, .ref t5]) el1 nl4
    replace et2 := old (p := l4) (o := .lst [.ref t4, .ref t5]) et2 nl4
    replace et3 := old (p := l4) (o := .lst [.ref t4, .ref t5]) et3 nl4
    replace el2 := old (p := l4) (o := .lst [.ref t4, .ref t5]) el2 nl4
    replace el3 := old (p := l4) (o := .lst [.ref t4, .ref t5]) el3 nl4
    replace et4 := old (p := l4) (o := .lst [.ref t4, .ref t5]) et4 nl4
    replace et5 := old (p := l4) (o := .lst [.ref t4, .ref t5]) et5 nl4
    generalize upd H9 l4 (.lst [.ref t4, .ref t5]) = H10 at *
    replace el4 : H10 l4 = some (.lst [.ref t4, .ref t5]) := el4
    refine ⟨_, _, _, _, rfl, rfl, el3, el4, (by show 4 + 2 ≤ sizeLine; decide), fun l5 nl5 => ?_⟩
    have s11 := Same.trans s10 (Same.new (o := .lst ([.ref t0, .ref t1, .ref t2, .ref t3] ++ [.ref t4, .ref t5])) nl5)
    have el5 : upd H10 l5 (.lst ([.ref t0, .ref t1, .ref t2, .ref t3] ++ [.ref t4, .ref t5])) l5 = some (.lst ([.ref t0, .ref t1, .ref t2, .ref t3] ++ [.ref t4, .ref t5])) := upd_same
    replace et0 := old (p := l5) (o := .lst ([.ref t0, .ref t1, .ref t2, .ref t3] ++ [.ref t4, .ref t5])) et0 nl5
    replace et1 := old (p := l5) (o := .lst ([.ref t0, .ref t1, .ref t2, .ref t3] ++ [.ref t4, .ref t5])) et1 nl5
    replace el1 := old (p := l5) (o := .lst ([.ref t0, .ref t1, .ref t2, .ref t3] ++ [.ref t4, .ref t5])) el1 nl5
    replace et2 := old (p := l5) (o := .lst ([.ref t0, .ref t1, .ref t2, .ref t3] ++ [.ref t4, .ref t5])) et2 nl5
    replace et3 := old (p := l5) (o := .lst ([.ref t0, .ref t1, .ref t2, .ref t3] ++ [.ref t4, .ref t5])) et3 nl5
    replace el2 := old (p := l5) (o := .lst ([.ref t0, .ref t1, .ref t2, .ref t3] ++ [.ref t4, .ref t5])) el2 nl5
    replace el3 := old (p := l5) (o := .lst ([.ref t0, .ref t1, .ref t2, .ref t3] ++ [.ref t4, .ref t5])) el3 nl5
    replace et4 := old (p := l5) (o := .lst ([.ref t0, .ref t1, .ref t2, .ref t3] ++ [.ref t4, .ref t5])) et4 nl5
    replace et5 := old (p := l5) (o := .lst ([.ref t0, .ref t1, .ref t2, .ref t3] ++ [.ref t4, .ref t5])) et5 nl5
    replace el4 := old (p := l5) (o := .lst ([.ref t0, .ref t1, .ref t2, .ref t3] ++ [.ref t4, .ref t5])) el4 nl5
    generalize upd H10 l5 (.lst ([.ref t0, .ref t1, .ref t2, .ref t3] ++ [.ref t4, .ref t5])) = H11 at *
    replace el5 : H11 l5 = some (.lst [.ref t0, .ref t1, .ref t2, .ref t3, .ref t4, .ref t5]) := el5
    refine ⟨_, rfl, .inl ⟨rfl, _, SqL.of el5⟩, ?_⟩
    refine ⟨_, rfl, a, _, d, _, _, _, rfl, s11 _ _ ea, dk.same s11, C, .ty _, isAll_v T.k_NoShape, (by show 2 ≤ sizeLine; decide), fun t6 nt6 => ?_⟩
    have s12 := Same.trans s11 (Same.new (o := .tup [.str "Value", .bl true]) nt6)
    have et6 : upd H11 t6 (.tup [.str "Value", .bl true]) t6 = some (.tup [.str "Value", .bl true]) := upd_same
    replace et0 := old (p := t6) (o := .tup [.str "Value", .bl true]) et0 nt6
    replace et1 := old (p := t6) (o := .tup [.str "Value", .bl true]) et1 nt6
    replace el1 := old (p := t6) (o := .tup [.str "Value", .bl true]) el1 nt6
    replace et2 := old (p := t6) (o := .tup [.str "Value", .bl true]) et2 nt6
    replace et3 := old (p := t6) (o := .tup [.str "Value", .bl true]) et3 nt6
    replace el2 := old (p := t6) (o := .tup [.str "Value", .bl true]) el2 nt6
    replace el3 := old (p := t6) (o := .tup [.str "Value", .bl true]) el3 nt6
    replace et4 := old (p := t6) (o := .tup [.str "Value", .bl true]) et4 nt6
    replace et5 := old (p := t6) (o := .tup [.str "Value", .bl true]) et5 nt6
    replace el4 := old (p := t6) (o := .tup [.str "Value", .bl true]) el4 nt6
    replace el5 := old (p := t6) (o := .tup [.str "Value", .bl true]) el5 nt6
    generalize upd H11 t6 (.tup [.str "Value", .bl true]) = H12 at *
    replace et6 : H12 t6 = some (.tup [.str "Value", .bl true]) := et6
    refine ⟨_, _, _, rfl, rfl, el5, (by show 6 < sizeLine; decide), ?_⟩
    have hl5 : H l5 = none := by
      cases z : H l5 with
      | none => rfl
      | some o => rw [s10 _ _ z] at nl5; cases nl5
    have s13 : Same H (upd H12 l5 (.lst ([.ref t0, .ref t1, .ref t2, .ref t3, .ref t4, .ref t5] ++ [.ref t6]))) := fun b o e => by rw [upd_ne (ne_of_none e hl5)]; exact s12 _ _ e
    replace et0 : upd H12 l5 (.lst ([.ref t0, .ref t1, .ref t2, .ref t3, .ref t4, .ref t5] ++ [.ref t6])) t0 = _ := (upd_ne (fun z => by rw [z, el5] at et0; cases et0)).trans et0
    replace et1 : upd H12 l5 (.lst ([.ref t0, .ref t1, .ref t2, .ref t3, .ref t4, .ref t5] ++ [.ref t6])) t1 = _ := (upd_ne (fun z => by rw [z, el5] at et1; cases et1)).trans et1
    replace et2 : upd H12 l5 (.lst ([.ref t0, .ref t1, .ref t2, .ref t3, .ref t4, .ref t5] ++ [.ref t6])) t2 = _ := (upd_ne (fun z => by rw [z, el5] at et2; cases et2)).trans et2
    replace et3 : upd H12 l5 (.lst ([.ref t0, .ref t1, .ref t2, .ref t3, .ref t4, .ref t5] ++ [.ref t6])) t3 = _ := (upd_ne (fun z => by rw [z, el5] at et3; cases et3)).trans et3
    replace et4 : upd H12 l5 (.lst ([.ref t0, .ref t1, .ref t2, .ref t3, .ref t4, .ref t5] ++ [.ref t6])) t4 = _ := (upd_ne (fun z => by rw [z, el5] at et4; cases et4)).trans et4
    replace et5 : upd H12 l5 (.lst ([.ref t0, .ref t1, .ref t2, .ref t3, .ref t4, .ref t5] ++ [.ref t6])) t5 = _ := (upd_ne (fun z => by rw [z, el5] at et5; cases et5)).trans et5
    replace et6 : upd H12 l5 (.lst ([.ref t0, .ref t1, .ref t2, .ref t3, .ref t4, .ref t5] ++ [.ref t6])) t6 = _ := (upd_ne (fun z => by rw [z, el5] at et6; cases et6)).trans et6
    replace el5 : upd H12 l5 (.lst ([.ref t0, .ref t1, .ref t2, .ref t3, .ref t4, .ref t5] ++ [.ref t6])) l5 = some (.lst [.ref t0, .ref t1, .ref t2, .ref t3, .ref t4, .ref t5, .ref t6]) := upd_same
    show _
    generalize upd H12 l5 (.lst ([.ref t0, .ref t1, .ref t2, .ref t3, .ref t4, .ref t5] ++ [.ref t6])) = H13 at *
    refine ⟨_, rfl, (by show 10 ≤ sizeLine; decide), fun u1 nu1 => ?_⟩
    have s14 := Same.trans s13 (Same.new (o := .tup [.ref (He.ga K "Dark"), .ref (He.ga K "Down"), .ref (He.ga K "Lost"), .ref (He.ga K "NoBook"), .ref (He.ga K "NoCard"), .ref (He.ga K "NoHomes"), .ref (He.ga K "NoHour"), .ref (He.ga K "NoHouse"), .ref (He.ga K "NoLevel"), .ref (He.ga K "NoMoves")]) nu1)
    have eu1 : upd H13 u1 (.tup [.ref (He.ga K "Dark"), .ref (He.ga K "Down"), .ref (He.ga K "Lost"), .ref (He.ga K "NoBook"), .ref (He.ga K "NoCard"), .ref (He.ga K "NoHomes"), .ref (He.ga K "NoHour"), .ref (He.ga K "NoHouse"), .ref (He.ga K "NoLevel"), .ref (He.ga K "NoMoves")]) u1 = some (.tup [.ref (He.ga K "Dark"), .ref (He.ga K "Down"), .ref (He.ga K "Lost"), .ref (He.ga K "NoBook"), .ref (He.ga K "NoCard"), .ref (He.ga K "NoHomes"), .ref (He.ga K "NoHour"), .ref (He.ga K "NoHouse"), .ref (He.ga K "NoLevel"), .ref (He.ga K "NoMoves")]) := upd_same
    replace et0 := old (p := u1) (o := .tup [.ref (He.ga K "Dark"), .ref (He.ga K "Down"), .ref (He.ga K "Lost"), .ref (He.ga K "NoBook"), .ref (He.ga K "NoCard"), .ref (He.ga K "NoHomes"), .ref (He.ga K "NoHour"), .ref (He.ga K "NoHouse"), .ref (He.ga K "NoLevel"), .ref (He.ga K "NoMoves")]) et0 nu1
    replace et1 := old (p := u1) (o := .tup [.ref (He.ga K "Dark"), .ref (He.ga K "Down"), .ref (He.ga K "Lost"), .ref (He.ga K "NoBook"), .ref (He.ga K "NoCard"), .ref (He.ga K "NoHomes"), .ref (He.ga K "NoHour"), .ref (He.ga K "NoHouse"), .ref (He.ga K "NoLevel"), .ref (He.ga K "NoMoves")]) et1 nu1
    replace et2 := old (p := u1) (o := .tup [.ref (He.ga K "Dark"), .ref (He.ga K "Down"), .ref (He.ga K "Lost"), .ref (He.ga K "NoBook"), .ref (He.ga K "NoCard"), .ref (He.ga K "NoHomes"), .ref (He.ga K "NoHour"), .ref (He.ga K "NoHouse"), .ref (He.ga K "NoLevel"), .ref (He.ga K "NoMoves")]) et2 nu1
    replace et3 := old (p := u1) (o := .tup [.ref (He.ga K "Dark"), .ref (He.ga K "Down"), .ref (He.ga K "Lost"), .ref (He.ga K "NoBook"), .ref (He.ga K "NoCard"), .ref (He.ga K "NoHomes"), .ref (He.ga K "NoHour"), .ref (He.ga K "NoHouse"), .ref (He.ga K "NoLevel"), .ref (He.ga K "NoMoves")]) et3 nu1
    replace et4 := old (p := u1) (o := .tup [.ref (He.ga K "Dark"), .ref (He.ga K "Down"), .ref (He.ga K "Lost"), .ref (He.ga K "NoBook"), .ref (He.ga K "NoCard"), .ref (He.ga K "NoHomes"), .ref (He.ga K "NoHour"), .ref (He.ga K "NoHouse"), .ref (He.ga K "NoLevel"), .ref (He.ga K "NoMoves")]) et4 nu1
    replace et5 := old (p := u1) (o := .tup [.ref (He.ga K "Dark"), .ref (He.ga K "Down"), .ref (He.ga K "Lost"), .ref (He.ga K "NoBook"), .ref (He.ga K "NoCard"), .ref (He.ga K "NoHomes"), .ref (He.ga K "NoHour"), .ref (He.ga K "NoHouse"), .ref (He.ga K "NoLevel"), .ref (He.ga K "NoMoves")]) et5 nu1
    replace el5 := old (p := u1) (o := .tup [.ref (He.ga K "Dark"), .ref (He.ga K "Down"), .ref (He.ga K "Lost"), .ref (He.ga K "NoBook"), .ref (He.ga K "NoCard"), .ref (He.ga K "NoHomes"), .ref (He.ga K "NoHour"), .ref (He.ga K "NoHouse"), .ref (He.ga K "NoLevel"), .ref (He.ga K "NoMoves")]) el5 nu1
    replace et6 := old (p := u1) (o := .tup [.ref (He.ga K "Dark"), .ref (He.ga K "Down"), .ref (He.ga K "Lost"), .ref (He.ga K "NoBook"), .ref (He.ga K "NoCard"), .ref (He.ga K "NoHomes"), .ref (He.ga K "NoHour"), .ref (He.ga K "NoHouse"), .ref (He.ga K "NoLevel"), .ref (He.ga K "NoMoves")]) et6 nu1
    generalize upd H13 u1 (.tup [.ref (He.ga K "Dark"), .ref (He.ga K "Down"), .ref (He.ga K "Lost"), .ref (He.ga K "NoBook"), .ref (He.ga K "NoCard"), .ref (He.ga K "NoHomes"), .ref (He.ga K "NoHour"), .ref (He.ga K "NoHouse"), .ref (He.ga K "NoLevel"), .ref (He.ga K "NoMoves")]) = H14 at *
    replace eu1 : H14 u1 = some (.tup [.ref (He.ga K "Dark"), .ref (He.ga K "Down"), .ref (He.ga K "Lost"), .ref (He.ga K "NoBook"), .ref (He.ga K "NoCard"), .ref (He.ga K "NoHomes"), .ref (He.ga K "NoHour"), .ref (He.ga K "NoHouse"), .ref (He.ga K "NoLevel"), .ref (He.ga K "NoMoves")]) := eu1
    refine ⟨a, _, d, u1, _, _, _, rfl, eu1, clsAll ["Dark", "Down", "Lost", "NoBook", "NoCard", "NoHomes", "NoHour", "NoHouse", "NoLevel", "NoMoves"], s14 _ _ ea, dk.same s14, C, isAll_none T.k_NoShape ["Dark", "Down", "Lost", "NoBook", "NoCard", "NoHomes", "NoHour", "NoHouse", "NoLevel", "NoMoves"] (by decide), ?_⟩
    refine ⟨_, rfl, _, rfl, ?_⟩
    refine ⟨_, rfl, (by show 8 ≤ sizeLine; decide), fun u2 nu2 => ?_⟩
    have s15 := Same.trans s14 (Same.new (o := .tup [.ref (He.ga K "NoName"), .ref (He.ga K "NoObject"), .ref (He.ga K "NoOrder"), .ref (He.ga K "NoRoom"), .ref (He.ga K "NoText"), .ref (He.ga K "NoTicket"), .ref (He.ga K "NoWeight"), .ref (He.ga K "NotAll")]) nu2)
    have eu2 : upd H14 u2 (.tup [.ref (He.ga K "NoName"), .ref (He.ga K "NoObject"), .ref (He.ga K "NoOrder"), .ref (He.ga K "NoRoom"), .ref (He.ga K "NoText"), .ref (He.ga K "NoTicket"), .ref (He.ga K "NoWeight"), .ref (He.ga K "NotAll")]) u2 = some (.tup [.ref (He.ga K "NoName"), .ref (He.ga K "NoObject"), .ref (He.ga K "NoOrder"), .ref (He.ga K "NoRoom"), .ref (He.ga K "NoText"), .ref (He.ga K "NoTicket"), .ref (He.ga K "NoWeight"), .ref (He.ga K "NotAll")]) := upd_same
    replace et0 := old (p := u2) (o := .tup [.ref (He.ga K "NoName"), .ref (He.ga K "NoObject"), .ref (He.ga K "NoOrder"), .ref (He.ga K "NoRoom"), .ref (He.ga K "NoText"), .ref (He.ga K "NoTicket"), .ref (He.ga K "NoWeight"), .ref (He.ga K "NotAll")]) et0 nu2
    replace et1 := old (p := u2) (o := .tup [.ref (He.ga K "NoName"), .ref (He.ga K "NoObject"), .ref (He.ga K "NoOrder"), .ref (He.ga K "NoRoom"), .ref (He.ga K "NoText"), .ref (He.ga K "NoTicket"), .ref (He.ga K "NoWeight"), .ref (He.ga K "NotAll")]) et1 nu2
    replace et2 := old (p := u2) (o := .tup [.ref (He.ga K "NoName"), .ref (He.ga K "NoObject"), .ref (He.ga K "NoOrder"), .ref (He.ga K "NoRoom"), .ref (He.ga K "NoText"), .ref (He.ga K "NoTicket"), .ref (He.ga K "NoWeight"), .ref (He.ga K "NotAll")]) et2 nu2
    replace et3 := old (p := u2) (o := .tup [.ref (He.ga K "NoName"), .ref (He.ga K "NoObject"), .ref (He.ga K "NoOrder"), .ref (He.ga K "NoRoom"), .ref (He.ga K "NoText"), .ref (He.ga K "NoTicket"), .ref (He.ga K "NoWeight"), .ref (He.ga K "NotAll")]) et3 nu2
    replace et4 := old (p := u2) (o := .tup [.ref (He.ga K "NoName"), .ref (He.ga K "NoObject"), .ref (He.ga K "NoOrder"), .ref (He.ga K "NoRoom"), .ref (He.ga K "NoText"), .ref (He.ga K "NoTicket"), .ref (He.ga K "NoWeight"), .ref (He.ga K "NotAll")]) et4 nu2
    replace et5 := old (p := u2) (o := .tup [.ref (He.ga K "NoName"), .ref (He.ga K "NoObject"), .ref (He.ga K "NoOrder"), .ref (He.ga K "NoRoom"), .ref (He.ga K "NoText"), .ref (He.ga K "NoTicket"), .ref (He.ga K "NoWeight"), .ref (He.ga K "NotAll")]) et5 nu2
    replace el5 := old (p := u2) (o := .tup [.ref (He.ga K "NoName"), .ref (He.ga K "NoObject"), .ref (He.ga K "NoOrder"), .ref (He.ga K "NoRoom"), .ref (He.ga K "NoText"), .ref (He.ga K "NoTicket"), .ref (He.ga K "NoWeight"), .ref (He.ga K "NotAll")]) el5 nu2
    replace et6 := old (p := u2) (o := .tup [.ref (He.ga K "NoName"), .ref (He.ga K "NoObject"), .ref (He.ga K "NoOrder"), .ref (He.ga K "NoRoom"), .ref (He.ga K "NoText"), .ref (He.ga K "NoTicket"), .ref (He.ga K "NoWeight"), .ref (He.ga K "NotAll")]) et6 nu2
    replace eu1 := old (p := u2) (o := .tup [.ref (He.ga K "NoName"), .ref (He.ga K "NoObject"), .ref (He.ga K "NoOrder"), .ref (He.ga K "NoRoom"), .ref (He.ga K "NoText"), .ref (He.ga K "NoTicket"), .ref (He.ga K "NoWeight"), .ref (He.ga K "NotAll")]) eu1 nu2
    generalize upd H14 u2 (.tup [.ref (He.ga K "NoName"), .ref (He.ga K "NoObject"), .ref (He.ga K "NoOrder"), .ref (He.ga K "NoRoom"), .ref (He.ga K "NoText"), .ref (He.ga K "NoTicket"), .ref (He.ga K "NoWeight"), .ref (He.ga K "NotAll")]) = H15 at *
    replace eu2 : H15 u2 = some (.tup [.ref (He.ga K "NoName"), .ref (He.ga K "NoObject"), .ref (He.ga K "NoOrder"), .ref (He.ga K "NoRoom"), .ref (He.ga K "NoText"), .ref (He.ga K "NoTicket"), .ref (He.ga K "NoWeight"), .ref (He.ga K "NotAll")]) := eu2
    refine ⟨a, _, d, u2, _, _, _, rfl, eu2, clsAll ["NoName", "NoObject", "NoOrder", "NoRoom", "NoText", "NoTicket", "NoWeight", "NotAll"], s15 _ _ ea, dk.same s15, C, isAll_none T.k_NoShape ["NoName", "NoObject", "NoOrder", "NoRoom", "NoText", "NoTicket", "NoWeight", "NotAll"] (by decide), ?_⟩
    refine ⟨_, rfl, _, rfl, ?_⟩
    refine ⟨_, rfl, (by show 4 ≤ sizeLine; decide), fun u3 nu3 => ?_⟩
    have s16 := Same.trans s15 (Same.new (o := .tup [.ref (He.ga K "NotEmpty"), .ref (He.ga K "Stale"), .ref (He.ga K "Stopped"), .ref (He.ga K "Taken")]) nu3)
    have eu3 : upd H15 u3 (.tup [.ref (He.ga K "NotEmpty"), .ref (He.ga K "Stale"), .ref (He.ga K "Stopped"), .ref (He.ga K "Taken")]) u3 = some (.tup [.ref (He.ga K "NotEmpty"), .ref (He.ga K "Stale"), .ref (He.ga K "Stopped"), .ref (He.ga K "Taken")]) := upd_same
    replace et0 := old (p := u3) (o := .tup [.ref (He.ga K "NotEmpty"), .ref (He.ga K "Stale"), .ref (He.ga K "Stopped"), .ref (He.ga K "Taken")]) et0 nu3
    replace et1 := old (p := u3) (o := .tup [.ref (He.ga K "NotEmpty"), .ref (He.ga K "Stale"), .ref (He.ga K "Stopped"), .ref (He.ga K "Taken")]) et1 nu3
    replace et2 := old (p := u3) (o := .tup [.ref (He.ga K "NotEmpty"), .ref (He.ga K "Stale"), .ref (He.ga K "Stopped"), .ref (He.ga K "Taken")]) et2 nu3
    replace et3 := old (p := u3) (o := .tup [.ref (He.ga K "NotEmpty"), .ref (He.ga K "Stale"), .ref (He.ga K "Stopped"), .ref (He.ga K "Taken")]) et3 nu3
    replace et4 := old (p := u3) (o := .tup [.ref (He.ga K "NotEmpty"), .ref (He.ga K "Stale"), .ref (He.ga K "Stopped"), .ref (He.ga K "Taken")]) et4 nu3
    replace et5 := old (p := u3) (o := .tup [.ref (He.ga K "NotEmpty"), .ref (He.ga K "Stale"), .ref (He.ga K "Stopped"), .ref (He.ga K "Taken")]) et5 nu3
    replace el5 := old (p := u3) (o := .tup [.ref (He.ga K "NotEmpty"), .ref (He.ga K "Stale"), .ref (He.ga K "Stopped"), .ref (He.ga K "Taken")]) el5 nu3
    replace et6 := old (p := u3) (o := .tup [.ref (He.ga K "NotEmpty"), .ref (He.ga K "Stale"), .ref (He.ga K "Stopped"), .ref (He.ga K "Taken")]) et6 nu3
    replace eu1 := old (p := u3) (o := .tup [.ref (He.ga K "NotEmpty"), .ref (He.ga K "Stale"), .ref (He.ga K "Stopped"), .ref (He.ga K "Taken")]) eu1 nu3
    replace eu2 := old (p := u3) (o := .tup [.ref (He.ga K "NotEmpty"), .ref (He.ga K "Stale"), .ref (He.ga K "Stopped"), .ref (He.ga K "Taken")]) eu2 nu3
    generalize upd H15 u3 (.tup [.ref (He.ga K "NotEmpty"), .ref (He.ga K "Stale"), .ref (He.ga K "Stopped"), .ref (He.ga K "Taken")]) = H16 at *
    replace eu3 : H16 u3 = some (.tup [.ref (He.ga K "NotEmpty"), .ref (He.ga K "Stale"), .ref (He.ga K "Stopped"), .ref (He.ga K "Taken")]) := eu3
    refine ⟨a, _, d, u3, _, _, _, rfl, eu3, clsAll ["NotEmpty", "Stale", "Stopped", "Taken"], s16 _ _ ea, dk.same s16, C, isAll_none T.k_NoShape ["NotEmpty", "Stale", "Stopped", "Taken"] (by decide), ?_⟩
    refine ⟨_, rfl, _, rfl, (by show 2 ≤ sizeLine; decide), fun t7 nt7 => ?_⟩
    have s17 := Same.trans s16 (Same.new (o := .tup [.str "other", .bl false]) nt7)
    have et7 : upd H16 t7 (.tup [.str "other", .bl false]) t7 = some (.tup [.str "other", .bl false]) := upd_same
    replace et0 := old (p := t7) (o := .tup [.str "other", .bl false]) et0 nt7
    replace et1 := old (p := t7) (o := .tup [.str "other", .bl false]) et1 nt7
    replace et2 := old (p := t7) (o := .tup [.str "other", .bl false]) et2 nt7
    replace et3 := old (p := t7) (o := .tup [.str "other", .bl false]) et3 nt7
    replace et4 := old (p := t7) (o := .tup [.str "other", .bl false]) et4 nt7
    replace et5 := old (p := t7) (o := .tup [.str "other", .bl false]) et5 nt7
    replace el5 := old (p := t7) (o := .tup [.str "other", .bl false]) el5 nt7
    replace et6 := old (p := t7) (o := .tup [.str "other", .bl false]) et6 nt7
    replace eu1 := old (p := t7) (o := .tup [.str "other", .bl false]) eu1 nt7
    replace eu2 := old (p := t7) (o := .tup [.str "other", .bl false]) eu2 nt7
    replace eu3 := old (p := t7) (o := .tup [.str "other", .bl false]) eu3 nt7
    generalize upd H16 t7 (.tup [.str "other", .bl false]) = H17 at *
    replace et7 : H17 t7 = some (.tup [.str "other", .bl false]) := et7
    refine ⟨(by show 1 ≤ sizeLine; decide), fun l6 nl6 => ?_⟩
    have s18 := Same.trans s17 (Same.new (o := .lst [.ref t7]) nl6)
    have el6 : upd H17 l6 (.lst [.ref t7]) l6 = some (.lst [.ref t7]) := upd_same
    replace et0 := old (p := l6) (o := .lst [.ref t7]) et0 nl6
    replace et1 := old (p := l6) (o := .lst [.ref t7]) et1 nl6
    replace et2 := old (p := l6) (o := .lst [.ref t7]) et2 nl6
    replace et3 := old (p := l6) (o := .lst [.ref t7]) et3 nl6
    replace et4 := old (p := l6) (o := .lst [.ref t7]) et4 nl6
    replace et5 := old (p := l6) (o := .lst [.ref t7]) et5 nl6
    replace el5 := old (p := l6) (o := .lst [.ref t7]) el5 nl6
    replace et6 := old (p := l6) (o := .lst [.ref t7]) et6 nl6
    replace eu1 := old (p := l6) (o := .lst [.ref t7]) eu1 nl6
    replace eu2 := old (p := l6) (o := .lst [.ref t7]) eu2 nl6
    replace eu3 := old (p := l6) (o := .lst [.ref t7]) eu3 nl6
    replace et7 := old (p := l6) (o := .lst [.ref t7]) et7 nl6
    generalize upd H17 l6 (.lst [.ref t7]) = H18 at *
    replace el6 : H18 l6 = some (.lst [.ref t7]) := el6
    refine ⟨_, _, _, _, rfl, rfl, el5, el6, (by show 7 + 1 ≤ sizeLine; decide), fun l7 nl7 => ?_⟩
    have s19 := Same.trans s18 (Same.new (o := .lst ([.ref t0, .ref t1, .ref t2, .ref t3, .ref t4, .ref t5, .ref t6] ++ [.ref t7])) nl7)
    have el7 : upd H18 l7 (.lst ([.ref t0, .ref t1, .ref t2, .ref t3, .ref t4, .ref t5, .ref t6] ++ [.ref t7])) l7 = some (.lst ([.ref t0, .ref t1, .ref t2, .ref t3, .ref t4, .ref t5, .ref t6] ++ [.ref t7])) := upd_same
    replace et0 := old (p := l7) (o := .lst ([.ref t0, .ref t1, .ref t2, .ref t3, .ref t4, .ref t5, .ref t6] ++ [.ref t7])) et0 nl7
    replace et1 := old (p := l7) (o := .lst ([.ref t0, .ref t1, .ref t2, .ref t3, .ref t4, .ref t5, .ref t6] ++ [.ref t7])) et1 nl7
    replace et2 := old (p := l7) (o := .lst ([.ref t0, .ref t1, .ref t2, .ref t3, .ref t4, .ref t5, .ref t6] ++ [.ref t7])) et2 nl7
    replace et3 := old (p := l7) (o := .lst ([.ref t0, .ref t1, .ref t2, .ref t3, .ref t4, .ref t5, .ref t6] ++ [.ref t7])) et3 nl7
    replace et4 := old (p := l7) (o := .lst ([.ref t0, .ref t1, .ref t2, .ref t3, .ref t4, .ref t5, .ref t6] ++ [.ref t7])) et4 nl7
    replace et5 := old (p := l7) (o := .lst ([.ref t0, .ref t1, .ref t2, .ref t3, .ref t4, .ref t5, .ref t6] ++ [.ref t7])) et5 nl7
    replace el5 := old (p := l7) (o := .lst ([.ref t0, .ref t1, .ref t2, .ref t3, .ref t4, .ref t5, .ref t6] ++ [.ref t7])) el5 nl7
    replace et6 := old (p := l7) (o := .lst ([.ref t0, .ref t1, .ref t2, .ref t3, .ref t4, .ref t5, .ref t6] ++ [.ref t7])) et6 nl7
    replace eu1 := old (p := l7) (o := .lst ([.ref t0, .ref t1, .ref t2, .ref t3, .ref t4, .ref t5, .ref t6] ++ [.ref t7])) eu1 nl7
    replace eu2 := old (p := l7) (o := .lst ([.ref t0, .ref t1, .ref t2, .ref t3, .ref t4, .ref t5, .ref t6] ++ [.ref t7])) eu2 nl7
    replace eu3 := old (p := l7) (o := .lst ([.ref t0, .ref t1, .ref t2, .ref t3, .ref t4, .ref t5, .ref t6] ++ [.ref t7])) eu3 nl7
    replace et7 := old (p := l7) (o := .lst ([.ref t0, .ref t1, .ref t2, .ref t3, .ref t4, .ref t5, .ref t6] ++ [.ref t7])) et7 nl7
    replace el6 := old (p := l7) (o := .lst ([.ref t0, .ref t1, .ref t2, .ref t3, .ref t4, .ref t5, .ref t6] ++ [.ref t7])) el6 nl7
    generalize upd H18 l7 (.lst ([.ref t0, .ref t1, .ref t2, .ref t3, .ref t4, .ref t5, .ref t6] ++ [.ref t7])) = H19 at *
    replace el7 : H19 l7 = some (.lst [.ref t0, .ref t1, .ref t2, .ref t3, .ref t4, .ref t5, .ref t6, .ref t7]) := el7
    refine ⟨_, rfl, ⟨_, SqL.of el7⟩, fun D nD => ?_⟩
    refine lc_filt (fun p : Str × Bool => V.str p.1) (walk_list (xs := [.ref t0, .ref t1, .ref t2, .ref t3, .ref t4, .ref t5, .ref t6, .ref t7])) (fun i => ([("NoRest", false), ("NoShape", true), ("NoPlace", false), ("NoRow", false), ("Hidden", false), ("Sherd", true), ("Value", true), ("other", false)] : List (Str × Bool)).getD i ("", false)) (fun p => p.2) nD (by show 8 ≤ sizeLine; decide) (fun H s => s.seq (SqL.of el7)) ?_ ?_
    · intro i x H4 H5 R R' hi s4 y k1 k2
      obtain ⟨rfl, ex⟩ := y
      have hi8 : i < 8 := hi
      obtain rfl | rfl | rfl | rfl | rfl | rfl | rfl | rfl : i = 0 ∨ i = 1 ∨ i = 2 ∨ i = 3 ∨ i = 4 ∨ i = 5 ∨ i = 6 ∨ i = 7 := by omega
      · cases ex
        exact ⟨_, _, rfl, SqT.of (s4 _ _ et0), rfl, _, _, rfl, _, _, rfl, rfl, rfl, _, rfl, _, rfl, k2 _ (Same.refl _) rfl⟩
      · cases ex
        exact ⟨_, _, rfl, SqT.of (s4 _ _ et1), rfl, _, _, rfl, _, _, rfl, rfl, rfl, _, rfl, _, rfl, _, rfl, k1 _ (Same.refl _) rfl⟩
      · cases ex
        exact ⟨_, _, rfl, SqT.of (s4 _ _ et2), rfl, _, _, rfl, _, _, rfl, rfl, rfl, _, rfl, _, rfl, k2 _ (Same.refl _) rfl⟩
      · cases ex
        exact ⟨_, _, rfl, SqT.of (s4 _ _ et3), rfl, _, _, rfl, _, _, rfl, rfl, rfl, _, rfl, _, rfl, k2 _ (Same.refl _) rfl⟩
      · cases ex
        exact ⟨_, _, rfl, SqT.of (s4 _ _ et4), rfl, _, _, rfl, _, _, rfl, rfl, rfl, _, rfl, _, rfl, k2 _ (Same.refl _) rfl⟩
      · cases ex
        exact ⟨_, _, rfl, SqT.of (s4 _ _ et5), rfl, _, _, rfl, _, _, rfl, rfl, rfl, _, rfl, _, rfl, _, rfl, k1 _ (Same.refl _) rfl⟩
      · cases ex
        exact ⟨_, _, rfl, SqT.of (s4 _ _ et6), rfl, _, _, rfl, _, _, rfl, rfl, rfl, _, rfl, _, rfl, _, rfl, k1 _ (Same.refl _) rfl⟩
      · cases ex
        exact ⟨_, _, rfl, SqT.of (s4 _ _ et7), rfl, _, _, rfl, _, _, rfl, rfl, rfl, _, rfl, _, rfl, k2 _ (Same.refl _) rfl⟩
    · intro H4 s4 e4
      exact q D H4 (Same.trans s19 s4) e4
-- F
/-- no shape: of another type, or a tuple that is none -/
def NotShape (K : PySem.W.Frag) (H : Hp) (v : V) : Prop := (∃ n, Ty K H v n ∧ n ≠ "tuple") ∨ ∃ a xs, v = .ref a ∧ SqT K H a xs ∧ (xs.length ≠ 3 ∨ ∃ x y z n1 n2 n3, xs = [x, y, z] ∧ Ty K H x n1 ∧ Ty K H y n2 ∧ Ty K H z n3 ∧ (betw x 1 4 && betw y 1 4 && betw z 0 2) = false)
theorem NotShape.same {K : PySem.W.Frag} {H H' : Hp} {v : V} (h : NotShape K H v) (s : Same H H') : NotShape K H' v := by
  rcases h with ⟨n, h1, h2⟩ | ⟨a, xs, rfl, h1, h2 | ⟨x, y, z, n1, n2, n3, rfl, t1, t2, t3, h2⟩⟩
  · exact .inl ⟨n, h1.same s, h2⟩
  · exact .inr ⟨a, xs, rfl, Same.sqt s h1, .inl h2⟩
  · exact .inr ⟨a, _, rfl, Same.sqt s h1, .inr ⟨x, y, z, n1, n2, n3, rfl, t1.same s, t2.same s, t3.same s, h2⟩⟩
def spBad (K : PySem.W.Frag) : Sp := fun vs H Q _ => ∃ v, vs = [v] ∧ NotShape K H v ∧ Q (.bl false) H
theorem ok_is_bad (T : Txt K mg) (D_is_between : Dn P w K mg base CX0 2 "is_between" ["thing", "least", "most"] (spBetw K)) (F : At K mg "is_shape" s_is_shape ["thing"]) : Dn P w K mg base CX0 3 "is_shape" ["thing"] (spBad K) := by
  refine F.ok sc_is_shape (fun vs H Q E h => ?_) (fun f cdv A outer s H vs Q E hr h => ?_)
  · obtain ⟨v, rfl, _⟩ := h
    rfl
  · obtain ⟨v, rfl, hv, q⟩ := h
    refine ⟨_, (pss_cons (ps_if (PW.pt (pw_or (pt_not (pt_val (pe_callB (r := rIsi K) call_isi (by rfl) T.n_isinstance (by decide +kernel) (pa_cons (pv 0) (pa_cons (pe_bltn (v := .ty "tuple") (u := .type "tuple") (by rfl) T.n_tuple (by decide +kernel) (by exact rfl)) pa_nil))))) (pw_or1 (pt_cmpR op_ne (pe_callB (r := rLen K) call_len (by rfl) T.n_len (by decide +kernel) (pa_cons (pv 0) pa_nil)) pe_int (nomark _))))) (pss_one (ps_ret pe_bl)) pss_nil)
  (pss_cons (ps_asg (pv 0) (pg_tup (by rfl) (pgs_cons (pg_name (i := 1) sc_is_shape.nd rfl (by first | exact Or.inl rfl | exact Or.inr rfl)) (pgs_cons (pg_name (i := 2) sc_is_shape.nd rfl (by first | exact Or.inl rfl | exact Or.inr rfl)) (pgs_cons (pg_name (i := 3) sc_is_shape.nd rfl (by first | exact Or.inl rfl | exact Or.inr rfl)) pgs_nil)))))
  (pss_one (ps_ret (pe_and (pe_callD D_is_between (by first | exact hr | exact hr.mono (by decide)) (pa_cons (pv 1) (pa_cons pe_int (pa_cons pe_int pa_nil)))) (pe_and (pe_callD D_is_between (by first | exact hr | exact hr.mono (by decide)) (pa_cons (pv 2) (pa_cons pe_int (pa_cons pe_int pa_nil)))) (pe_one (pe_callD D_is_between (by first | exact hr | exact hr.mono (by decide)) (pa_cons (pv 3) (pa_cons pe_int (pa_cons pe_int pa_nil))))))))))), ?_⟩
    rcases hv with ⟨n, ty, ne⟩ | ⟨a, xs, rfl, ha, hx⟩
    · have e : (n == "tuple" || (n == "bool" && "tuple" == "int")) = false := by simp [ne]
      refine ⟨_, rfl, _, _, _, _, _, rfl, .ty "tuple", ty.x, ty.kit "tuple", _, rfl, ?_⟩
      rw [e]
      exact q
    · have ty : Ty K H (.ref a) "tuple" := .tup ha
      refine ⟨_, rfl, _, _, _, _, _, rfl, .ty "tuple", ty.x, ty.kit "tuple", _, rfl, _, rfl, _, _, rfl, .inr ⟨_, ha, rfl⟩, rfl, _, rfl, iteIn (fun z => q) fun z => ?_⟩
      rcases hx with hx | ⟨x, y, w', n1, n2, n3, rfl, t1, t2, t3, hb⟩
      · omega
      refine ⟨_, rfl, _, _, rfl, ha, rfl, _, _, rfl, _, _, rfl, _, _, rfl, rfl, ?_⟩
      cases b1 : betw x 1 4 with
      | false =>
        refine ⟨_, rfl, x, n1, _, _, rfl, t1, ?_⟩
        rw [b1]
        exact ⟨_, rfl, q⟩
      | true =>
        refine ⟨_, rfl, x, n1, _, _, rfl, t1, ?_⟩
        rw [b1]
        refine ⟨_, rfl, ?_⟩
        cases b2 : betw y 1 4 with
        | false =>
          refine ⟨_, rfl, y, n2, _, _, rfl, t2, ?_⟩
          rw [b2]
          exact ⟨_, rfl, q⟩
        | true =>
          refine ⟨_, rfl, y, n2, _, _, rfl, t2, ?_⟩
          rw [b2]
          refine ⟨_, rfl, _, rfl, w', n3, _, _, rfl, t3, ?_⟩
          rw [b1, b2, Bool.true_and, Bool.true_and] at hb
          rw [hb]
          exact q
/-- what is no shape is refused -/
def spRef (K : PySem.W.Frag) (n : Nat) : Sp := fun vs H _ E => ∃ (us : List V) (v : V), vs = us ++ [v] ∧ us.length = n ∧ NotShape K H v ∧ ∀ d, H d = none → E (.ref (He.ga K "NoShape")) (some d) (upd H d (.xd [("shape", v)]))
theorem ok_checkX (T : Txt K mg) (R_NoShape : Rd P w K mg base "NoShape" ["shape"]) (D_is_shape : Dn P w K mg base CX0 3 "is_shape" ["thing"] (spBad K)) (F : At K mg "check_shape" s_check_shape ["shape"]) : Dn P w K mg base (L2.CX P w) 4 "check_shape" ["shape"] (spRef K 0) := by
  refine F.okX sc_check_shape (fun vs H Q E h => ?_) (fun f cdv A outer s H vs Q E hr h => ?_)
  · obtain ⟨us, v, rfl, hl, _⟩ := h
    cases us with
    | nil => rfl
    | cons _ _ => cases hl
  · obtain ⟨us, v, rfl, hl, hv, q⟩ := h
    obtain rfl : us = [] := List.eq_nil_of_length_eq_zero hl
    refine ⟨_, (pss_one (ps_if (pt_not (pt_val (pe_callD D_is_shape (by first | exact hr | exact hr.mono (by decide)) (pa_cons (pv 0) pa_nil)))) (pss_one (ps_raise rfl (takes_of rfl rfl rfl rfl) (pmk_rd R_NoShape (by first | exact hr | exact hr.mono (by decide)) (pa_cons (pv 0) pa_nil)))) pss_nil)), ?_⟩
    refine ⟨_, rfl, v, rfl, hv, _, rfl, ?_⟩
    exact ⟨_, rfl, rf_use rfl (by decide) fun d nd => q d nd⟩
theorem ok_countX (T : Txt K mg) {dv : V} (DX_check_shape : Dn P w K mg base (L2.CX P w) 4 "check_shape" ["shape"] (spRef K 0)) (F : AtK K mg "count" s_count [] "shape" dv) : DnK P w K mg base (L2.CX P w) 5 "count" [] "shape" dv (spRef K 0) := by
  refine F.okX sc_count (fun vs H Q E h => ?_) (fun f cdv A outer s H vs Q E hr h => ?_)
  · obtain ⟨us, v, rfl, hl, _⟩ := h
    cases us with
    | nil => rfl
    | cons _ _ => cases hl
  · obtain ⟨us, v, rfl, hl, hv, q⟩ := h
    obtain rfl : us = [] := List.eq_nil_of_length_eq_zero hl
    refine ⟨_, (pss_cons (ps_expr (pe_callX DX_check_shape (by first | exact hr | exact hr.mono (by decide)) (takes_of rfl rfl rfl rfl) (pa_cons (pv 0) pa_nil)))
  (pss_cons (ps_asg (pv 0) (pg_tup (by rfl) (pgs_cons (pg_name (i := 1) sc_count.nd rfl (by first | exact Or.inl rfl | exact Or.inr rfl)) (pgs_cons (pg_name (i := 2) sc_count.nd rfl (by first | exact Or.inl rfl | exact Or.inr rfl)) (pgs_cons (pg_name (i := 3) sc_count.nd rfl (by first | exact Or.inl rfl | exact Or.inr rfl)) pgs_nil)))))
  (pss_one (ps_ret (pe_op op_add (pe_op op_mul (pv 1) (pe_op op_add (pv 2) pe_int)) (pv 3)))))), ?_⟩
    exact ⟨_, rfl, [], v, rfl, rfl, hv, q⟩
theorem ok_placesX (T : Txt K mg) {dv : V} (D_kind_of : DnK P w K mg base CX0 8 "kind_of" ["place"] "shape" dv (spKind K)) (DX_count : DnK P w K mg base (L2.CX P w) 5 "count" [] "shape" dv (spRef K 0)) (F : AtK K mg "data_places" s_data_places [] "shape" dv) : DnK P w K mg base (L2.CX P w) 9 "data_places" [] "shape" dv (spRef K 0) := by
  refine F.okX sc_data_places (fun vs H Q E h => ?_) (fun f cdv A outer s H vs Q E hr h => ?_)
  · obtain ⟨us, v, rfl, hl, _⟩ := h
    cases us with
    | nil => rfl
    | cons _ _ => cases hl
  · obtain ⟨us, v, rfl, hl, hv, q⟩ := h
    obtain rfl : us = [] := List.eq_nil_of_length_eq_zero hl
    refine ⟨_, (pss_cons (ps_set (i := 1) sc_data_places.nd rfl (by first | exact Or.inl rfl | exact Or.inr rfl) (pe_callTy cr_range1 (by rfl) T.n_range (by decide +kernel) (pa_cons (pe_callWX0 DX_count (by first | exact hr | exact hr.mono (by decide)) (takes_of rfl rfl rfl rfl) (pv 0)) pa_nil)))
  (pss_one (ps_ret (pe_lc (own := [("place", 2)]) (g := (gName 2)) (by rfl) sc_data_places.nd (pi_rng (pv 1)) (blkOk_by (own := [("place", 2)]) (N := ["shape", "places", "place"]) (sc := defScope s_data_places) (by decide +kernel)) (fun _ _ _ _ _ => (pg_name (i := 2) sc_data_places.nd rfl (by first | exact Or.inl rfl | exact Or.inr rfl) (by first | exact Or.inr rfl | exact Or.inl rfl))) (fun _ _ _ _ _ => (pts_one (pt_cmpR op_eq (pe_ix (r := rIxT K) ix_tup (pe_callW D_kind_of (by first | exact hr | exact hr.mono (by decide)) (pa_cons (pv 2) pa_nil) (pv 0)) pe_int (fun _ _ => rfl)) pe_str (nomark _)))) (fun _ _ _ _ _ => (pv 2)))))), ?_⟩
    exact ⟨_, rfl, rfl, [], v, rfl, rfl, hv, q⟩
theorem ok_neededX (T : Txt K mg) {dv : V} (DX_data_places : DnK P w K mg base (L2.CX P w) 9 "data_places" [] "shape" dv (spRef K 0)) (F : AtK K mg "needed" s_needed ["first", "behind"] "shape" dv) : DnK P w K mg base (L2.CX P w) 10 "needed" ["first", "behind"] "shape" dv (spRef K 2) := by
  refine F.okX sc_needed (fun vs H Q E h => ?_) (fun f cdv A outer s H vs Q E hr h => ?_)
  · obtain ⟨us, v, rfl, hl, _⟩ := h
    rw [List.length_append, hl]
    rfl
  · obtain ⟨us, v, rfl, hl, hv, q⟩ := h
    obtain ⟨x, y, rfl⟩ : ∃ x y, us = [x, y] := by
      match us, hl with
      | [x, y], _ => exact ⟨x, y, rfl⟩
    refine ⟨_, (pss_cons (ps_set (i := 3) sc_needed.nd rfl (by first | exact Or.inl rfl | exact Or.inr rfl) (pe_callWX0 DX_data_places (by first | exact hr | exact hr.mono (by decide)) (takes_of rfl rfl rfl rfl) (pv 2)))
  (pss_one (ps_ret (pe_lc (own := [("at", 4), ("place", 5)]) (g := (gTup K 2 (gCons (gName 4) (gCons (gName 5) gNil)))) (by rfl) sc_needed.nd (pi_enum (by rfl) T.n_enumerate (pa_cons (pv 3) pa_nil)) (blkOk_by (own := [("at", 4), ("place", 5)]) (N := ["first", "behind", "shape", "data", "at", "place"]) (sc := defScope s_needed) (by decide +kernel)) (fun _ _ _ _ _ => (pg_tup rfl (pgs_cons (pg_name (i := 4) sc_needed.nd rfl (by first | exact Or.inl rfl | exact Or.inr rfl) (by first | exact Or.inr rfl | exact Or.inl rfl)) (pgs_cons (pg_name (i := 5) sc_needed.nd rfl (by first | exact Or.inl rfl | exact Or.inr rfl) (by first | exact Or.inr rfl | exact Or.inl rfl)) pgs_nil)))) (fun _ _ _ _ _ => (pts_one (pt_cmpR op_lt (pe_op op_add (pv 0) (pe_op op_mod (pe_op op_sub (pv 4) (pv 0)) (pe_callB (r := rLen K) call_len (by rfl) T.n_len (by decide +kernel) (pa_cons (pv 3) pa_nil)))) (pv 1) (nomark _)))) (fun _ _ _ _ _ => (pv 5)))))), ?_⟩
    exact ⟨_, rfl, rfl, [], v, rfl, rfl, hv, q⟩
-- F
/-- what is no shape, plain data; p not among it -/
def BadV (K : PySem.W.Frag) (p : Addr) (H : Hp) (v : V) : Prop := NotShape K (cutP p H) v ∧ ∃ d, Dp K (cutP p H) v d ∧ wide d = true ∧ PyData.depth d ≤ 1
def spNoMould (K : PySem.W.Frag) : Sp := fun vs H Q _ => ∃ (p a : Addr) (c g s m : Int), vs = [.ref p, .ref a] ∧ Purse H p c ∧ c ≤ 50000 ∧ Mould K H a g s m ∧ a ≠ p ∧ ∀ v H', BadV K p H' v → Kp p H H' → Purse H' p (c + 1) → Q v H'
theorem bad_tup {K : PySem.W.Frag} {p a : Addr} {H : Hp} {xs : List Int} (h : SqT K (cutP p H) a (xs.map V.int)) (hl : xs.length ≤ 1000) (hx : xs.length ≠ 3 ∨ ∃ x y z, xs = [x, y, z] ∧ (betw (.int x) 1 4 && betw (.int y) 1 4 && betw (.int z) 0 2) = false) : BadV K p H (.ref a) := by
  refine ⟨.inr ⟨a, _, rfl, h, ?_⟩, .tuple (xs.map PyData.int), dpT h, ?_, ?_⟩
  · rcases hx with hx | ⟨x, y, z, rfl, hb⟩
    · exact .inl (by rw [List.length_map]; exact hx)
    · exact .inr ⟨_, _, _, _, _, _, rfl, .int x, .int y, .int z, hb⟩
  · rw [wide, wide_ints, List.length_map, decide_eq_true (by omega)]
    rfl
  · have : ∀ xs : List Int, PyData.depthAll (xs.map PyData.int) = 0 := fun xs => by
      induction xs with
      | nil => rfl
      | cons x xs ih => rw [List.map_cons, PyData.depthAll, ih]; rfl
    rw [PyData.depth, this]
    decide
theorem bad_lst {K : PySem.W.Frag} {p a : Addr} {H : Hp} {xs : List Int} (h : SqL K (cutP p H) a (xs.map V.int)) (hl : xs.length ≤ 1000) : BadV K p H (.ref a) := by
  refine ⟨.inl ⟨_, .lst h, by decide⟩, .list (xs.map PyData.int), dpL h, ?_, ?_⟩
  · rw [wide, wide_ints, List.length_map, decide_eq_true (by omega)]
    rfl
  · have : ∀ xs : List Int, PyData.depthAll (xs.map PyData.int) = 0 := fun xs => by
      induction xs with
      | nil => rfl
      | cons x xs ih => rw [List.map_cons, PyData.depthAll, ih]; rfl
    rw [PyData.depth, this]
    decide
theorem ok_no_mould (T : Txt K mg) (D__law_drawn : Dn P w K mg base CX0 1 "_law_drawn" ["purse", "many"] spDrawn) (F : At K mg "_law_no_mould" s__law_no_mould ["purse", "mould"]) : Dn P w K mg base CX0 2 "_law_no_mould" ["purse", "mould"] (spNoMould K) := by
  refine F.ok sc__law_no_mould (fun vs H Q E h => ?_) (fun f cdv A outer s H vs Q E hr h => ?_)
  · obtain ⟨p, a, c, g, s, m, rfl, _⟩ := h
    rfl
  · obtain ⟨p, a, c, g, z, m, rfl, hp, hc, M, ap, q⟩ := h
    refine ⟨_, (pss_cons (ps_set (i := 2) sc__law_no_mould.nd rfl (by first | exact Or.inl rfl | exact Or.inr rfl) (pe_callD D__law_drawn (by first | exact hr | exact hr.mono (by decide)) (pa_cons (pv 0) (pa_cons pe_int pa_nil))))
  (pss_cons (ps_set (i := 3) sc__law_no_mould.nd rfl (by first | exact Or.inl rfl | exact Or.inr rfl) (pe_lstF (pa_cons (pe_callTy (r := rListF K) call_listF (by rfl) T.n_list (by decide +kernel) (pa_cons (pv 1) pa_nil)) (pa_cons (pe_slice sl_tupTF (pv 1) po_none (po_some pe_int)) (pa_cons (pe_op op_catTF (pv 1) (pe_tupF (pa_cons pe_int pa_nil))) (pa_cons (pe_op op_catTF (pe_tupF (pa_cons pe_int pa_nil)) (pe_slice sl_tupTF (pv 1) (po_some pe_int) po_none)) (pa_cons (pe_op op_catTF (pe_tupF (pa_cons pe_int pa_nil)) (pe_slice sl_tupTF (pv 1) (po_some pe_int) po_none)) (pa_cons (pe_op op_catTF (pe_slice sl_tupTF (pv 1) po_none (po_some pe_int)) (pe_tupF (pa_cons pe_int pa_nil))) pa_nil))))))))
  (pss_one (ps_ret (pe_ix (r := rIxL K) ix_list (pe_op op_catF (pv 3) (pe_lstF (pa_cons pe_non (pa_cons pe_bl (pa_cons pe_str (pa_cons pe_int pa_nil)))))) (pv 2) (fun _ _ => rfl)))))), ?_⟩
    refine ⟨_, rfl, p, c, _, rfl, hp, by omega, by decide, by decide, fun way H1 w0 w1 hp1 k1 => ?_⟩
    have M1 := M.kp ap k1
    obtain ⟨ha, g1, g4, z1, z4, m0, m2⟩ := id M1
    have nw2 : ¬ (HT.sIx [V.int g, .int z, .int m].length 0 none = 0 ∧ HT.sIx [V.int g, .int z, .int m].length [V.int g, .int z, .int m].length (some 2) = [V.int g, .int z, .int m].length) := fun e => absurd (show (2 : Nat) = 3 from e.2) (by decide)
    have nw1 : ¬ (HT.sIx [V.int g, .int z, .int m].length 0 (some 1) = 0 ∧ HT.sIx [V.int g, .int z, .int m].length [V.int g, .int z, .int m].length none = [V.int g, .int z, .int m].length) := fun e => absurd (show (1 : Nat) = 0 from e.1) (by decide)
    have c2 : cutV [V.int g, .int z, .int m] none (some 2) = [V.int g, .int z] := rfl
    have c1 : cutV [V.int g, .int z, .int m] (some 1) none = [V.int z, .int m] := rfl
    have lowp : ∀ {H' : Hp} {r : Addr}, Same H1 H' → H' r = none → r ≠ p := fun {H' r} s nr => by
      obtain ⟨_, _, _, e1, _⟩ := hp1
      exact ne_new (s _ _ e1) nr
    refine ⟨_, rfl, _, _, rfl, .inr ha, fun l1 H2 n2 s2 e2 => ?_⟩
    refine ⟨_, rfl, _, rfl, _, _, rfl, Same.sqt s2 ha, nw2, fun l2 H3 n3 s3 e3 => ?_⟩
    rw [c2] at e3
    have t13 := Same.trans s2 s3
    refine ⟨_, rfl, (by show 1 ≤ sizeLine; decide), fun t1 H4 n4 s4 e4 => ?_⟩
    have u14 := Same.trans t13 s4
    refine ⟨_, _, _, _, rfl, rfl, Same.sqt u14 ha, SqT.of e4, by simp, by simp, (by show 3 + 1 ≤ sizeLine; decide), fun l3 H5 n5 s5 e5 => ?_⟩
    have u15 := Same.trans u14 s5
    refine ⟨(by show 1 ≤ sizeLine; decide), fun t2 H6 n6 s6 e6 => ?_⟩
    have u16 := Same.trans u15 s6
    refine ⟨_, rfl, _, rfl, _, _, rfl, Same.sqt u16 ha, nw1, fun x1 H7 n7 s7 e7 => ?_⟩
    rw [c1] at e7
    have u17 := Same.trans u16 s7
    refine ⟨_, _, _, _, rfl, rfl, SqT.of (s7 _ _ e6), SqT.of e7, by decide, by simp, (by show 1 + 2 ≤ sizeLine; decide), fun l4 H8 n8 s8 e8 => ?_⟩
    have u18 := Same.trans u17 s8
    refine ⟨(by show 1 ≤ sizeLine; decide), fun t3 H9 n9 s9 e9 => ?_⟩
    have u19 := Same.trans u18 s9
    refine ⟨_, rfl, _, rfl, _, _, rfl, Same.sqt u19 ha, nw1, fun x2 H10 n10 s10 e10 => ?_⟩
    rw [c1] at e10
    have u110 := Same.trans u19 s10
    refine ⟨_, _, _, _, rfl, rfl, SqT.of (s10 _ _ e9), SqT.of e10, by decide, by simp, (by show 1 + 2 ≤ sizeLine; decide), fun l5 H11 n11 s11 e11 => ?_⟩
    have u111 := Same.trans u110 s11
    refine ⟨_, rfl, _, rfl, _, _, rfl, Same.sqt u111 ha, nw2, fun x3 H12 n12 s12 e12 => ?_⟩
    rw [c2] at e12
    have u112 := Same.trans u111 s12
    refine ⟨(by show 1 ≤ sizeLine; decide), fun t4 H13 n13 s13 e13 => ?_⟩
    have u113 := Same.trans u112 s13
    refine ⟨_, _, _, _, rfl, rfl, SqT.of (s13 _ _ e12), SqT.of e13, by simp, by decide, (by show 2 + 1 ≤ sizeLine; decide), fun l6 H14 n14 s14 e14 => ?_⟩
    have u114 := Same.trans u113 s14
    refine ⟨(by show 6 ≤ sizeLine; decide), fun so H15 n15 s15 e15 => ?_⟩
    have u115 := Same.trans u114 s15
    refine ⟨_, rfl, (by show 4 ≤ sizeLine; decide), fun l7 H16 n16 s16 e16 => ?_⟩
    have u116 := Same.trans u115 s16
    refine ⟨_, _, _, _, rfl, rfl, s16 _ _ e15, e16, (by show 6 + 4 ≤ sizeLine; decide), fun l8 H17 n17 s17 e17 => ?_⟩
    have u117 := Same.trans u116 s17
    obtain ⟨v, vm, ev⟩ := at_mem (xs := [V.ref l1, .ref l2, .ref l3, .ref l4, .ref l5, .ref l6, .non, .bl true, .str "", .int 5]) (v := way) w0 w1
    refine ⟨_, rfl, _, _, _, _, rfl, rfl, SqL.of e17, ev, ?_⟩
    refine q v H17 ?_ (k1.trans (Kp.of u117)) ((hp1.same u117).mono (by omega))
    have q1 := lowp (Same.refl _) n2
    have q2 := lowp s2 n3
    have q3 := lowp u14 n5
    have q4 := lowp u17 n8
    have q5 := lowp u110 n11
    have q6 := lowp u113 n14
    have r617 : Same H14 H17 := Same.trans s15 (Same.trans s16 s17)
    have r1117 : Same H11 H17 := Same.trans s12 (Same.trans s13 (Same.trans s14 r617))
    have r817 : Same H8 H17 := Same.trans s9 (Same.trans s10 (Same.trans s11 r1117))
    have r517 : Same H5 H17 := Same.trans s6 (Same.trans s7 (Same.trans s8 r817))
    have r317 : Same H3 H17 := Same.trans s4 (Same.trans s5 r517)
    have r217 : Same H2 H17 := Same.trans s3 r317
    simp only [List.mem_cons, List.not_mem_nil, or_false] at vm
    rcases vm with rfl | rfl | rfl | rfl | rfl | rfl | rfl | rfl | rfl | rfl
    · exact bad_lst (xs := [g, z, m]) (SqL.of (cutP_of (r217 _ _ e2) q1)) (by simp)
    · exact bad_tup (xs := [g, z]) (SqT.of (cutP_of (r317 _ _ e3) q2)) (by simp) (.inl (by simp))
    · exact bad_tup (xs := [g, z, m, 0]) (SqT.of (cutP_of (r517 _ _ e5) q3)) (by simp) (.inl (by simp))
    · exact bad_tup (xs := [0, z, m]) (SqT.of (cutP_of (r817 _ _ e8) q4)) (by simp) (.inr ⟨_, _, _, rfl, rfl⟩)
    · exact bad_tup (xs := [5, z, m]) (SqT.of (cutP_of (r1117 _ _ e11) q5)) (by simp) (.inr ⟨_, _, _, rfl, rfl⟩)
    · exact bad_tup (xs := [g, z, 3]) (SqT.of (cutP_of (r617 _ _ e14) q6)) (by simp) (.inr ⟨_, _, _, rfl, by rw [show betw (.int 3) 0 2 = false from rfl, Bool.and_false]⟩)
    · exact ⟨.inl ⟨_, .non, by decide⟩, .none, .non, rfl, by decide⟩
    · exact ⟨.inl ⟨_, .bl _, by decide⟩, .bool true, .bl _, rfl, by decide⟩
    · exact ⟨.inl ⟨_, .str _, by decide⟩, .str "", .str _, rfl, by decide⟩
    · exact ⟨.inl ⟨_, .int _, by decide⟩, .int 5, .int _, rfl, by decide⟩
theorem dp_eq (Z t : Nat) : dp Z t = t + t / Z := by
  unfold dp
  have h := Nat.div_add_mod t Z
  rw [Nat.mul_comm] at h
  rw [Nat.mul_succ]
  omega
theorem dp_lt {Z s t : Nat} (h : s < t) : dp Z s < dp Z t := by
  rw [dp_eq, dp_eq]
  have : s / Z ≤ t / Z := Nat.div_le_div_right (by omega)
  omega
theorem dat_list {G Z : Nat} (hG : G ≤ 4) (hZ : Z ≤ 4) : ((List.range (G * (Z + 1))).filter fun i => decide (i % (Z + 1) ≠ Z)) = (List.range (G * Z)).map (dp Z) := by
  have key : ∀ G : Fin 5, ∀ Z : Fin 5, ((List.range (G.val * (Z.val + 1))).filter fun i => decide (i % (Z.val + 1) ≠ Z.val)) = (List.range (G.val * Z.val)).map (dp Z.val) := by decide +kernel
  exact key ⟨G, by omega⟩ ⟨Z, by omega⟩
-- F
theorem needed_mem {G Z : Nat} {first behind : Int} {t : Nat} : ((dp Z t : Nat) : Int) ∈ neededL G Z first behind ↔ t < G * Z ∧ first + ((t : Int) - first) % ((G * Z : Nat) : Int) < behind := by
  unfold neededL
  simp only [List.mem_map, List.mem_filter, List.mem_range, decide_eq_true_eq]
  constructor
  · rintro ⟨s, hs, e⟩
    have : s = t := by
      rcases Nat.lt_trichotomy s t with h | h | h
      · have := dp_lt (Z := Z) h
        omega
      · exact h
      · have := dp_lt (Z := Z) h
        omega
    rw [← this]
    exact hs
  · intro h
    exact ⟨t, h, rfl⟩
theorem needed_sorted (G Z : Nat) (first behind : Int) : (neededL G Z first behind).Pairwise (· < ·) := by
  unfold neededL
  rw [List.pairwise_map]
  refine List.Pairwise.filter _ ?_
  refine List.Pairwise.imp (fun {a b} (h : a < b) => ?_) List.pairwise_lt_range
  have := dp_lt (Z := Z) h
  omega
/-- some number from first up to behind lies on data place t -/
theorem needed_num {w t : Nat} {first behind : Int} (ht : t < w) : first + ((t : Int) - first) % ((w : Nat) : Int) < behind ↔ ∃ n : Int, first ≤ n ∧ n < behind ∧ n % ((w : Nat) : Int) = t := by
  have hw : (0 : Int) < (w : Int) := by omega
  have b1 := Int.emod_nonneg ((t : Int) - first) (show (w : Int) ≠ 0 by omega)
  have b2 := Int.emod_lt_of_pos ((t : Int) - first) hw
  have e0 : (first + ((t : Int) - first) % (w : Int)) % (w : Int) = t := by
    rw [Int.add_emod, Int.emod_emod_of_dvd _ (Int.dvd_refl _), ← Int.add_emod, show first + ((t : Int) - first) = (t : Int) by omega]
    exact Int.emod_eq_of_lt (by omega) (by omega)
  constructor
  · intro h
    exact ⟨_, by omega, h, e0⟩
  · rintro ⟨n, h1, h2, h3⟩
    have e1 : ((t : Int) - first) % (w : Int) = (n - first) % (w : Int) := by
      rw [← h3, Int.sub_emod, Int.emod_emod_of_dvd _ (Int.dvd_refl _), ← Int.sub_emod]
    have h4 : (n - first) % (w : Int) ≤ n - first := by
      have := Int.mul_ediv_add_emod (n - first) (w : Int)
      have h5 : 0 ≤ (n - first) / (w : Int) := Int.ediv_nonneg (by omega) (by omega)
      have h6 : 0 ≤ (w : Int) * ((n - first) / (w : Int)) := Int.mul_nonneg (by omega) h5
      omega
    omega
theorem strict_uniq : ∀ {xs ys : List Int}, xs.Pairwise (· < ·) → ys.Pairwise (· < ·) → (∀ k, k ∈ xs ↔ k ∈ ys) → xs = ys
  | [], [], _, _, _ => rfl
  | [], y :: ys, _, _, h => absurd ((h y).mpr (List.mem_cons_self ..)) (by simp)
  | x :: xs, [], _, _, h => absurd ((h x).mp (List.mem_cons_self ..)) (by simp)
  | x :: xs, y :: ys, hx, hy, h => by
    have hx' := List.pairwise_cons.mp hx
    have hy' := List.pairwise_cons.mp hy
    have e : x = y := by
      rcases List.mem_cons.mp ((h x).mp (List.mem_cons_self ..)) with e | h1
      · exact e
      · rcases List.mem_cons.mp ((h y).mpr (List.mem_cons_self ..)) with e | h2
        · exact e.symm
        · have a := hy'.1 _ h1
          have b := hx'.1 _ h2
          omega
    subst e
    congr 1
    refine strict_uniq hx'.2 hy'.2 fun k => ⟨fun hk => ?_, fun hk => ?_⟩
    · rcases List.mem_cons.mp ((h k).mp (List.mem_cons_of_mem _ hk)) with e | h1
      · have := hx'.1 _ hk
        omega
      · exact h1
    · rcases List.mem_cons.mp ((h k).mpr (List.mem_cons_of_mem _ hk)) with e | h1
      · have := hy'.1 _ hk
        omega
      · exact h1
theorem strict_of : ∀ {xs : List Int}, xs.Pairwise (· ≤ ·) → xs.Nodup → xs.Pairwise (· < ·)
  | [], _, _ => .nil
  | x :: xs, h, n => by
    have h' := List.pairwise_cons.mp h
    have n' := List.nodup_cons.mp n
    refine List.pairwise_cons.mpr ⟨fun y hy => ?_, strict_of h'.2 n'.2⟩
    have a := h'.1 y hy
    have : x ≠ y := fun e => n'.1 (e ▸ hy)
    omega
def truths (ks : List Int) : List (Key × V) := ks.map fun k => (Sum.inl k, V.bl true)
theorem truths_put (ks : List Int) (k : Int) : putK (truths ks) (Sum.inl k) (.bl true) = truths (if k ∈ ks then ks else ks ++ [k]) := by
  by_cases h : k ∈ ks
  · rw [if_pos h]
    unfold putK
    rw [if_pos (by
      rw [List.any_eq_true]
      exact ⟨(Sum.inl k, .bl true), List.mem_map.mpr ⟨k, h, rfl⟩, by simp⟩)]
    unfold truths
    rw [List.map_map]
    refine List.map_congr_left fun j _ => ?_
    show (if (Sum.inl j : Key) = Sum.inl k then ((Sum.inl j : Key), V.bl true) else (Sum.inl j, V.bl true)) = _
    split <;> rfl
  · rw [if_neg h, putK_new]
    · unfold truths
      rw [List.map_append]
      rfl
    · refine valV_none fun p hp => ?_
      obtain ⟨j, hj, rfl⟩ := List.mem_map.mp hp
      intro e
      exact h (Sum.inl.inj e ▸ hj)
def spDue (K : PySem.W.Frag) : Sp := fun vs H Q _ => ∃ (first behind : Int) (a : Addr) (g s m : Int), vs = [.int first, .int behind, .ref a] ∧ Mould K H a g s m ∧ 0 ≤ first ∧ first ≤ 60 ∧ 0 ≤ behind ∧ behind ≤ 60 ∧
  ∀ r H', Same H H' → H r = none → H' r = some (.lst ((neededL g.toNat s.toNat first behind).map V.int)) → Q (.ref r) H'
theorem ok_due (T : Txt K mg) (F : At K mg "_law_due" s__law_due ["first", "behind", "mould"]) : Dn P w K mg base CX0 1 "_law_due" ["first", "behind", "mould"] (spDue K) := by
  refine F.ok sc__law_due (fun vs H Q E h => ?_) (fun f cdv A outer s H vs Q E hr h => ?_)
  · obtain ⟨first, behind, a, g, s, m, rfl, _⟩ := h
    rfl
  · obtain ⟨first, behind, a, g, z, m, rfl, M, f0, f1, b0, b1, q⟩ := h
    obtain ⟨G, Z, N, rfl, rfl, rfl⟩ := M.nat
    obtain ⟨ha, g1, g4, z1, z4, _, _⟩ := id M
    obtain ⟨_, _, l3, l4⟩ := M.le
    rw [Int.toNat_natCast, Int.toNat_natCast] at q
    have gz : G * Z ≤ 16 := Nat.mul_le_mul (show G ≤ 4 by omega) (show Z ≤ 4 by omega)
    have gz1 : 1 ≤ G * Z := Nat.mul_le_mul (show 1 ≤ G by omega) (show 1 ≤ Z by omega)
    have egz : (G : Int) * Z = ((G * Z : Nat) : Int) := (Int.natCast_mul ..).symm
    have egz2 : (G : Int) * ((Z : Int) + 1) = ((G * (Z + 1) : Nat) : Int) := by rw [Int.natCast_mul]; rfl
    refine ⟨_, (pss_cons (ps_set (i := 3) sc__law_due.nd rfl (by first | exact Or.inl rfl | exact Or.inr rfl) (pe_op op_mul (pe_ix (r := rIxT K) ix_tup (pv 2) pe_int (fun _ _ => rfl)) (pe_ix (r := rIxT K) ix_tup (pv 2) pe_int (fun _ _ => rfl))))
  (pss_cons (ps_setLc (i := 5) (own := [("place", 4)]) (g := (gName 4)) (by rfl) sc__law_due.nd rfl rfl (sw_true rfl rfl rfl (by decide +kernel)) (pi_range1 (by rfl) T.n_range (pa_cons (pe_op op_mul (pe_ix (r := rIxT K) ix_tup (pv 2) pe_int (fun _ _ => rfl)) (pe_op op_add (pe_ix (r := rIxT K) ix_tup (pv 2) pe_int (fun _ _ => rfl)) pe_int)) pa_nil)) (blkOk_by (own := [("place", 4)]) (N := ["first", "behind", "mould", "wide", "place", "spots", "there", "number"]) (sc := defScope s__law_due) (by decide +kernel)) (fun _ _ _ _ _ => (pg_name (i := 4) sc__law_due.nd rfl (by first | exact Or.inl rfl | exact Or.inr rfl) (by first | exact Or.inr rfl | exact Or.inl rfl))) (fun _ _ _ _ _ => (pts_one (pt_cmpR op_ne (pe_op op_mod (pv 4) (pe_op op_add (pe_ix (r := rIxT K) ix_tup (pv 2) pe_int (fun _ _ => rfl)) pe_int)) (pe_ix (r := rIxT K) ix_tup (pv 2) pe_int (fun _ _ => rfl)) (nomark _)))) (fun _ _ _ _ _ => (pv 4)))
  (pss_cons (ps_set (i := 6) sc__law_due.nd rfl (by first | exact Or.inl rfl | exact Or.inr rfl) pe_dnewF)
  (pss_cons (ps_for PassesOwn.never rfl (pi_range2 (by rfl) T.n_range (pa_cons (pv 0) (pa_cons (pv 1) pa_nil))) (pg_name (i := 7) sc__law_due.nd rfl (by first | exact Or.inl rfl | exact Or.inr rfl))
  (pss_one (ps_dput (hu1 hr.units) (pv 6) (pe_ix (r := rIxL K) ix_list (pv 5) (pe_op op_mod (pv 7) (pv 3)) (fun _ _ => rfl)) pe_bl rfl)))
  (pss_one (ps_ret (pe_callB (call_sortedDI rfl) (by rfl) T.n_sorted (by decide +kernel) (pa_cons (pv 6) pa_nil)))))))), ?_⟩
    refine ⟨_, rfl, _, _, _, _, rfl, rfl, ha, rfl, _, rfl, _, _, _, _, rfl, rfl, ha, rfl, _, _, rfl, rfl, .inl ⟨by omega, by omega⟩, ?_⟩
    refine ⟨_, rfl, _, _, _, _, rfl, rfl, ha, rfl, _, rfl, _, _, _, _, rfl, rfl, ha, rfl, _, _, rfl, rfl, _, _, rfl, rfl, .inl ⟨by omega, by omega⟩, ?_⟩
    refine ⟨_, rfl, by omega, by omega, fun D nD => ?_⟩
    refine lc_filt (fun i : Nat => V.int i) walk_range (fun i => i) (fun i => decide (i % (Z + 1) ≠ Z)) nD (small1000' (by omega)) (fun _ _ => trivial) ?_ ?_
    · intro i x H1 H2 R R' hi s1 y k1 k2
      obtain ⟨rfl, rfl⟩ := y
      have em : (0 + (i : Int)) % ((Z : Int) + 1) = ((i % (Z + 1) : Nat) : Int) := by rw [Int.zero_add, cmod]
      have ha2 := Same.sqt s1 ha
      have i0 : V.int (0 + (i : Int)) = V.int (i : Int) := by rw [Int.zero_add]
      have k1' : ∀ H6, Same H2 H6 → decide (i % (Z + 1) ≠ Z) = true → R (V.int (0 + (i : Int))) H6 := by rw [i0]; exact k1
      refine ⟨rfl, _, rfl, _, rfl, _, _, _, _, rfl, rfl, ha2, rfl, _, _, rfl, rfl, _, _, rfl, rfl, (by show (0 : Int) < _; omega), _, rfl, _, _, _, _, rfl, rfl, ha2, rfl, rfl, _, rfl, iteIn (fun h3 => ?_) fun h3 => ?_⟩
      · rw [em] at h3
        exact ⟨_, rfl, k1' _ (Same.refl _) (decide_eq_true (by omega))⟩
      · rw [em] at h3
        exact k2 _ (Same.refl _) (decide_eq_false (by omega))
    intro H1 s1 e1
    rw [List.map_id', egz2, Int.toNat_natCast, dat_list (by omega) (by omega), List.map_map] at e1
    refine fun th H2 nth s2 eth => ?_
    refine ⟨_, rfl, _, rfl, _, _, rfl, ⟨by omega, by omega, by omega, by omega⟩, ?_⟩
    have thD : D ≠ th := fun z => by rw [z] at e1; rw [e1] at nth; cases nth
    refine for_range (fun i σ H' => ∃ v4 v7, σ = [some (.int first), some (.int behind), some (.ref a), some (.int ((G : Int) * Z)), v4, some (.ref D), some (.ref th), v7] ∧ (∀ b o, H2 b = some o → b ≠ th → H' b = some o) ∧
      ∃ ks : List Int, H' th = some (.dK (truths ks)) ∧ ks.Nodup ∧ ks.length ≤ i ∧ ∀ k, k ∈ ks ↔ ∃ n : Int, first ≤ n ∧ n < first + i ∧ k = ((dp Z (n % ((G * Z : Nat) : Int)).toNat : Nat) : Int)) ⟨_, _, rfl, fun _ _ h _ => h, [], eth, .nil, Nat.le_refl 0, fun k => ⟨fun h => (by cases h), fun ⟨n, h1, h2, _⟩ => (by omega)⟩⟩ ?_ ?_
    · rintro i σ H3 hi ⟨v4, v7, rfl, p1, ks, p2, p3, p4, p5⟩
      have b0' := Int.emod_nonneg (first + (i : Int)) (show ((G * Z : Nat) : Int) ≠ 0 by omega)
      have b1' := Int.emod_lt_of_pos (first + (i : Int)) (show (0 : Int) < ((G * Z : Nat) : Int) by omega)
      obtain ⟨t, et⟩ : ∃ t : Nat, (first + (i : Int)) % ((G * Z : Nat) : Int) = t := ⟨((first + (i : Int)) % ((G * Z : Nat) : Int)).toNat, by omega⟩
      have ht : t < G * Z := by omega
      have e1' := p1 _ _ (s2 _ _ e1) thD
      have eat : atI ((List.range (G * Z)).map ((fun i : Nat => V.int i) ∘ dp Z)) ((first + (i : Int)) % ((G : Int) * Z)) = some (.int ((dp Z t : Nat) : Int)) := by
        rw [egz, et]
        exact atI_nat (by simp [ht])
      refine ⟨_, rfl, _, rfl, _, rfl, _, rfl, _, _, rfl, rfl, (by rw [egz]; omega), _, _, _, _, rfl, rfl, SqL.of e1', eat, ?_⟩
      refine ⟨_, _, rfl, DPut.k (k := Sum.inl ((dp Z t : Nat) : Int)) p2 (by unfold truths; rw [List.length_map]; exact Nat.lt_of_lt_of_le (m := 1000) (by omega) (by decide)), ?_⟩
      rw [truths_put]
      refine ⟨_, _, rfl, fun b o e nb => ?_, (if ((dp Z t : Nat) : Int) ∈ ks then ks else ks ++ [((dp Z t : Nat) : Int)]), upd_same, ?_, ?_, fun k => ?_⟩
      · rw [upd_ne nb]
        exact p1 b o e nb
      · split
        · exact p3
        · rename_i hn
          refine List.nodup_append.mpr ⟨p3, by simp, fun x hx y hy e => ?_⟩
          rw [List.mem_singleton.mp hy] at e
          exact hn (e ▸ hx)
      · split
        · omega
        · rw [List.length_append, List.length_singleton]
          omega
      · have step : (∃ n : Int, first ≤ n ∧ n < first + ((i + 1 : Nat) : Int) ∧ k = ((dp Z (n % ((G * Z : Nat) : Int)).toNat : Nat) : Int)) ↔ (k ∈ ks ∨ k = ((dp Z t : Nat) : Int)) := by
          constructor
          · rintro ⟨n, h1, h2, h3⟩
            by_cases hn : n < first + (i : Int)
            · exact .inl ((p5 k).mpr ⟨n, h1, hn, h3⟩)
            · right
              rw [h3, show n = first + (i : Int) by omega, et, Int.toNat_natCast]
          · rintro (h | h)
            · obtain ⟨n, h1, h2, h3⟩ := (p5 k).mp h
              exact ⟨n, h1, by omega, h3⟩
            · exact ⟨first + (i : Int), by omega, by omega, by rw [et, Int.toNat_natCast]; exact h⟩
        rw [step]
        split
        · rename_i hm
          exact ⟨.inl, fun h => by
            rcases h with h | h
            · exact h
            · rw [h]; exact hm⟩
        · rw [List.mem_append, List.mem_singleton]
    · rintro σ H3 ⟨v4, v7, rfl, p1, ks, p2, p3, p4, p5⟩
      refine ⟨_, rfl, th, _, ks, rfl, .inl p2, (by unfold truths; rw [List.map_map]; rfl), by omega, fun ys r hp hs nr => ?_⟩
      have e9 : ys = neededL G Z first behind := by
        refine strict_uniq (strict_of hs ((List.Perm.nodup_iff hp).mpr p3)) (needed_sorted G Z first behind) fun k => ?_
        rw [hp.mem_iff, p5]
        constructor
        · rintro ⟨n, h1, h2, rfl⟩
          have c0 := Int.emod_nonneg n (show ((G * Z : Nat) : Int) ≠ 0 by omega)
          have c1 := Int.emod_lt_of_pos n (show (0 : Int) < ((G * Z : Nat) : Int) by omega)
          refine needed_mem.mpr ⟨by omega, (needed_num (by omega)).mpr ⟨n, h1, by omega, by omega⟩⟩
        · intro h
          have h' := h
          unfold neededL at h'
          obtain ⟨t, _, rfl⟩ := List.mem_map.mp h'
          obtain ⟨h1, h2⟩ := needed_mem.mp h
          obtain ⟨n, h3, h4, h5⟩ := (needed_num h1).mp h2
          exact ⟨n, h3, by omega, by rw [h5, Int.toNat_natCast]⟩
      rw [e9]
      have sH : Same H H3 := fun c o e => p1 _ _ (s2 _ _ (s1 _ _ e)) (ne_of_none (s1 _ _ e) nth)
      exact q r _ (Same.trans sH (Same.new nr)) (Same.low sH nr) upd_same
-- F
def spRefused (K : PySem.W.Frag) : Sp := fun vs H Q _ => ∃ x y v, vs = [x, y, v] ∧ NotShape K H v ∧ ∀ r l H', Same H H' → H' r = some (.lst [.ref l, v]) → H' l = some (.lst [.str "NoShape", .str "Sherd", .str "Value"]) → Q (.ref r) H'
theorem ok_refused (T : Txt K mg) (R_NoShape : Rd P w K mg base "NoShape" ["shape"]) {dv : V} (DX_needed : DnK P w K mg base (L2.CX P w) 10 "needed" ["first", "behind"] "shape" dv (spRef K 2)) (D__law_classes : Dn P w K mg base CX0 1 "_law_classes" ["caught"] (spClasses K "NoShape")) (F : At K mg "_law_refused" s__law_refused ["first", "behind", "thing"]) : Dn P w K mg base CX0 11 "_law_refused" ["first", "behind", "thing"] (spRefused K) := by
  refine F.ok sc__law_refused (fun vs H Q E h => ?_) (fun f cdv A outer s H vs Q E hr h => ?_)
  · obtain ⟨x, y, v, rfl, _⟩ := h
    rfl
  · obtain ⟨x, y, v, rfl, hv, q⟩ := h
    refine ⟨_, (pss_cons (ps_set (i := 3) sc__law_refused.nd rfl (by first | exact Or.inl rfl | exact Or.inr rfl) pe_non)
  (pss_cons (ps_set (i := 4) sc__law_refused.nd rfl (by first | exact Or.inl rfl | exact Or.inr rfl) pe_str)
  (pss_cons (ps_try_keepF (i := 5) (j := 3) (k := 4) rfl rfl rfl sc__law_refused.nd rfl rfl rfl rfl rfl rfl (by decide) (by decide) (by decide) (by decide) (by decide) ⟨rfl, by decide, Or.inl T.g_NoShape⟩ rfl rfl (fun X1 h1 => by rw [h1]; rfl) (fun W pn xe tk _ => (pss_one (ps_expr (pe_callWX DX_needed (by first | exact hr | exact hr.mono (by decide)) tk (pa_cons (pv 0) (pa_cons (pv 1) pa_nil)) (pv 2))))))
  (pss_one (ps_ret (pe_lstF (pa_cons (pe_callD D__law_classes (by first | exact hr | exact hr.mono (by decide)) (pa_cons (pv 3) pa_nil)) (pa_cons (pv 4) pa_nil)))))))), ?_⟩
    refine ⟨_, rfl, _, rfl, _, rfl, rfl, rfl, [x, y], v, rfl, rfl, hv, fun d nd => ⟨exmB_ok T.m_NoShape_NoShape, He.ga K "NoShape", d, _, v, rfl, rfl, upd_same, R_NoShape.rf.fld, R_NoShape.rf.no _ (List.mem_singleton.mpr rfl), rfl, fun e ne => ?_⟩⟩
    have s1 : Same H (upd (upd H d (.xd [("shape", v)])) e (exh e (.ref (He.ga K "NoShape")) (some d))) := Same.trans (Same.new nd) (Same.new ne)
    have ed : upd (upd H d (.xd [("shape", v)])) e (exh e (.ref (He.ga K "NoShape")) (some d)) d = some (.xd [("shape", v)]) := old upd_same ne
    have ee : upd (upd H d (.xd [("shape", v)])) e (exh e (.ref (He.ga K "NoShape")) (some d)) e = some (exh e (.ref (He.ga K "NoShape")) (some d)) := upd_same
    generalize upd (upd H d (.xd [("shape", v)])) e (exh e (.ref (He.ga K "NoShape")) (some d)) = H1 at *
    refine ⟨_, rfl, e, some d, rfl, ee, .inr ⟨d, _, rfl, ed⟩, fun r H2 s2 er => ?_⟩
    refine ⟨_, rfl, (by show 2 ≤ sizeLine; decide), fun l H3 nl s3 el => ?_⟩
    exact q l r H3 (Same.trans s1 (Same.trans s2 s3)) el (s3 _ _ er)
/-- both are the same data, of depth below k -/
def spSame (K : PySem.W.Frag) : Nat → Sp
  | 0 => fun _ _ _ _ => False
  | k + 1 => fun vs H Q _ => ∃ (x y : V) (d : PyData), vs = [x, y] ∧ Dp K H x d ∧ Dp K H y d ∧ wide d = true ∧ PyData.depth d ≤ k ∧ ∀ H', Same H H' → Q (.bl true) H'
theorem ok_same (T : Txt K mg) (F : At K mg "_law_same" s__law_same ["found", "due"]) : ∀ k, Dn P w K mg base CX0 k "_law_same" ["found", "due"] (spSame K k)
  | 0 => F.none 0
  | k + 1 => by
    have D__law_same := ok_same T F k
    refine F.ok sc__law_same (fun vs H Q E h => ?_) (fun f cdv A outer s H vs Q E hr h => ?_)
    · obtain ⟨x, y, d, rfl, _⟩ := h
      rfl
    · obtain ⟨x, y, d, rfl, hx, hy, hw, hk, q⟩ := h
      refine ⟨_, (pss_cons (ps_if (pt_val (pe_callB (r := rIsiT K) call_isiT (by rfl) T.n_isinstance (by decide +kernel) (pa_cons (pv 1) (pa_cons (pe_tup (pa_cons (pe_bltn (v := .ty "list") (u := .type "list") (by rfl) T.n_list (by decide +kernel) (by exact rfl)) (pa_cons (pe_bltn (v := .ty "tuple") (u := .type "tuple") (by rfl) T.n_tuple (by decide +kernel) (by exact rfl)) pa_nil))) pa_nil)))) (pss_cons (ps_if (PW.pt (pw_or (pt_cmpR op_ne (pe_callB (r := rIsi K) call_isi (by rfl) T.n_isinstance (by decide +kernel) (pa_cons (pv 0) (pa_cons (pe_bltn (v := .ty "list") (u := .type "list") (by rfl) T.n_list (by decide +kernel) (by exact rfl)) pa_nil))) (pe_callB (r := rIsi K) call_isi (by rfl) T.n_isinstance (by decide +kernel) (pa_cons (pv 1) (pa_cons (pe_bltn (v := .ty "list") (u := .type "list") (by rfl) T.n_list (by decide +kernel) (by exact rfl)) pa_nil))) (nomark _)) (pw_or1 (pt_not (pt_val (pe_callB (r := rIsiT K) call_isiT (by rfl) T.n_isinstance (by decide +kernel) (pa_cons (pv 0) (pa_cons (pe_tup (pa_cons (pe_bltn (v := .ty "list") (u := .type "list") (by rfl) T.n_list (by decide +kernel) (by exact rfl)) (pa_cons (pe_bltn (v := .ty "tuple") (u := .type "tuple") (by rfl) T.n_tuple (by decide +kernel) (by exact rfl)) pa_nil))) pa_nil)))))))) (pss_one (ps_ret pe_bl)) pss_nil)
  (pss_one (ps_ret (pe_and (pe_cmpR op_eq (pe_callB (r := rLen K) call_len (by rfl) T.n_len (by decide +kernel) (pa_cons (pv 0) pa_nil)) (pe_callB (r := rLen K) call_len (by rfl) T.n_len (by decide +kernel) (pa_cons (pv 1) pa_nil)) (nomark _)) (pe_one (pe_callB (r := rAll K) (cr_all rfl) (by rfl) T.n_all (by decide +kernel) (pa_cons (pe_lc (own := [("k", 2)]) (g := (gName 2)) (by rfl) sc__law_same.nd (pi_range1 (by rfl) T.n_range (pa_cons (pe_callB (r := rLen K) call_len (by rfl) T.n_len (by decide +kernel) (pa_cons (pv 1) pa_nil)) pa_nil)) (blkOk_by (own := [("k", 2)]) (N := ["found", "due", "k"]) (sc := defScope s__law_same) (by decide +kernel)) (fun _ _ _ _ _ => (pg_name (i := 2) sc__law_same.nd rfl (by first | exact Or.inl rfl | exact Or.inr rfl) (by first | exact Or.inr rfl | exact Or.inl rfl))) (fun _ _ _ _ _ => pts_nil) (fun _ _ _ _ _ => (pe_callD D__law_same (by first | exact hr | exact hr.mono (by decide)) (pa_cons (pe_ix (r := rIx K) ix_seq (pv 0) (pv 2) (fun _ _ => rfl)) (pa_cons (pe_ix (r := rIx K) ix_seq (pv 1) (pv 2) (fun _ _ => rfl)) pa_nil))))) pa_nil))))))) pss_nil)
  (pss_one (ps_ret (pe_and (pe_cmpR op_eq (pv 0) (pv 1) (nomark _)) (pe_one (pe_cmpR op_eq (pe_callB (r := rIsi K) call_isi (by rfl) T.n_isinstance (by decide +kernel) (pa_cons (pv 0) (pa_cons (pe_bltn (v := .ty "bool") (u := .type "bool") (by rfl) T.n_bool (by decide +kernel) (by exact rfl)) pa_nil))) (pe_callB (r := rIsi K) call_isi (by rfl) T.n_isinstance (by decide +kernel) (pa_cons (pv 1) (pa_cons (pe_bltn (v := .ty "bool") (u := .type "bool") (by rfl) T.n_bool (by decide +kernel) (by exact rfl)) pa_nil))) (nomark _))))))), ?_⟩
      have tx := Dp.ty hx
      have ty := Dp.ty hy
      refine ⟨_, rfl, (by show 2 ≤ sizeLine; decide), fun t nt => ?_⟩
      have s1 := Same.new (o := .tup [.ty "list", .ty "tuple"]) nt
      refine ⟨_, _, _, _, _, _, rfl, upd_same, .cons (.ty _) (.cons (.ty _) .nil), (ty.same s1).x, kitAnyLT ty.names, ?_⟩
      have hx1 := dp_same s1 hx
      have hy1 := dp_same s1 hy
      generalize upd H t (.tup [.ty "list", .ty "tuple"]) = H1 at *
      cases d with
      | dict kv => cases hx
      | list ds =>
        have tx1 : Ty K H1 _ _ := Dp.ty hx1
        have ty1 : Ty K H1 _ _ := Dp.ty hy1
        obtain ⟨a, xs, rfl, sa, pa⟩ : ∃ a xs, x = .ref a ∧ SqL K H1 a xs ∧ DpAll K H1 xs ds := by
          cases hx1 with | lst h1 h2 => exact ⟨_, _, rfl, h1, h2⟩
        obtain ⟨b, ys, rfl, sb, pb⟩ : ∃ b ys, y = .ref b ∧ SqL K H1 b ys ∧ DpAll K H1 ys ds := by
          cases hy1 with | lst h1 h2 => exact ⟨_, _, rfl, h1, h2⟩
        have lx := dpAll_len pa
        have ly := dpAll_len pb
        rw [wide, Bool.and_eq_true, decide_eq_true_eq] at hw
        rw [PyData.depth] at hk
        refine ⟨_, rfl, ?_⟩
        refine ⟨_, rfl, _, _, _, _, _, rfl, .ty "list", tx1.x, tx1.kit "list", _, rfl, _, _, _, _, _, rfl, .ty "list", ty1.x, ty1.kit "list", rfl, _, rfl, iteDn (fun z => absurd rfl z) fun _ => ?_⟩
        refine ⟨_, rfl, (by show 2 ≤ sizeLine; decide), fun t2 nt2 => ?_⟩
        have s2 := Same.new (o := .tup [.ty "list", .ty "tuple"]) nt2
        refine ⟨_, _, _, _, _, _, rfl, upd_same, .cons (.ty _) (.cons (.ty _) .nil), (tx1.same s2).x, kitAnyLT tx1.names, _, rfl, ?_⟩
        have s3 := Same.trans s1 s2
        have sa := Same.seq s2 sa
        have sb := Same.seq s2 sb
        have pa := dpAll_same s2 pa
        have pb := dpAll_same s2 pb
        generalize upd H1 t2 (.tup [.ty "list", .ty "tuple"]) = H2 at *
        refine ⟨_, rfl, ?_⟩
        refine ⟨_, _, rfl, .inl ⟨_, sa, rfl⟩, ?_⟩
        refine ⟨_, rfl, _, _, rfl, .inl ⟨_, sb, rfl⟩, rfl, ?_⟩
        rw [lx, ly, decide_eq_true rfl]
        refine ⟨_, rfl, ?_⟩
        refine ⟨_, rfl, _, _, rfl, .inl ⟨_, sb, rfl⟩, ?_⟩
        rw [ly]
        obtain ⟨k, rfl⟩ : ∃ k', k = k' + 1 := ⟨k - 1, by omega⟩
        refine ⟨_, rfl, by omega, by omega, fun D nD => ?_⟩
        rw [Int.toNat_natCast]
        refine lc_bools walk_range (fun _ => true) nD (small1000' hw.1) (fun _ _ => trivial) ?_ ?_
        · intro i x H3 H4 R R' hi s4 y kk
          obtain ⟨rfl, rfl⟩ := y
          have hx' : i < xs.length := by omega
          have hy' : i < ys.length := by omega
          have e1 : xs[i]? = some xs[i] := List.getElem?_eq_getElem hx'
          have e2 : ys[i]? = some ys[i] := List.getElem?_eq_getElem hy'
          obtain ⟨d1, g1, p1⟩ := dpAll_get pa e1
          obtain ⟨d2, g2, p2⟩ := dpAll_get pb e2
          rw [g1] at g2
          cases g2
          have a1 : atI xs (0 + (i : Int)) = some xs[i] := by rw [Int.zero_add]; exact atI_nat e1
          have a2 : atI ys (0 + (i : Int)) = some ys[i] := by rw [Int.zero_add]; exact atI_nat e2
          refine ⟨rfl, _, rfl, _, rfl, .inl ⟨_, _, _, _, rfl, rfl, Same.seq s4 sa, a1, ?_⟩⟩
          refine ⟨_, rfl, _, rfl, .inl ⟨_, _, _, _, rfl, rfl, Same.seq s4 sb, a2, ?_⟩⟩
          exact ⟨_, _, d1, rfl, dp_same s4 p1, dp_same s4 p2, wideAll_get hw.2 g1, Nat.le_trans (depth_get g1) (by omega), kk⟩
        · intro H3 s4 e4
          refine ⟨_, _, rfl, SqL.of e4, ?_⟩
          rw [show ((List.range ds.length).map fun _ => true).all id = true by simp]
          exact q _ (Same.trans s3 s4)
      | tuple ds =>
        have tx1 : Ty K H1 _ _ := Dp.ty hx1
        have ty1 : Ty K H1 _ _ := Dp.ty hy1
        obtain ⟨a, xs, rfl, sa, pa⟩ : ∃ a xs, x = .ref a ∧ SqT K H1 a xs ∧ DpAll K H1 xs ds := by
          cases hx1 with | tup h1 h2 => exact ⟨_, _, rfl, h1, h2⟩
        obtain ⟨b, ys, rfl, sb, pb⟩ : ∃ b ys, y = .ref b ∧ SqT K H1 b ys ∧ DpAll K H1 ys ds := by
          cases hy1 with | tup h1 h2 => exact ⟨_, _, rfl, h1, h2⟩
        have lx := dpAll_len pa
        have ly := dpAll_len pb
        rw [wide, Bool.and_eq_true, decide_eq_true_eq] at hw
        rw [PyData.depth] at hk
        refine ⟨_, rfl, ?_⟩
        refine ⟨_, rfl, _, _, _, _, _, rfl, .ty "list", tx1.x, tx1.kit "list", _, rfl, _, _, _, _, _, rfl, .ty "list", ty1.x, ty1.kit "list", rfl, _, rfl, iteDn (fun z => absurd rfl z) fun _ => ?_⟩
        refine ⟨_, rfl, (by show 2 ≤ sizeLine; decide), fun t2 nt2 => ?_⟩
        have s2 := Same.new (o := .tup [.ty "list", .ty "tuple"]) nt2
        refine ⟨_, _, _, _, _, _, rfl, upd_same, .cons (.ty _) (.cons (.ty _) .nil), (tx1.same s2).x, kitAnyLT tx1.names, _, rfl, ?_⟩
        have s3 := Same.trans s1 s2
        have sa := Same.sqt s2 sa
        have sb := Same.sqt s2 sb
        have pa := dpAll_same s2 pa
        have pb := dpAll_same s2 pb
        generalize upd H1 t2 (.tup [.ty "list", .ty "tuple"]) = H2 at *
        refine ⟨_, rfl, ?_⟩
        refine ⟨_, _, rfl, .inr ⟨_, sa, rfl⟩, ?_⟩
        refine ⟨_, rfl, _, _, rfl, .inr ⟨_, sb, rfl⟩, rfl, ?_⟩
        rw [lx, ly, decide_eq_true rfl]
        refine ⟨_, rfl, ?_⟩
        refine ⟨_, rfl, _, _, rfl, .inr ⟨_, sb, rfl⟩, ?_⟩
        rw [ly]
        obtain ⟨k, rfl⟩ : ∃ k', k = k' + 1 := ⟨k - 1, by omega⟩
        refine ⟨_, rfl, by omega, by omega, fun D nD => ?_⟩
        rw [Int.toNat_natCast]
        refine lc_bools walk_range (fun _ => true) nD (small1000' hw.1) (fun _ _ => trivial) ?_ ?_
        · intro i x H3 H4 R R' hi s4 y kk
          obtain ⟨rfl, rfl⟩ := y
          have hx' : i < xs.length := by omega
          have hy' : i < ys.length := by omega
          have e1 : xs[i]? = some xs[i] := List.getElem?_eq_getElem hx'
          have e2 : ys[i]? = some ys[i] := List.getElem?_eq_getElem hy'
          obtain ⟨d1, g1, p1⟩ := dpAll_get pa e1
          obtain ⟨d2, g2, p2⟩ := dpAll_get pb e2
          rw [g1] at g2
          cases g2
          have a1 : atI xs (0 + (i : Int)) = some xs[i] := by rw [Int.zero_add]; exact atI_nat e1
          have a2 : atI ys (0 + (i : Int)) = some ys[i] := by rw [Int.zero_add]; exact atI_nat e2
          refine ⟨rfl, _, rfl, _, rfl, .inr (.inl ⟨_, _, _, _, rfl, rfl, Same.sqt s4 sa, a1, ?_⟩)⟩
          refine ⟨_, rfl, _, rfl, .inr (.inl ⟨_, _, _, _, rfl, rfl, Same.sqt s4 sb, a2, ?_⟩)⟩
          exact ⟨_, _, d1, rfl, dp_same s4 p1, dp_same s4 p2, wideAll_get hw.2 g1, Nat.le_trans (depth_get g1) (by omega), kk⟩
        · intro H3 s4 e4
          refine ⟨_, _, rfl, SqL.of e4, ?_⟩
          rw [show ((List.range ds.length).map fun _ => true).all id = true by simp]
          exact q _ (Same.trans s3 s4)
      | none =>
        have tx1 : Ty K H1 _ _ := Dp.ty hx1
        have ty1 : Ty K H1 _ _ := Dp.ty hy1
        cases hx1
        cases hy1
        refine ⟨_, rfl, ?_⟩
        refine ⟨_, rfl, _, rfl, rfl, ?_⟩
        rw [decide_eq_true rfl]
        refine ⟨_, rfl, _, rfl, _, _, _, _, _, rfl, .ty "bool", tx1.x, tx1.kit "bool", _, rfl, _, _, _, _, _, rfl, .ty "bool", ty1.x, ty1.kit "bool", rfl, ?_⟩
        rw [decide_eq_true rfl]
        exact q _ s1
      | bool b =>
        have tx1 : Ty K H1 _ _ := Dp.ty hx1
        have ty1 : Ty K H1 _ _ := Dp.ty hy1
        cases hx1
        cases hy1
        refine ⟨_, rfl, ?_⟩
        refine ⟨_, rfl, _, rfl, rfl, ?_⟩
        rw [decide_eq_true rfl]
        refine ⟨_, rfl, _, rfl, _, _, _, _, _, rfl, .ty "bool", tx1.x, tx1.kit "bool", _, rfl, _, _, _, _, _, rfl, .ty "bool", ty1.x, ty1.kit "bool", rfl, ?_⟩
        rw [decide_eq_true rfl]
        exact q _ s1
      | int i =>
        have tx1 : Ty K H1 _ _ := Dp.ty hx1
        have ty1 : Ty K H1 _ _ := Dp.ty hy1
        cases hx1
        cases hy1
        refine ⟨_, rfl, ?_⟩
        refine ⟨_, rfl, _, rfl, rfl, ?_⟩
        rw [decide_eq_true rfl]
        refine ⟨_, rfl, _, rfl, _, _, _, _, _, rfl, .ty "bool", tx1.x, tx1.kit "bool", _, rfl, _, _, _, _, _, rfl, .ty "bool", ty1.x, ty1.kit "bool", rfl, ?_⟩
        rw [decide_eq_true rfl]
        exact q _ s1
      | str u =>
        have tx1 : Ty K H1 _ _ := Dp.ty hx1
        have ty1 : Ty K H1 _ _ := Dp.ty hy1
        cases hx1
        cases hy1
        refine ⟨_, rfl, ?_⟩
        refine ⟨_, rfl, _, rfl, rfl, ?_⟩
        rw [decide_eq_true rfl]
        refine ⟨_, rfl, _, rfl, _, _, _, _, _, rfl, .ty "bool", tx1.x, tx1.kit "bool", _, rfl, _, _, _, _, _, rfl, .ty "bool", ty1.x, ty1.kit "bool", rfl, ?_⟩
        rw [decide_eq_true rfl]
        exact q _ s1
-- F
theorem times_size16 (n : Nat) (h : n ≤ 63) : 0 ≤ (if (if (16 : Int) < (n : Int) then (16 : Int) else (n : Int)) > 1 then (if (16 : Int) < (n : Int) then (16 : Int) else (n : Int)) else 1) ∧ (if (if (16 : Int) < (n : Int) then (16 : Int) else (n : Int)) > 1 then (if (16 : Int) < (n : Int) then (16 : Int) else (n : Int)) else 1) ≤ 16 := by
  split <;> split <;> omega
theorem near_size (x : Int) : 0 ≤ (if (if x < 60 then x else (60 : Int)) > 0 then (if x < 60 then x else (60 : Int)) else 0) ∧ (if (if x < 60 then x else (60 : Int)) > 0 then (if x < 60 then x else (60 : Int)) else 0) ≤ 60 := by
  split <;> split <;> omega
theorem depth_ints : ∀ xs : List Int, PyData.depthAll (xs.map PyData.int) = 0
  | [] => rfl
  | x :: xs => by rw [List.map_cons, PyData.depthAll, depth_ints xs]; rfl
theorem dp_list {K : PySem.W.Frag} {H : Hp} {a : Addr} {xs : List Int} (h : SqL K H a (xs.map V.int)) (hl : xs.length ≤ 1000000) : Dp K H (.ref a) (.list (xs.map PyData.int)) ∧ wide (.list (xs.map PyData.int)) = true ∧ PyData.depth (.list (xs.map PyData.int)) ≤ 1 := by
  refine ⟨dpL h, ?_, ?_⟩
  · rw [wide, wide_ints, List.length_map, decide_eq_true hl]
    rfl
  · rw [PyData.depth, depth_ints]
    decide
theorem needed_len (G Z : Nat) (first behind : Int) : (neededL G Z first behind).length ≤ G * Z := by
  unfold neededL
  rw [List.length_map]
  exact Nat.le_trans (List.length_filter_le ..) (by rw [List.length_range]; exact Nat.le_refl _)
def spLaw (K : PySem.W.Frag) : Sp := fun vs H Q _ => ∃ (a : Addr) (ns : List Int), vs = [.ref a] ∧ SqL K H a (ns.map V.int) ∧ ns.length ≤ 63 ∧ ∀ H', Q (.bl true) H'
theorem ok_law (T : Txt K mg) {dv : V} (hdv : dv = .ref (He.ga K "PLAIN")) (D__law_purse : Dn P w K mg base CX0 1 "_law_purse" ["script", "k"] (spPurse K)) (D__law_drawn : Dn P w K mg base CX0 1 "_law_drawn" ["purse", "many"] spDrawn) (D__law_shape : Dn P w K mg base CX0 2 "_law_shape" ["purse", "most"] (spMould K))
    (D_needed : DnK P w K mg base CX0 10 "needed" ["first", "behind"] "shape" dv (spNeeded K)) (D__law_due : Dn P w K mg base CX0 1 "_law_due" ["first", "behind", "mould"] (spDue K)) (D__law_same : Dn P w K mg base CX0 3 "_law_same" ["found", "due"] (spSame K 3))
    (D__law_no_mould : Dn P w K mg base CX0 2 "_law_no_mould" ["purse", "mould"] (spNoMould K)) (D__law_refused : Dn P w K mg base CX0 11 "_law_refused" ["first", "behind", "thing"] (spRefused K))
    {f : Addr} {fd : FuncData} (F : FunD K "law" "law" (defArgs s_law) (defBody s_law) (defScope s_law) [] [] f fd) : FnOk P w K mg base CX0 12 f fd ["script"] (spLaw K) := by
  refine ok0 F sc_law (fun vs H Q E h => ?_) (fun f cdv A outer s H vs Q E hr h => ?_)
  · obtain ⟨a, ns, rfl, _⟩ := h
    rfl
  · obtain ⟨a, zs, rfl, hS, hl, q⟩ := h
    refine ⟨_, (pss_cons (ps_for PassesOwn.never rfl (pi_range1 (by rfl) T.n_range (pa_cons (pe_callB (call_max2 rfl) (by rfl) T.n_max (by decide +kernel) (pa_cons pe_int (pa_cons (pe_callB (call_min2 rfl) (by rfl) T.n_min (by decide +kernel) (pa_cons pe_int (pa_cons (pe_callB (r := rLen K) call_len (by rfl) T.n_len (by decide +kernel) (pa_cons (pv 0) pa_nil)) pa_nil))) pa_nil))) pa_nil)) (pg_name (i := 1) sc_law.nd rfl (by first | exact Or.inl rfl | exact Or.inr rfl))
  (pss_cons (ps_set (i := 2) sc_law.nd rfl (by first | exact Or.inl rfl | exact Or.inr rfl) (pe_callD D__law_purse (by first | exact hr | exact hr.mono (by decide)) (pa_cons (pv 0) (pa_cons (pv 1) pa_nil))))
  (pss_cons (ps_set (i := 3) sc_law.nd rfl (by first | exact Or.inl rfl | exact Or.inr rfl) (pe_callD D__law_drawn (by first | exact hr | exact hr.mono (by decide)) (pa_cons (pv 2) (pa_cons pe_int pa_nil))))
  (pss_cons (ps_set (i := 4) sc_law.nd rfl (by first | exact Or.inl rfl | exact Or.inr rfl) (pe_callD D__law_shape (by first | exact hr | exact hr.mono (by decide)) (pa_cons (pv 2) (pa_cons pe_int pa_nil))))
  (pss_cons (ps_set (i := 5) sc_law.nd rfl (by first | exact Or.inl rfl | exact Or.inr rfl) (pe_callD D__law_drawn (by first | exact hr | exact hr.mono (by decide)) (pa_cons (pv 2) (pa_cons pe_int pa_nil))))
  (pss_cons (ps_set (i := 6) sc_law.nd rfl (by first | exact Or.inl rfl | exact Or.inr rfl) (pe_callD D__law_drawn (by first | exact hr | exact hr.mono (by decide)) (pa_cons (pv 2) (pa_cons pe_int pa_nil))))
  (pss_cons (ps_if (pt_cmpR op_eq (pv 3) pe_int (nomark _)) (pss_one (ps_set (i := 6) sc_law.nd rfl (by first | exact Or.inl rfl | exact Or.inr rfl) (pe_callB (call_max2 rfl) (by rfl) T.n_max (by decide +kernel) (pa_cons pe_int (pa_cons (pe_callB (call_min2 rfl) (by rfl) T.n_min (by decide +kernel) (pa_cons pe_int (pa_cons (pe_op op_sub (pe_op op_add (pv 5) (pe_op op_mod (pv 6) pe_int)) pe_int) pa_nil))) pa_nil))))) pss_nil)
  (pss_cons (ps_if (pt_not (pt_val (pe_callD D__law_same (by first | exact hr | exact hr.mono (by decide)) (pa_cons (pe_callW D_needed (by first | exact hr | exact hr.mono (by decide)) (pa_cons (pv 5) (pa_cons (pv 6) pa_nil)) (pv 4)) (pa_cons (pe_callD D__law_due (by first | exact hr | exact hr.mono (by decide)) (pa_cons (pv 5) (pa_cons (pv 6) (pa_cons (pv 4) pa_nil)))) pa_nil))))) (pss_one (ps_ret pe_bl)) pss_nil)
  (pss_cons (ps_if (pt_not (pt_val (pe_callD D__law_same (by first | exact hr | exact hr.mono (by decide)) (pa_cons (pe_callWd D_needed (by first | exact hr | exact hr.mono (by decide)) (pa_cons (pv 5) (pa_cons (pv 6) pa_nil))) (pa_cons (pe_callD D__law_due (by first | exact hr | exact hr.mono (by decide)) (pa_cons (pv 5) (pa_cons (pv 6) (pa_cons (pe_tupF (pa_cons pe_int (pa_cons pe_int (pa_cons pe_int pa_nil)))) pa_nil)))) pa_nil))))) (pss_one (ps_ret pe_bl)) pss_nil)
  (pss_cons (ps_set (i := 7) sc_law.nd rfl (by first | exact Or.inl rfl | exact Or.inr rfl) (pe_callD D__law_no_mould (by first | exact hr | exact hr.mono (by decide)) (pa_cons (pv 2) (pa_cons (pv 4) pa_nil))))
  (pss_one (ps_if (pt_not (pt_val (pe_callD D__law_same (by first | exact hr | exact hr.mono (by decide)) (pa_cons (pe_callD D__law_refused (by first | exact hr | exact hr.mono (by decide)) (pa_cons (pv 5) (pa_cons (pv 6) (pa_cons (pv 7) pa_nil)))) (pa_cons (pe_lstF (pa_cons (pe_lstF (pa_cons pe_str (pa_cons pe_str (pa_cons pe_str pa_nil)))) (pa_cons (pv 7) pa_nil))) pa_nil))))) (pss_one (ps_ret pe_bl)) pss_nil))))))))))))
  (pss_one (ps_ret (pe_callD D__law_same (by first | exact hr | exact hr.mono (by decide)) (pa_cons (pe_lstF (pa_cons (pe_callWd D_needed (by first | exact hr | exact hr.mono (by decide)) (pa_cons pe_int (pa_cons pe_int pa_nil))) (pa_cons (pe_callWd D_needed (by first | exact hr | exact hr.mono (by decide)) (pa_cons pe_int (pa_cons pe_int pa_nil))) (pa_cons (pe_callWd D_needed (by first | exact hr | exact hr.mono (by decide)) (pa_cons pe_int (pa_cons pe_int pa_nil))) pa_nil)))) (pa_cons (pe_lstF (pa_cons (pe_lstF pa_nil) (pa_cons (pe_lstF pa_nil) (pa_cons (pe_lstF (pa_cons pe_int (pa_cons pe_int pa_nil))) pa_nil)))) pa_nil)))))), ?_⟩
    subst hdv
    have hM : ∀ H', Mould K H' (He.ga K "PLAIN") 2 3 2 := fun H' => ⟨T.q_PLAIN _, by decide, by decide, by decide, by decide, by decide, by decide⟩
    obtain ⟨z0, z1⟩ := times_size16 (zs.map V.int).length (by rw [List.length_map]; exact hl)
    refine ⟨_, rfl, _, _, rfl, .inl ⟨_, hS, rfl⟩, _, _, rfl, _, _, rfl, _, rfl, by omega, by omega, ?_⟩
    refine for_range (lo := 0) (fun i σ H' => ∃ v1 v2 v3 v4 v5 v6 v7, σ = [some (.ref a), v1, v2, v3, v4, v5, v6, v7] ∧ SqL K H' a (zs.map V.int)) ⟨none, none, none, none, none, none, none, rfl, hS⟩ ?_ ?_
    · rintro i_ σ H0 hi ⟨v1, v2, v3, v4, v5, v6, v7, rfl, hS0⟩
      refine ⟨_, rfl, _, rfl, a, zs, _, rfl, hS0, by omega, by omega, by omega, fun p x y np x0 y0 y1 => ?_⟩
      have hp0 : Purse (upd H0 p (.lst [.int x, .int y, .int 0])) p 0 := ⟨x, y, 0, upd_same, x0, y0, y1, by omega, by omega⟩
      have s01 : Same H0 (upd H0 p (.lst [.int x, .int y, .int 0])) := Same.new np
      generalize upd H0 p (.lst [.int x, .int y, .int 0]) = H1 at *
      refine ⟨_, rfl, p, 0, _, rfl, hp0, by omega, by decide, by decide, fun nr H2 nr0 nr1 hp2 k2 => ?_⟩
      refine ⟨_, rfl, p, _, 22, rfl, hp2, by omega, by omega, fun b g z m H3 M3 lm hp3 k3 nb => ?_⟩
      have pb : b ≠ p := Ne.symm (hp2.ne nb)
      obtain ⟨G, Z, N, rfl, rfl, rfl⟩ := M3.nat
      obtain ⟨hb3, g1, g4, z1', z4, m0, m2⟩ := id M3
      have gz : G * Z ≤ 16 := Nat.mul_le_mul (show G ≤ 4 by omega) (show Z ≤ 4 by omega)
      refine ⟨_, rfl, p, _, _, rfl, hp3, by omega, by decide, by decide, fun fi H4 fi0 fi1 hp4 k4 => ?_⟩
      refine ⟨_, rfl, p, _, _, rfl, hp4, by omega, by decide, by decide, fun be H5 be0 be1 hp5 k5 => ?_⟩
      have k35 := k4.trans k5
      have M5 := M3.kp pb k35
      have s05 : Same H0 H5 := Kp.same s01 np (k2.trans (k3.trans k35))
      refine ⟨_, rfl, rfl, _, rfl, iteI (fun hn => ?a) fun hn => ?b⟩
      case' a =>
        refine ⟨_, rfl, _, rfl, _, _, rfl, rfl, (by show (0 : Int) < 7; decide), _, _, rfl, rfl, _, _, rfl, rfl, _, _, rfl, _, _, rfl, ?_⟩
        obtain ⟨bh0, bh1⟩ := near_size (fi + be % 7 - 1)
        generalize (if (if fi + be % 7 - 1 < 60 then fi + be % 7 - 1 else (60 : Int)) > 0 then (if fi + be % 7 - 1 < 60 then fi + be % 7 - 1 else (60 : Int)) else 0) = bh at bh0 bh1 ⊢
      case' b =>
        have bh0 := be0
        have bh1 : be ≤ 60 := by omega
        generalize be = bh at bh0 bh1 ⊢
      all_goals
        refine ⟨_, rfl, _, rfl, _, rfl, rfl, rfl, fi, bh, b, G, Z, N, rfl, M5, fun r1 H6 s6 n1 e1 => ?_⟩
        refine ⟨_, rfl, _, rfl, _, rfl, fi, bh, b, G, Z, N, rfl, M5.same s6, fi0, by omega, bh0, bh1, fun r2 H7 s7 n2 e2 => ?_⟩
        have hl1 := needed_len G Z fi bh
        rw [Int.toNat_natCast, Int.toNat_natCast] at e1 e2
        obtain ⟨d1, w1, p1⟩ := dp_list (K := K) (SqL.of (s7 _ _ e1)) (by omega)
        obtain ⟨d2, w2, p2⟩ := dp_list (K := K) (SqL.of e2) (by omega)
        refine ⟨_, _, _, rfl, d1, d2, w1, Nat.le_trans p1 (by decide), fun H8 s8 => ?_⟩
        refine ⟨_, rfl, ?_⟩
        have s58 := Same.trans s6 (Same.trans s7 s8)
        refine ⟨_, rfl, _, rfl, fi, bh, _, 2, 3, 2, rfl, hM _, fun r3 H9 s9 n3 e3 => ?_⟩
        refine ⟨_, rfl, _, rfl, (by show 3 ≤ sizeLine; decide), fun t H10 nt s10 et => ?_⟩
        refine ⟨fi, bh, t, 2, 3, 2, rfl, ⟨SqT.of et, by decide, by decide, by decide, by decide, by decide, by decide⟩, fi0, by omega, bh0, bh1, fun r4 H11 s11 n4 e4 => ?_⟩
        have hl2 := needed_len 2 3 fi bh
        obtain ⟨d3, w3, p3⟩ := dp_list (K := K) (SqL.of (s11 _ _ (s10 _ _ e3))) (by show (neededL 2 3 fi bh).length ≤ _; omega)
        obtain ⟨d4, w4, p4⟩ := dp_list (K := K) (SqL.of e4) (by show (neededL 2 3 fi bh).length ≤ _; omega)
        refine ⟨_, _, _, rfl, d3, d4, w3, Nat.le_trans p3 (by decide), fun H12 s12 => ?_⟩
        refine ⟨_, rfl, ?_⟩
        have s512 := Same.trans s58 (Same.trans s9 (Same.trans s10 (Same.trans s11 s12)))
        refine ⟨_, rfl, _, rfl, p, b, _, G, Z, N, rfl, hp5.same s512, by omega, M5.same s512, pb, fun v H13 ⟨hv, dv, dp, dw, dd⟩ k13 hp13 => ?_⟩
        have hv' := hv.same (cutP_same p H13)
        have dp' := dp_same (cutP_same p H13) dp
        refine ⟨_, rfl, _, rfl, _, rfl, _, _, v, rfl, hv', fun r5 l5 H14 s14 e5 el5 => ?_⟩
        refine ⟨(by show 3 ≤ sizeLine; decide), fun l6 H15 n6 s15 e6 => ?_⟩
        refine ⟨_, rfl, (by show 2 ≤ sizeLine; decide), fun l7 H16 n7 s16 e7 => ?_⟩
        have s1416 := Same.trans s15 s16
        have da : Dp K H16 (.ref l5) (.list [.str "NoShape", .str "Sherd", .str "Value"]) := .lst (SqL.of (s1416 _ _ el5)) (.cons (.str _) (.cons (.str _) (.cons (.str _) .nil)))
        have db : Dp K H16 (.ref l6) (.list [.str "NoShape", .str "Sherd", .str "Value"]) := .lst (SqL.of (s16 _ _ e6)) (.cons (.str _) (.cons (.str _) (.cons (.str _) .nil)))
        have dv' := dp_same (Same.trans s14 s1416) dp'
        refine ⟨_, _, .list [.list [.str "NoShape", .str "Sherd", .str "Value"], dv], rfl, .lst (SqL.of (s1416 _ _ e5)) (.cons da (.cons dv' .nil)), .lst (SqL.of e7) (.cons db (.cons dv' .nil)), ?_, ?_, fun H17 s17 => ?_⟩
        · rw [wide, wideAll, wideAll, wideAll, dw]
          rfl
        · rw [PyData.depth, PyData.depthAll, PyData.depthAll, PyData.depthAll, show PyData.depth (.list [.str "NoShape", .str "Sherd", .str "Value"]) = 1 from rfl]
          have hm : max 1 (max (PyData.depth dv) 0) ≤ 1 := Nat.max_le.mpr ⟨Nat.le_refl _, Nat.max_le.mpr ⟨dd, Nat.zero_le _⟩⟩
          exact Nat.succ_le_succ hm
        · refine ⟨_, rfl, ?_⟩
          have s05' : Same H0 H17 := fun c o e => s17 _ _ (s16 _ _ (s15 _ _ (s14 _ _ (k13 _ _ (s512 _ _ (s05 _ _ e)) (ne_of_none e np)))))
          exact ⟨_, _, _, _, _, _, _, rfl, s05'.seq hS0⟩
    · rintro σ H1 ⟨v1, v2, v3, v4, v5, v6, v7, rfl, hS0⟩
      refine ⟨0, 0, _, 2, 3, 2, rfl, hM _, fun r1 H2 s2 n1 e1 => ?_⟩
      refine ⟨60, 0, _, 2, 3, 2, rfl, hM _, fun r2 H3 s3 n2 e2 => ?_⟩
      refine ⟨5, 7, _, 2, 3, 2, rfl, hM _, fun r3 H4 s4 n3 e3 => ?_⟩
      refine ⟨(by show 3 ≤ sizeLine; decide), fun l1 H5 n4 s5 e4 => ?_⟩
      refine ⟨Nat.zero_le _, fun l2 H6 n5 s6 e5 => ?_⟩
      refine ⟨Nat.zero_le _, fun l3 H7 n6 s7 e6 => ?_⟩
      refine ⟨(by show 2 ≤ sizeLine; decide), fun l4 H8 n7 s8 e7 => ?_⟩
      refine ⟨(by show 3 ≤ sizeLine; decide), fun l5 H9 n8 s9 e8 => ?_⟩
      have c1 : neededL (Int.toNat 2) (Int.toNat 3) 0 0 = [] := by decide
      have c2 : neededL (Int.toNat 2) (Int.toNat 3) 60 0 = [] := by decide
      have c3 : neededL (Int.toNat 2) (Int.toNat 3) 5 7 = [0, 6] := by decide
      rw [c1] at e1
      rw [c2] at e2
      rw [c3] at e3
      have s69 := Same.trans s7 (Same.trans s8 s9)
      have s49 := Same.trans s5 (Same.trans s6 s69)
      have a1 : Dp K H9 (.ref r1) (.list []) := .lst (SqL.of (s49 _ _ (s4 _ _ (s3 _ _ e1)))) .nil
      have a2 : Dp K H9 (.ref r2) (.list []) := .lst (SqL.of (s49 _ _ (s4 _ _ e2))) .nil
      have a3 : Dp K H9 (.ref r3) (.list [.int 0, .int 6]) := .lst (SqL.of (s49 _ _ e3)) (.cons (.int _) (.cons (.int _) .nil))
      have b1 : Dp K H9 (.ref l2) (.list []) := .lst (SqL.of (s69 _ _ e5)) .nil
      have b2 : Dp K H9 (.ref l3) (.list []) := .lst (SqL.of (s9 _ _ (s8 _ _ e6))) .nil
      have b3 : Dp K H9 (.ref l4) (.list [.int 0, .int 6]) := .lst (SqL.of (s9 _ _ e7)) (.cons (.int _) (.cons (.int _) .nil))
      exact ⟨_, _, .list [.list [], .list [], .list [.int 0, .int 6]], rfl, .lst (SqL.of (s9 _ _ (s8 _ _ (s7 _ _ (s6 _ _ e4))))) (.cons a1 (.cons a2 (.cons a3 .nil))), .lst (SqL.of e8) (.cons b1 (.cons b2 (.cons b3 .nil))), by decide, by decide, fun H10 _ => q _⟩
end
def d_is_whole : He.DefD := ⟨("is_whole", none), "is_whole", "is_whole", defArgs s_is_whole, defBody s_is_whole, defScope s_is_whole, [], []⟩
def d_is_between : He.DefD := ⟨("is_between", none), "is_between", "is_between", defArgs s_is_between, defBody s_is_between, defScope s_is_between, [], []⟩
def d_is_shape : He.DefD := ⟨("is_shape", none), "is_shape", "is_shape", defArgs s_is_shape, defBody s_is_shape, defScope s_is_shape, [], []⟩
def d_check_shape : He.DefD := ⟨("check_shape", none), "check_shape", "check_shape", defArgs s_check_shape, defBody s_check_shape, defScope s_check_shape, [], []⟩
def d_count : He.DefD := ⟨("count", none), "count", "count", defArgs s_count, defBody s_count, defScope s_count, [], [("shape", .glo "PLAIN")]⟩
def d_is_place : He.DefD := ⟨("is_place", none), "is_place", "is_place", defArgs s_is_place, defBody s_is_place, defScope s_is_place, [], [("shape", .glo "PLAIN")]⟩
def d_check_place : He.DefD := ⟨("check_place", none), "check_place", "check_place", defArgs s_check_place, defBody s_check_place, defScope s_check_place, [], []⟩
def d_kind_of : He.DefD := ⟨("kind_of", none), "kind_of", "kind_of", defArgs s_kind_of, defBody s_kind_of, defScope s_kind_of, [], [("shape", .glo "PLAIN")]⟩
def d_data_places : He.DefD := ⟨("data_places", none), "data_places", "data_places", defArgs s_data_places, defBody s_data_places, defScope s_data_places, [], [("shape", .glo "PLAIN")]⟩
def d_needed : He.DefD := ⟨("needed", none), "needed", "needed", defArgs s_needed, defBody s_needed, defScope s_needed, [], [("shape", .glo "PLAIN")]⟩
def d__law_purse : He.DefD := ⟨("_law_purse", none), "_law_purse", "_law_purse", defArgs s__law_purse, defBody s__law_purse, defScope s__law_purse, [], []⟩
def d__law_drawn : He.DefD := ⟨("_law_drawn", none), "_law_drawn", "_law_drawn", defArgs s__law_drawn, defBody s__law_drawn, defScope s__law_drawn, [], []⟩
def d__law_shape : He.DefD := ⟨("_law_shape", none), "_law_shape", "_law_shape", defArgs s__law_shape, defBody s__law_shape, defScope s__law_shape, [], []⟩
def d__law_same : He.DefD := ⟨("_law_same", none), "_law_same", "_law_same", defArgs s__law_same, defBody s__law_same, defScope s__law_same, [], []⟩
def d__law_classes : He.DefD := ⟨("_law_classes", none), "_law_classes", "_law_classes", defArgs s__law_classes, defBody s__law_classes, defScope s__law_classes, [], []⟩
def d__law_no_mould : He.DefD := ⟨("_law_no_mould", none), "_law_no_mould", "_law_no_mould", defArgs s__law_no_mould, defBody s__law_no_mould, defScope s__law_no_mould, [], []⟩
def d__law_refused : He.DefD := ⟨("_law_refused", none), "_law_refused", "_law_refused", defArgs s__law_refused, defBody s__law_refused, defScope s__law_refused, [], []⟩
def d__law_due : He.DefD := ⟨("_law_due", none), "_law_due", "_law_due", defArgs s__law_due, defBody s__law_due, defScope s__law_due, [], []⟩
def d_law : He.DefD := ⟨("law", none), "law", "law", defArgs s_law, defBody s_law, defScope s_law, [], []⟩
def di_NoShape : He.DefD := ⟨("NoShape", some "__init__"), "__init__", "NoShape.__init__", defArgs si_NoShape, defBody si_NoShape, defScope si_NoShape, [], []⟩
def fn : List He.DefD := [d_is_whole, d_is_between, d_is_shape, d_check_shape, d_count, d_is_place, d_check_place, d_kind_of, d_data_places, d_needed, d__law_purse, d__law_drawn, d__law_shape, d__law_same, d__law_classes, d__law_no_mould, d__law_refused, d__law_due, d_law, di_NoShape]
def fa : List He.Fa := [.glo "is_whole", .glo "is_between", .glo "is_shape", .glo "check_shape", .glo "count", .glo "is_place", .glo "check_place", .glo "kind_of", .glo "data_places", .glo "needed", .glo "_law_purse", .glo "_law_drawn", .glo "_law_shape", .glo "_law_same", .glo "_law_classes", .glo "_law_no_mould", .glo "_law_refused", .glo "_law_due", .glo "law", .free "len", .free "max", .free "min", .free "range", .free "isinstance", .free "int", .free "bool", .free "tuple", .free "list", .free "divmod", .free "all", .free "sum", .free "zip", .free "dict", .free "enumerate", .free "sorted", .free "ValueError", .glo "PLAIN", .glo "SherdError", .glo "NoRest", .glo "NoShape", .glo "NoPlace", .glo "NoRow", .glo "Hidden", .glo "NoName", .glo "Taken", .glo "NoHouse", .glo "Down", .glo "NoCard", .glo "Dark", .glo "NoBook", .glo "Stale", .glo "NoObject", .glo "NoHour", .glo "NoTicket", .glo "NoHomes", .glo "NotAll", .glo "Lost", .glo "NoWeight", .glo "NoRoom", .glo "NoLevel", .glo "NoMoves", .glo "NoText", .glo "NoOrder", .glo "NotEmpty", .glo "Stopped"]
abbrev R : PySem.W.OpenRow := PySem.W.OpenLaw.row PySem.Challenge.rw_sherdhall_k10_data_pieces_needed
def ex (K : PySem.W.Frag) : Bool := He.tupB K "PLAIN" [.int 2, .int 3, .int 2] && (rfB K "NoShape" ["shape"] && (isAll K "NoShape" [("NoRest", false), ("NoShape", true), ("NoPlace", false), ("NoRow", false), ("Hidden", false), ("NoName", false), ("Taken", false), ("NoHouse", false), ("Down", false), ("NoCard", false), ("Dark", false), ("NoBook", false), ("Stale", false), ("NoObject", false), ("NoHour", false), ("NoTicket", false), ("NoHomes", false), ("NotAll", false), ("Lost", false), ("NoWeight", false), ("NoRoom", false), ("NoLevel", false), ("NoMoves", false), ("NoText", false), ("NoOrder", false), ("NotEmpty", false), ("Stopped", false), ("SherdError", true)] && (exmB K "NoShape" "NoShape")))
abbrev hk : PySem.W.Hook := hookB 4 fa fn ex
def ob (s : PySem.W.SharedT) : AlB := obsB 4 fa fn ex (HandSHeadRun.getT s)
theorem ob_eq (s : PySem.W.SharedT) : ob s = hk.obs s.abs := obsB_eq (HandSHeadRun.getT_eq s)
def loose0 : List Str := ["__name__", "SherdError", "NoRest", "NoShape", "NoPlace", "NoRow", "Hidden", "NoName", "Taken", "NoHouse", "Down", "NoCard", "Dark", "NoBook", "Stale", "NoObject", "NoHour", "NoTicket", "NoHomes", "NotAll", "Lost", "NoWeight", "NoRoom", "NoLevel", "NoMoves", "NoText", "NoOrder", "NotEmpty", "Stopped", "is_whole"]
def loose1 : List Str := ["is_between", "is_shape", "check_shape", "count", "is_place", "check_place", "kind_of", "data_places", "needed", "_law_purse", "_law_drawn", "_law_shape", "_law_same", "_law_classes", "_law_no_mould", "_law_refused", "_law_due", "PLAIN"]
def loose : List Str := loose0 ++ loose1
theorem run (w : World) : HandSHeadRun.RunEq R (PySem.W.view R.prog [52]) hk ob 15000 loose w := by
  intro os
  kernel_rfl
theorem facts {P : Program} {w : World} {K : PySem.W.Frag} {h : Heap} {mg : Str → Option Value} {f : Addr} (X : K.In h) (G : h.Ns mainGlobals mg) (hfa : mg ("law" : Str) = some (.ref f)) (c : He.SaysD fa fn K) (cx : ex K = true) :
    ∃ fd : FuncData, (∀ (s : Shared) (v : Value), BindsTo s fd ⟨[v], []⟩ [("script", v)]) ∧ ∀ base : Heap, K.In base → base.Ns mainGlobals mg → FnOk P w K mg base CX0 12 f fd ["script"] (spLaw K) := by
  obtain ⟨fd_is_whole, F_is_whole⟩ := c.def_ 0 (d := d_is_whole) rfl
  have A_is_whole : At K mg "is_whole" s_is_whole ["thing"] := ⟨_, _, F_is_whole, He.glo_ok X G (c.fact 0 (f := .glo "is_whole") rfl), F_is_whole.bindsN fun _ _ _ _ _ _ us hl => match us, hl with | [_], _ => rfl⟩
  obtain ⟨fd_is_between, F_is_between⟩ := c.def_ 1 (d := d_is_between) rfl
  have A_is_between : At K mg "is_between" s_is_between ["thing", "least", "most"] := ⟨_, _, F_is_between, He.glo_ok X G (c.fact 1 (f := .glo "is_between") rfl), F_is_between.bindsN fun _ _ _ _ _ _ us hl => match us, hl with | [_, _, _], _ => rfl⟩
  obtain ⟨fd_is_shape, F_is_shape⟩ := c.def_ 2 (d := d_is_shape) rfl
  have A_is_shape : At K mg "is_shape" s_is_shape ["thing"] := ⟨_, _, F_is_shape, He.glo_ok X G (c.fact 2 (f := .glo "is_shape") rfl), F_is_shape.bindsN fun _ _ _ _ _ _ us hl => match us, hl with | [_], _ => rfl⟩
  obtain ⟨fd_check_shape, F_check_shape⟩ := c.def_ 3 (d := d_check_shape) rfl
  have A_check_shape : At K mg "check_shape" s_check_shape ["shape"] := ⟨_, _, F_check_shape, He.glo_ok X G (c.fact 3 (f := .glo "check_shape") rfl), F_check_shape.bindsN fun _ _ _ _ _ _ us hl => match us, hl with | [_], _ => rfl⟩
  obtain ⟨fd_count, F_count⟩ := c.def_ 4 (d := d_count) rfl
  have A_count : AtK K mg "count" s_count [] "shape" (.ref (He.ga K "PLAIN")) := atK_mk F_count (He.glo_ok X G (c.fact 4 (f := .glo "count") rfl)) (fun _ _ _ _ _ _ us ks l1 l2 => match us, ks, l1, l2 with | [], [_], _, _ => ⟨_, _, _, _, _, _, rfl, rfl, rfl⟩) (fun _ _ _ _ _ _ us ws l1 l2 => match us, ws, l1, l2 with | [], [_], _, _ => rfl)
  obtain ⟨fd_is_place, F_is_place⟩ := c.def_ 5 (d := d_is_place) rfl
  have A_is_place : AtK K mg "is_place" s_is_place ["thing"] "shape" (.ref (He.ga K "PLAIN")) := atK_mk F_is_place (He.glo_ok X G (c.fact 5 (f := .glo "is_place") rfl)) (fun _ _ _ _ _ _ us ks l1 l2 => match us, ks, l1, l2 with | [_], [_], _, _ => ⟨_, _, _, _, _, _, rfl, rfl, rfl⟩) (fun _ _ _ _ _ _ us ws l1 l2 => match us, ws, l1, l2 with | [_], [_], _, _ => rfl)
  obtain ⟨fd_check_place, F_check_place⟩ := c.def_ 6 (d := d_check_place) rfl
  have A_check_place : At K mg "check_place" s_check_place ["thing", "shape"] := ⟨_, _, F_check_place, He.glo_ok X G (c.fact 6 (f := .glo "check_place") rfl), F_check_place.bindsN fun _ _ _ _ _ _ us hl => match us, hl with | [_, _], _ => rfl⟩
  obtain ⟨fd_kind_of, F_kind_of⟩ := c.def_ 7 (d := d_kind_of) rfl
  have A_kind_of : AtK K mg "kind_of" s_kind_of ["place"] "shape" (.ref (He.ga K "PLAIN")) := atK_mk F_kind_of (He.glo_ok X G (c.fact 7 (f := .glo "kind_of") rfl)) (fun _ _ _ _ _ _ us ks l1 l2 => match us, ks, l1, l2 with | [_], [_], _, _ => ⟨_, _, _, _, _, _, rfl, rfl, rfl⟩) (fun _ _ _ _ _ _ us ws l1 l2 => match us, ws, l1, l2 with | [_], [_], _, _ => rfl)
  obtain ⟨fd_data_places, F_data_places⟩ := c.def_ 8 (d := d_data_places) rfl
  have A_data_places : AtK K mg "data_places" s_data_places [] "shape" (.ref (He.ga K "PLAIN")) := atK_mk F_data_places (He.glo_ok X G (c.fact 8 (f := .glo "data_places") rfl)) (fun _ _ _ _ _ _ us ks l1 l2 => match us, ks, l1, l2 with | [], [_], _, _ => ⟨_, _, _, _, _, _, rfl, rfl, rfl⟩) (fun _ _ _ _ _ _ us ws l1 l2 => match us, ws, l1, l2 with | [], [_], _, _ => rfl)
  obtain ⟨fd_needed, F_needed⟩ := c.def_ 9 (d := d_needed) rfl
  have A_needed : AtK K mg "needed" s_needed ["first", "behind"] "shape" (.ref (He.ga K "PLAIN")) := atK_mk F_needed (He.glo_ok X G (c.fact 9 (f := .glo "needed") rfl)) (fun _ _ _ _ _ _ us ks l1 l2 => match us, ks, l1, l2 with | [_, _], [_], _, _ => ⟨_, _, _, _, _, _, rfl, rfl, rfl⟩) (fun _ _ _ _ _ _ us ws l1 l2 => match us, ws, l1, l2 with | [_, _], [_], _, _ => rfl)
  obtain ⟨fd__law_purse, F__law_purse⟩ := c.def_ 10 (d := d__law_purse) rfl
  have A__law_purse : At K mg "_law_purse" s__law_purse ["script", "k"] := ⟨_, _, F__law_purse, He.glo_ok X G (c.fact 10 (f := .glo "_law_purse") rfl), F__law_purse.bindsN fun _ _ _ _ _ _ us hl => match us, hl with | [_, _], _ => rfl⟩
  obtain ⟨fd__law_drawn, F__law_drawn⟩ := c.def_ 11 (d := d__law_drawn) rfl
  have A__law_drawn : At K mg "_law_drawn" s__law_drawn ["purse", "many"] := ⟨_, _, F__law_drawn, He.glo_ok X G (c.fact 11 (f := .glo "_law_drawn") rfl), F__law_drawn.bindsN fun _ _ _ _ _ _ us hl => match us, hl with | [_, _], _ => rfl⟩
  obtain ⟨fd__law_shape, F__law_shape⟩ := c.def_ 12 (d := d__law_shape) rfl
  have A__law_shape : At K mg "_law_shape" s__law_shape ["purse", "most"] := ⟨_, _, F__law_shape, He.glo_ok X G (c.fact 12 (f := .glo "_law_shape") rfl), F__law_shape.bindsN fun _ _ _ _ _ _ us hl => match us, hl with | [_, _], _ => rfl⟩
  obtain ⟨fd__law_same, F__law_same⟩ := c.def_ 13 (d := d__law_same) rfl
  have A__law_same : At K mg "_law_same" s__law_same ["found", "due"] := ⟨_, _, F__law_same, He.glo_ok X G (c.fact 13 (f := .glo "_law_same") rfl), F__law_same.bindsN fun _ _ _ _ _ _ us hl => match us, hl with | [_, _], _ => rfl⟩
  obtain ⟨fd__law_classes, F__law_classes⟩ := c.def_ 14 (d := d__law_classes) rfl
  have A__law_classes : At K mg "_law_classes" s__law_classes ["caught"] := ⟨_, _, F__law_classes, He.glo_ok X G (c.fact 14 (f := .glo "_law_classes") rfl), F__law_classes.bindsN fun _ _ _ _ _ _ us hl => match us, hl with | [_], _ => rfl⟩
  obtain ⟨fd__law_no_mould, F__law_no_mould⟩ := c.def_ 15 (d := d__law_no_mould) rfl
  have A__law_no_mould : At K mg "_law_no_mould" s__law_no_mould ["purse", "mould"] := ⟨_, _, F__law_no_mould, He.glo_ok X G (c.fact 15 (f := .glo "_law_no_mould") rfl), F__law_no_mould.bindsN fun _ _ _ _ _ _ us hl => match us, hl with | [_, _], _ => rfl⟩
  obtain ⟨fd__law_refused, F__law_refused⟩ := c.def_ 16 (d := d__law_refused) rfl
  have A__law_refused : At K mg "_law_refused" s__law_refused ["first", "behind", "thing"] := ⟨_, _, F__law_refused, He.glo_ok X G (c.fact 16 (f := .glo "_law_refused") rfl), F__law_refused.bindsN fun _ _ _ _ _ _ us hl => match us, hl with | [_, _, _], _ => rfl⟩
  obtain ⟨fd__law_due, F__law_due⟩ := c.def_ 17 (d := d__law_due) rfl
  have A__law_due : At K mg "_law_due" s__law_due ["first", "behind", "mould"] := ⟨_, _, F__law_due, He.glo_ok X G (c.fact 17 (f := .glo "_law_due") rfl), F__law_due.bindsN fun _ _ _ _ _ _ us hl => match us, hl with | [_, _, _], _ => rfl⟩
  obtain ⟨fd_law, F_law⟩ := c.def_ 18 (d := d_law) rfl
  have T : Txt K mg := ⟨He.free_ok X G (c.fact 19 (f := .free "len") rfl), He.free_ok X G (c.fact 20 (f := .free "max") rfl), He.free_ok X G (c.fact 21 (f := .free "min") rfl), He.free_ok X G (c.fact 22 (f := .free "range") rfl), He.free_ok X G (c.fact 23 (f := .free "isinstance") rfl), He.free_ok X G (c.fact 24 (f := .free "int") rfl), He.free_ok X G (c.fact 25 (f := .free "bool") rfl), He.free_ok X G (c.fact 26 (f := .free "tuple") rfl), He.free_ok X G (c.fact 27 (f := .free "list") rfl), He.free_ok X G (c.fact 28 (f := .free "divmod") rfl), He.free_ok X G (c.fact 29 (f := .free "all") rfl), He.free_ok X G (c.fact 30 (f := .free "sum") rfl), He.free_ok X G (c.fact 31 (f := .free "zip") rfl), He.free_ok X G (c.fact 32 (f := .free "dict") rfl), He.free_ok X G (c.fact 33 (f := .free "enumerate") rfl), He.free_ok X G (c.fact 34 (f := .free "sorted") rfl), He.free_ok X G (c.fact 35 (f := .free "ValueError") rfl), He.glo_ok X G (c.fact 36 (f := .glo "PLAIN") rfl), fun H => He.tupB_ok (He.ba cx).1 H, He.glo_ok X G (c.fact 37 (f := .glo "SherdError") rfl), He.glo_ok X G (c.fact 38 (f := .glo "NoRest") rfl), He.glo_ok X G (c.fact 39 (f := .glo "NoShape") rfl), He.glo_ok X G (c.fact 40 (f := .glo "NoPlace") rfl), He.glo_ok X G (c.fact 41 (f := .glo "NoRow") rfl), He.glo_ok X G (c.fact 42 (f := .glo "Hidden") rfl), He.glo_ok X G (c.fact 43 (f := .glo "NoName") rfl), He.glo_ok X G (c.fact 44 (f := .glo "Taken") rfl), He.glo_ok X G (c.fact 45 (f := .glo "NoHouse") rfl), He.glo_ok X G (c.fact 46 (f := .glo "Down") rfl), He.glo_ok X G (c.fact 47 (f := .glo "NoCard") rfl), He.glo_ok X G (c.fact 48 (f := .glo "Dark") rfl), He.glo_ok X G (c.fact 49 (f := .glo "NoBook") rfl), He.glo_ok X G (c.fact 50 (f := .glo "Stale") rfl), He.glo_ok X G (c.fact 51 (f := .glo "NoObject") rfl), He.glo_ok X G (c.fact 52 (f := .glo "NoHour") rfl), He.glo_ok X G (c.fact 53 (f := .glo "NoTicket") rfl), He.glo_ok X G (c.fact 54 (f := .glo "NoHomes") rfl), He.glo_ok X G (c.fact 55 (f := .glo "NotAll") rfl), He.glo_ok X G (c.fact 56 (f := .glo "Lost") rfl), He.glo_ok X G (c.fact 57 (f := .glo "NoWeight") rfl), He.glo_ok X G (c.fact 58 (f := .glo "NoRoom") rfl), He.glo_ok X G (c.fact 59 (f := .glo "NoLevel") rfl), He.glo_ok X G (c.fact 60 (f := .glo "NoMoves") rfl), He.glo_ok X G (c.fact 61 (f := .glo "NoText") rfl), He.glo_ok X G (c.fact 62 (f := .glo "NoOrder") rfl), He.glo_ok X G (c.fact 63 (f := .glo "NotEmpty") rfl), He.glo_ok X G (c.fact 64 (f := .glo "Stopped") rfl), (He.ba (He.ba (He.ba cx).2).2).1, (He.ba (He.ba (He.ba cx).2).2).2⟩
  have e := hfa.symm.trans (He.glo_ok X G (c.fact 18 (f := .glo "law") rfl))
  cases e
  have b := FunD.bindsA (ps := ["script"]) F_law fun _ _ _ _ _ _ us hl => match us, hl with | [_], _ => rfl
  refine ⟨fd_law, fun s v => b s [v] rfl, fun base _ _ => ?_⟩
  obtain ⟨fi_NoShape, FI_NoShape⟩ := c.def_ 19 (d := di_NoShape) rfl
  have R_NoShape : Rd P w K mg base "NoShape" ["shape"] := ini1 (st := si_NoShape) (q := "NoShape.__init__") (rfB_ok (He.ba (He.ba cx).2).1 T.g_NoShape) FI_NoShape sci_NoShape (FI_NoShape.bindsN fun _ _ _ _ _ _ us hl => match us, hl with | [_, _], _ => rfl) fun X h1 h2 => (pss_one (ps_ost (pe_var (i := 0) (by rw [h1]; rfl) (.inl (by rw [h2]; rfl))) (pe_var (i := 1) (by rw [h1]; rfl) (.inl (by rw [h2]; rfl)))))
  have D_is_whole := ok_whole (P := P) (w := w) (base := base) T A_is_whole
  have D_is_between := ok_between D_is_whole A_is_between
  have D_is_shape := ok_is_shape T D_is_between A_is_shape
  have D_check_shape := ok_check_shape D_is_shape A_check_shape
  have D_count := ok_count D_check_shape A_count
  have D_is_place := ok_is_place D_is_between D_count A_is_place
  have D_check_place := ok_check_place D_is_place A_check_place
  have D_kind_of := ok_kind_of T D_check_place A_kind_of
  have D_places := ok_places T D_count D_kind_of A_data_places
  have D_needed := ok_needed T D_places A_needed
  have D_bad := ok_is_bad T D_is_between A_is_shape
  have DX_check := ok_checkX T R_NoShape D_bad A_check_shape
  have DX_count := ok_countX T DX_check A_count
  have DX_places := ok_placesX T D_kind_of DX_count A_data_places
  have DX_needed := ok_neededX T DX_places A_needed
  have D_classes := ok_classes_NoShape (P := P) (w := w) (base := base) T R_NoShape.rf.isx A__law_classes
  have D_purse := ok_purse (P := P) (w := w) (base := base) T A__law_purse
  have D_drawn := ok_drawn (P := P) (w := w) (base := base) A__law_drawn
  have D_shape := ok_law_shape T D_drawn A__law_shape
  have D_same := ok_same (P := P) (w := w) (base := base) T A__law_same 3
  have D_nomould := ok_no_mould T D_drawn A__law_no_mould
  have D_refused := ok_refused T R_NoShape DX_needed D_classes A__law_refused
  have D_due := ok_due (P := P) (w := w) (base := base) T A__law_due
  exact ok_law T rfl D_purse D_drawn D_shape D_needed D_due D_same D_nomould D_refused F_law
end Hx
open PySem PySem.W PySem.Calls PyProof.Rows in
set_option maxRecDepth 100000 in
set_option maxHeartbeats 0 in
theorem PySem.Challenge.cw_sherdhall_k10_data_pieces_needed_holds : PySem.Challenge.rw_sherdhall_k10_data_pieces_needed.Holds := by
  w_on; o_law
  refine HandSHeadRun.head_any (r := OpenLaw.row PySem.Challenge.rw_sherdhall_k10_data_pieces_needed) (q := view (OpenLaw.row PySem.Challenge.rw_sherdhall_k10_data_pieces_needed).prog [52]) (H := Hx.hk) (ob := Hx.ob) (M := 15000) (loose := Hx.loose) (d := HandSHeadRun.topDef (OpenLaw.row PySem.Challenge.rw_sherdhall_k10_data_pieces_needed).prog 52) (kwd := []) Hx.ob_eq
    (by kernel_rfl) (fun s => by kernel_rfl) Hx.run (by kernel_rfl) (by kernel_rfl) (by kernel_rfl) (by rfl) (by first | assumption | decide +kernel) (by decide +kernel) ⟨rfl, rfl, rfl, rfl, rfl, by decide +kernel⟩ ?hw ?hc
  case hw => w_witness2
  case hc =>
    refine L2.walk_ofE (l := PySem.Challenge.rw_sherdhall_k10_data_pieces_needed) (n := 63) (k := 12) (x := "script") (CX := L2.CX0) rfl (by decide) (by kernel_rfl) ⟨rfl, by decide, by decide⟩ ?F (fun _ _ _ _ z => z)
    intro w mg fa h Y G hmg0
    obtain ⟨K, KX, c, cx⟩ := Y
    have hmg : mg ("law" : PySem.Str) = some (.ref fa) := by
      have e : (HandSHeadRun.topDef (OpenLaw.row PySem.Challenge.rw_sherdhall_k10_data_pieces_needed).prog 52).name = ("law" : PySem.Str) := by kernel_rfl
      rw [← e]
      exact hmg0
    obtain ⟨fd, hb, hF⟩ := Hx.facts (P := (PySem.Challenge.rw_sherdhall_k10_data_pieces_needed).prog) (w := w) KX G hmg c cx
    exact ⟨K, fd, Hx.spLaw K, KX, hb, fun H a ns hl _ hS => ⟨a, ns, rfl, hS, hl, fun _ => rfl⟩, hF⟩
