import PyProof.Rows.All
import Wide.All
import OpenK.AllK
import Wide.FinOn
import KE.KStateDown
import HandS.Base
import HandS.Call
import HandS.Ends
import HandS.List
import HandS.Comp
import HandS.Iter
import HandS.More
import HandS.Words
import HandS.WordsList
import HandS.WordsExc
import HandS.Defaults
import HandS.Wide
import HandS.IsInst
import HandS.Walk
import HandS.Star
import HandS.Conv
import HandS.Zip
import HandS.TupAny
import KE.KEqSeq
import KE.KEqDeep
import KE.KRevSl
import HandS.Head0
import HandS.Head1
import HandS.Head2
import HandS.HeadEnd
import HandS.HeadHook1
import HandS.HeadHook2
import HandS.Sort
import HandS.Exc
import HandS.ExcInit
import HandS.ExcIs
import HandS.ExcField
import KE.KExcIs
import HandS.ExcOwn
import HandS.CallSlots
import PySem.Challenge.RW_sherdhall_k01_numbers_by_97
set_option Elab.async false
set_option linter.all false
set_option maxRecDepth 100000
set_option maxHeartbeats 4000000
namespace Cm
open PySem PySem.Spec PyProof.Rows L2
/-! ### a def, known by its name -/
def Dn (P : Program) (w : World) (K : PySem.W.Frag) (mg : Str → Option Value) (base : Heap) (CX : CXT) (k : Nat) (x : Str) (ps : List Str) (sp : Sp) : Prop :=
  ∃ (f : Addr) (fd : FuncData), FnOk P w K mg base CX k f fd ps sp ∧ mg x = some (.ref f) ∧ PySem.W.keepIn K (.ref f) = true ∧ Binds K fd ps [] ∧ ∃ oc od osl, K.lookup f = some ⟨oc, od, .func fd, osl⟩
/-- where a def without defaults stands -/
def At (K : PySem.W.Frag) (mg : Str → Option Value) (x : Str) (st : Stmt) (ps : List Str) : Prop :=
  ∃ (f : Addr) (fd : FuncData), FunD K x x (defArgs st) (defBody st) (defScope st) [] [] f fd ∧ mg x = some (.ref f) ∧ Binds K fd ps []
theorem _root_.L2.FunD.look {K : PySem.W.Frag} {x qual : Str} {params : Arguments} {body : List Stmt} {scope : Scope} {dvs : List V} {kws : List (Str × V)} {f : Addr} {fd : FuncData} (F : FunD K x qual params body scope dvs kws f fd) : ∃ oc od osl, K.lookup f = some ⟨oc, od, .func fd, osl⟩ := by
  obtain ⟨oc, od, dV, kV, doc, pm, an, cdv, ct, osl, rfl, lk, _⟩ := F.ex
  exact ⟨_, _, _, lk⟩
section
variable {P : Program} {w : World} {K : PySem.W.Frag} {mg : Str → Option Value} {base : Heap}
theorem ok0 {x : Str} {st : Stmt} {N ps : List Str} {k : Nat} {sp : Sp} {f : Addr} {fd : FuncData} (F : FunD K x x (defArgs st) (defBody st) (defScope st) [] [] f fd) (S : FnScope N ps (defScope st)) (len : ∀ vs H Q E, sp vs H Q E → vs.length = ps.length)
    (hbody : ∀ (f : Addr) (cdv : Value) (A : Around) (outer : List Env) (s : Shared) (H : Hp) (vs : List V) (Q : VK) (E : XK), Room k (A.deeper (envOfC x (defScope st) s.heap.objs.size f cdv)) → sp vs H Q E →
      ∃ t, PSs (cxOf CX0 P w K mg base N x (defScope st) f cdv A outer s H E).nox (defBody st) t ∧ t { nx := fun _ H' => Q .non H', rt := Q } (start N vs) H) : FnOk P w K mg base CX0 (k + 1) f fd ps sp := by
  refine F.ok S len fun cdv A outer s H vs Q E hr h => ?_
  obtain ⟨t, h1, h2⟩ := hbody f cdv A outer s H vs Q E hr h
  exact ⟨t, h1.nox, h2⟩
theorem At.ok {x : Str} {st : Stmt} {N ps : List Str} {k : Nat} {sp : Sp} (F : At K mg x st ps) (S : FnScope N ps (defScope st)) (len : ∀ vs H Q E, sp vs H Q E → vs.length = ps.length)
    (hbody : ∀ (f : Addr) (cdv : Value) (A : Around) (outer : List Env) (s : Shared) (H : Hp) (vs : List V) (Q : VK) (E : XK), Room k (A.deeper (envOfC x (defScope st) s.heap.objs.size f cdv)) → sp vs H Q E →
      ∃ t, PSs (cxOf CX0 P w K mg base N x (defScope st) f cdv A outer s H E).nox (defBody st) t ∧ t { nx := fun _ H' => Q .non H', rt := Q } (start N vs) H) : Dn P w K mg base CX0 (k + 1) x ps sp := by
  obtain ⟨f, fd, F, hm, hb⟩ := F
  refine ⟨f, fd, F.ok S len fun cdv A outer s H vs Q E hr h => ?_, hm, F.kp, hb, F.look⟩
  obtain ⟨t, h1, h2⟩ := hbody f cdv A outer s H vs Q E hr h
  exact ⟨t, h1.nox, h2⟩
end
section
variable {X : Cx} {k : Nat} {x : Str} {ps : List Str} {sp : Sp} {p pos : Pos} {e : Expr} {es : List Expr} {t : TA}
theorem pe_callD (D : Dn X.prog X.w X.K X.mg X.base CX0 k x ps sp) (hr : Room k X.A) (ha : PA X (e :: es) t) (hg : Gl X x := by rfl) (hdb : (x == ("__debug__" : Str)) = false := by decide)
    (he : starEach (e :: es) X.env = (false, eval e X.env) :: starEach es X.env := by rfl) (hpl : (backTo pos (starEach es X.env)).any (·.1) = false := by rfl) :
    PE X (.Call (.Name x p) (e :: es) [] pos) (tCall sp [] E0 t) := by
  obtain ⟨f, fd, F, hm, hk, hb, _⟩ := D
  exact pe_call F hr hg hm hk hb .nil pass0 ha hdb he hpl
end
/-! ### powers of ints of any size -/
def CPowW (i j : Int) : Prop := 0 ≤ j ∧ (Builtin.Int.intBits i : Int) * j ≤ 2 ^ 27
theorem CPowW.mk {i : Int} {n a : Nat} (ha : i.natAbs < 2 ^ a) (h0 : 0 < a) (h : a * n ≤ 100000000) : CPowW i n := by
  refine ⟨Int.natCast_nonneg _, ?_⟩
  have b : Builtin.Int.intBits i ≤ i.natAbs.log2 + 1 := by
    unfold Builtin.Int.intBits
    split <;> omega
  have x := PySem.Flt.log2_lt_of h0 ha
  have c : Builtin.Int.intBits i ≤ a := by omega
  have d : Builtin.Int.intBits i * n ≤ a * n := Nat.mul_le_mul_right _ c
  have e : ((Builtin.Int.intBits i * n : Nat) : Int) ≤ ((100000000 : Nat) : Int) := Int.ofNat_le.mpr (Nat.le_trans d h)
  rw [Int.natCast_mul] at e
  have e2 : ((100000000 : Nat) : Int) ≤ 2 ^ 27 := by decide
  exact Int.le_trans e e2
theorem op_powW {X : Cx} : OpR X (binaryOp .Pow) (rI CPowW fun i j => .int (i ^ j.toNat)) := opI fun _ _ _ _ _ _ _ hc q => pow_int hc.1 hc.2 q
/-! ### tests -/
theorem iteD {c A B : Prop} [Decidable c] (h1 : c → A) (h2 : ¬ c → B) : if decide c = true then A else B := by
  by_cases h : c
  · rw [decide_eq_true h]; exact iteT (h1 h)
  · rw [decide_eq_false h]; exact iteF (h2 h)
theorem iteDn {c A B : Prop} [Decidable c] (h1 : ¬ c → A) (h2 : c → B) : if (!decide c) = true then A else B := by
  by_cases h : c
  · rw [decide_eq_true h]; exact iteF (h2 h)
  · rw [decide_eq_false h]; exact iteT (h1 h)
theorem iteI {x y : Int} {A B : Prop} (h1 : x = y → A) (h2 : ¬ x = y → B) : if decide (V.int x = V.int y) = true then A else B :=
  iteD (fun h => h1 (V.int.inj h)) (fun h => h2 fun e => h (congrArg V.int e))
theorem iteIn {x y : Int} {A B : Prop} (h1 : ¬ x = y → A) (h2 : x = y → B) : if (!decide (V.int x = V.int y)) = true then A else B :=
  iteDn (fun h => h1 fun e => h (congrArg V.int e)) (fun h => h2 (V.int.inj h))
theorem iteB {b : Bool} {A B : Prop} (h1 : b = true → A) (h2 : b = false → B) : if b = true then A else B := by
  cases b with
  | true => exact iteT (h1 rfl)
  | false => exact iteF (h2 rfl)
theorem iteBn {b : Bool} {A B : Prop} (h1 : b = false → A) (h2 : b = true → B) : if (!b) = true then A else B := by
  cases b with
  | true => exact iteF (h2 rfl)
  | false => exact iteT (h1 rfl)
/-! ### heaps -/
/-- all that was tracked, but p, is as it was -/
def Kp (p : Addr) (H H' : Hp) : Prop := ∀ b o, H b = some o → b ≠ p → H' b = some o
theorem Kp.refl (p : Addr) (H : Hp) : Kp p H H := fun _ _ h _ => h
theorem Kp.trans {p : Addr} {H H1 H2 : Hp} (a : Kp p H H1) (b : Kp p H1 H2) : Kp p H H2 := fun c o h n => b c o (a c o h n) n
theorem Kp.of {p : Addr} {H H1 : Hp} (a : Same H H1) : Kp p H H1 := fun c o h _ => a c o h
theorem Kp.new {p a : Addr} {H : Hp} {o : HO} (n : H a = none) : Kp p H (upd H a o) := fun c u h _ => by rw [upd_ne (ne_of_none h n)]; exact h
theorem Kp.put {p : Addr} {H : Hp} {o : HO} : Kp p H (upd H p o) := fun c u h n => by rw [upd_ne n]; exact h
theorem Same.new {a : Addr} {H : Hp} {o : HO} (n : H a = none) : Same H (upd H a o) := fun c u h => by rw [upd_ne (ne_of_none h n)]; exact h
theorem old {H : Hp} {a p : Addr} {o u : HO} (h : H a = some u) (n : H p = none) : upd H p o a = some u := by rw [upd_ne (ne_of_none h n)]; exact h
/-- p was free ahead: what is kept but p is kept -/
theorem Kp.same {p : Addr} {H0 H H' : Hp} (s : Same H0 H) (n : H0 p = none) (k : Kp p H H') : Same H0 H' := fun b o h => k b o (s b o h) (ne_of_none h n)
end Cm
namespace Cm
open PySem PySem.Spec PyProof.Rows L2
theorem at_ints {ns : List Int} {k : Int} (h0 : 0 ≤ k) (h : k < ns.length) : ∃ z, z ∈ ns ∧ ns[k.toNat]? = some z ∧ atI (ns.map V.int) k = some (.int z) := by
  have hk : k.toNat < ns.length := by omega
  refine ⟨ns[k.toNat], List.getElem_mem _, List.getElem?_eq_getElem hk, ?_⟩
  obtain ⟨j, rfl⟩ : ∃ j : Nat, k = (j : Int) := ⟨k.toNat, by omega⟩
  refine atI_nat ?_
  rw [List.getElem?_map, List.getElem?_eq_getElem (by omega)]
  rfl
theorem p10_18 : (10 : Int) ^ (18 : Int).toNat = 1000000000000000000 := by decide
end Cm
namespace Cm
open PySem PySem.Spec PyProof.Rows L2
/-! ### comprehensions that leave what stood -/
section
variable {J : It} {n : Nat} {G : Hp → Prop} {Y : Nat → Hp → V → Hp → Prop}
theorem lc_map (w : Walk J n G Y) {g : TG} {tt : TT} {te : TE} {vs : List Nat} {σ : L2.St} {H1 : Hp} {D : Addr} {Qd : Hp → Prop} (f : Nat → V) (hD : H1 D = none) (hn : n ≤ sizeLine) (hG : ∀ H, Same H1 H → G H)
    (hs : ∀ i x H H' (R : V → Hp → Prop) (R' : Hp → Prop), i < n → Same H1 H → Y i H x H' → (∀ H4, Same H H4 → R (f i) H4) → g x (wipe σ vs) H' fun σ2 H2 => wipe σ2 vs = wipe σ vs ∧ tt σ2 H2 fun b H3 => if b = true then te σ2 H3 R else R' H3)
    (hd : ∀ H, Same H1 H → H D = some (.lst ((List.range n).map f)) → Qd H) :
    ∃ W : Nat → Nat → Hp → Prop, (∃ m, W 0 m (upd H1 D (.lst []))) ∧ ∀ i m H, W i m H →
      (J.stop i H ∧ Qd H) ∨ (J.go i H ∧ ∃ Nx : Hp → Prop, (∀ H', Nx H' → ∃ m', m' < m ∧ W (i + 1) m' H') ∧ ∀ x H', J.yld i H x H' → g x (wipe σ vs) H' fun σ2 H2 => wipe σ2 vs = wipe σ vs ∧ tt σ2 H2 fun b H3 =>
        if b = true then te σ2 H3 fun y H4 => ∃ acc, H4 D = some (.lst acc) ∧ acc.length < sizeLine ∧ Nx (upd H4 D (.lst (acc ++ [y]))) else Nx H3) := by
  refine lc_it w (fun i H => Same H1 H ∧ H D = some (.lst ((List.range i).map f))) ⟨Same.new hD, upd_same⟩ (fun i H _ p => hG H p.1) ?_ (fun H p => hd H p.1 p.2)
  intro i x H H' hi p y
  refine hs i x H H' _ _ hi p.1 y fun H4 s4 => ?_
  refine ⟨_, s4 _ _ p.2, by rw [List.length_map, List.length_range]; omega, fun b o e => ?_, ?_⟩
  · rw [upd_ne (ne_of_none e hD)]
    exact s4 _ _ (p.1 _ _ e)
  · rw [upd_same, List.range_succ, List.map_append]
    rfl
theorem lc_ints (w : Walk J n G Y) {g : TG} {tt : TT} {te : TE} {vs : List Nat} {σ : L2.St} {H1 : Hp} {D : Addr} {Qd : Hp → Prop} (f : Nat → Int) (hD : H1 D = none) (hn : n ≤ sizeLine) (hG : ∀ H, Same H1 H → G H)
    (hs : ∀ i x H H' (R : V → Hp → Prop) (R' : Hp → Prop), i < n → Same H1 H → Y i H x H' → (∀ H4, Same H H4 → R (.int (f i)) H4) → g x (wipe σ vs) H' fun σ2 H2 => wipe σ2 vs = wipe σ vs ∧ tt σ2 H2 fun b H3 => if b = true then te σ2 H3 R else R' H3)
    (hd : ∀ H, Same H1 H → H D = some (.lst (((List.range n).map f).map V.int)) → Qd H) :
    ∃ W : Nat → Nat → Hp → Prop, (∃ m, W 0 m (upd H1 D (.lst []))) ∧ ∀ i m H, W i m H →
      (J.stop i H ∧ Qd H) ∨ (J.go i H ∧ ∃ Nx : Hp → Prop, (∀ H', Nx H' → ∃ m', m' < m ∧ W (i + 1) m' H') ∧ ∀ x H', J.yld i H x H' → g x (wipe σ vs) H' fun σ2 H2 => wipe σ2 vs = wipe σ vs ∧ tt σ2 H2 fun b H3 =>
        if b = true then te σ2 H3 fun y H4 => ∃ acc, H4 D = some (.lst acc) ∧ acc.length < sizeLine ∧ Nx (upd H4 D (.lst (acc ++ [y]))) else Nx H3) :=
  lc_map w (fun i => .int (f i)) hD hn hG hs fun H s e => hd H s (by rw [e, List.map_map]; rfl)
theorem lc_bools (w : Walk J n G Y) {g : TG} {tt : TT} {te : TE} {vs : List Nat} {σ : L2.St} {H1 : Hp} {D : Addr} {Qd : Hp → Prop} (f : Nat → Bool) (hD : H1 D = none) (hn : n ≤ sizeLine) (hG : ∀ H, Same H1 H → G H)
    (hs : ∀ i x H H' (R : V → Hp → Prop) (R' : Hp → Prop), i < n → Same H1 H → Y i H x H' → (∀ H4, Same H H4 → R (.bl (f i)) H4) → g x (wipe σ vs) H' fun σ2 H2 => wipe σ2 vs = wipe σ vs ∧ tt σ2 H2 fun b H3 => if b = true then te σ2 H3 R else R' H3)
    (hd : ∀ H, Same H1 H → H D = some (.lst (((List.range n).map f).map V.bl)) → Qd H) :
    ∃ W : Nat → Nat → Hp → Prop, (∃ m, W 0 m (upd H1 D (.lst []))) ∧ ∀ i m H, W i m H →
      (J.stop i H ∧ Qd H) ∨ (J.go i H ∧ ∃ Nx : Hp → Prop, (∀ H', Nx H' → ∃ m', m' < m ∧ W (i + 1) m' H') ∧ ∀ x H', J.yld i H x H' → g x (wipe σ vs) H' fun σ2 H2 => wipe σ2 vs = wipe σ vs ∧ tt σ2 H2 fun b H3 =>
        if b = true then te σ2 H3 fun y H4 => ∃ acc, H4 D = some (.lst acc) ∧ acc.length < sizeLine ∧ Nx (upd H4 D (.lst (acc ++ [y]))) else Nx H3) :=
  lc_map w (fun i => .bl (f i)) hD hn hG hs fun H s e => hd H s (by rw [e, List.map_map]; rfl)
end
/-! ### plain values and their built-in types -/
inductive Ty (K : PySem.W.Frag) (H : Hp) : V → String → Prop where
  | non : Ty K H .non "NoneType"
  | bl (x : Bool) : Ty K H (.bl x) "bool"
  | int (i : Int) : Ty K H (.int i) "int"
  | str (x : Str) : Ty K H (.str x) "str"
  | lst {a : Addr} {xs : List V} (e : SqL K H a xs) : Ty K H (.ref a) "list"
  | tup {a : Addr} {xs : List V} (e : SqT K H a xs) : Ty K H (.ref a) "tuple"
  | dK {a : Addr} {kvs : List (Key × V)} (e : H a = some (.dK kvs)) : Ty K H (.ref a) "dict"
theorem Ty.x {K : PySem.W.Frag} {H : Hp} {v : V} {n : String} (h : Ty K H v n) : TyX K H v (.type n) := by
  cases h with
  | non => exact .base .non
  | bl x => exact .base (.bl x)
  | int i => exact .base (.int i)
  | str x => exact .base (.str x)
  | lst e =>
    rcases e with (e | ⟨o, e⟩) | ⟨o, its, n, hk, hc, _⟩
    · exact .base (.lst e)
    · exact .base (.frz e)
    · exact .kList hk hc
  | tup e =>
    rcases e with (e | ⟨o, e⟩) | ⟨o, its, n, hk, hc, _⟩
    · exact .base (.tup e)
    · exact .fTuple e
    · exact .kTuple hk hc
  | dK e => exact .base (.dK e)
theorem Same.sqt {K : PySem.W.Frag} {H H' : Hp} {a : Addr} {xs : List V} (e : Same H H') (h : SqT K H a xs) : SqT K H' a xs := by
  rcases h with (h | ⟨o, h⟩) | h
  · exact .inl (.inl (e _ _ h))
  · exact .inl (.inr ⟨o, e _ _ h⟩)
  · exact .inr h
theorem Ty.same {K : PySem.W.Frag} {H H' : Hp} {v : V} {n : String} (s : Same H H') (h : Ty K H v n) : Ty K H' v n := by
  cases h with
  | non => exact .non
  | bl x => exact .bl x
  | int i => exact .int i
  | str x => exact .str x
  | lst e => exact .lst (s.seq e)
  | tup e => exact .tup (Same.sqt s e)
  | dK e => exact .dK (s _ _ e)
theorem Ty.names {K : PySem.W.Frag} {H : Hp} {v : V} {n : String} (h : Ty K H v n) : n ∈ ["NoneType", "bool", "int", "str", "list", "tuple", "dict"] := by
  cases h <;> decide
theorem kit_names {c : String} (hc : c ∈ ["bool", "int", "str", "list", "tuple", "dict"]) {n : String} (h : n ∈ ["NoneType", "bool", "int", "str", "list", "tuple", "dict"]) : kitB n c = some (n == c || (n == "bool" && c == "int")) := by
  have key : ∀ c ∈ ["bool", "int", "str", "list", "tuple", "dict"], ∀ n ∈ ["NoneType", "bool", "int", "str", "list", "tuple", "dict"], kitB n c = some (n == c || (n == "bool" && c == "int")) := by decide +kernel
  exact key c hc n h
theorem Ty.kit {K : PySem.W.Frag} {H : Hp} {v : V} {n : String} (h : Ty K H v n) (c : String) (hc : c ∈ ["bool", "int", "str", "list", "tuple", "dict"] := by decide) : PySem.W.kitOne K (.type n) (.type c) = some (n == c || (n == "bool" && c == "int")) := kit_ty (kit_names hc h.names)
end Cm
namespace Cm
open L2
theorem small1000' {n : Nat} (h : n ≤ 1000000) : n ≤ PySem.sizeLine := Nat.le_trans h (by decide)
end Cm
namespace Cm
open L2
theorem map_get {α : Type} [Inhabited α] {c : α → V} {xs : List α} {i : Nat} {x : V} (h : i < xs.length) (e : (xs.map c)[i]? = some x) : x = c (xs.getD i default) := by
  rw [List.getElem?_map, List.getElem?_eq_getElem h] at e
  simp [List.getD, h]
  exact (Option.some.inj e).symm
theorem getD_in {α : Type} [Inhabited α] {xs : List α} {i : Nat} (h : i < xs.length) : xs.getD i default ∈ xs := by
  simp [List.getD, h]
end Cm
namespace Cm
open PySem PySem.Spec PyProof.Rows L2
/-! ### == of lists and tuples of ints -/
theorem dp_ints {K : PySem.W.Frag} {H : Hp} : ∀ xs : List Int, DpAll K H (xs.map V.int) (xs.map PyData.int)
  | [] => .nil
  | x :: xs => .cons (.int x) (dp_ints xs)
theorem dpL {K : PySem.W.Frag} {H : Hp} {a : Addr} {xs : List Int} (h : SqL K H a (xs.map V.int)) : Dp K H (.ref a) (.list (xs.map PyData.int)) := .lst h (dp_ints xs)
theorem dpT {K : PySem.W.Frag} {H : Hp} {a : Addr} {xs : List Int} (h : SqT K H a (xs.map V.int)) : Dp K H (.ref a) (.tuple (xs.map PyData.int)) := .tup h (dp_ints xs)
theorem shL (ns : List Int) : SeqAt.shaped (.list (ns.map PyData.int)) = true := PySem.W.ke_shaped_ints ns
theorem shT (ns : List Int) : SeqAt.shaped (.tuple (ns.map PyData.int)) = true := by
  have h := shL ns
  unfold SeqAt.shaped at h ⊢
  simp only [PyData.canLay0, PyData.depth] at h ⊢
  exact h
theorem eqvL (xs ys : List Int) : PyData.eqv (.list (xs.map PyData.int)) (.list (ys.map PyData.int)) = decide (xs = ys) := by rw [PyData.eqv, PySem.W.ked_eqvAll]
theorem eqvT (xs ys : List Int) : PyData.eqv (.tuple (xs.map PyData.int)) (.tuple (ys.map PyData.int)) = decide (xs = ys) := by rw [PyData.eqv, PySem.W.ked_eqvAll]
end Cm
namespace Cm
theorem range_map {α β : Type} [Inhabited α] (g : α → β) (xs : List α) : (List.range xs.length).map (fun i => g (xs.getD i default)) = xs.map g := by
  apply List.ext_getElem?
  intro i
  by_cases h : i < xs.length
  · simp [List.getD, h]
  · have h2 : xs.length ≤ i := by omega
    rw [List.getElem?_eq_none (by simpa using h2), List.getElem?_eq_none (by simpa using h2)]
end Cm
namespace Cm
open PySem PySem.Spec PyProof.Rows L2
/-- zip of two tuples, as a walk -/
theorem walk_zipT {K : PySem.W.Frag} {a b : Addr} {xs ys : List V} {n : Nat} (hn : n = min xs.length ys.length) : Walk (RZ.ItzT K a b) n (fun H => SqT K H a xs ∧ SqT K H b ys) (YPair (fun i => xs[i]?) (fun i => ys[i]?)) := by
  subst hn
  refine ⟨fun i _ hi q => ?_, fun _ q => ⟨xs, ys, q.1, q.2, by omega⟩, fun i H v H' _ q y => ?_⟩
  · have h1 : i < xs.length := by omega
    have h2 : i < ys.length := by omega
    exact ⟨xs, ys, xs[i], ys[i], q.1, q.2, by simp [h1], by simp [h2]⟩
  · obtain ⟨T, x, z, h1, h2, h3, h4, h5⟩ := y
    exact ⟨T, x, z, h1, h2, h3, h4 xs q.1, h5 ys q.2⟩
/-- a def that is never called so -/
theorem At.none {P : Program} {w : World} {K : PySem.W.Frag} {mg : Str → Option Value} {base : Heap} {x : Str} {st : Stmt} {ps : List Str} (F : At K mg x st ps) (k : Nat) : Dn P w K mg base CX0 k x ps (fun _ _ _ _ => False) := by
  obtain ⟨f, fd, F, hm, hb⟩ := F
  exact ⟨f, fd, ⟨fun _ _ _ _ h => h.elim, fun _ _ _ _ _ _ _ _ _ _ _ _ _ h => h.elim⟩, hm, F.kp, hb, F.look⟩
end Cm
namespace Cm
open PySem PySem.Spec PyProof.Rows L2
theorem Dn.mono {P : Program} {w : World} {K : PySem.W.Frag} {mg : Str → Option Value} {base : Heap} {j k : Nat} {x : Str} {ps : List Str} {sp : Sp} (D : Dn P w K mg base CX0 j x ps sp) (h : j ≤ k) : Dn P w K mg base CX0 k x ps sp := by
  obtain ⟨f, fd, F, r⟩ := D
  exact ⟨f, fd, F.mono h, r⟩
theorem Dn.imp {P : Program} {w : World} {K : PySem.W.Frag} {mg : Str → Option Value} {base : Heap} {k : Nat} {x : Str} {ps : List Str} {sp sp' : Sp} (D : Dn P w K mg base CX0 k x ps sp) (h : ∀ vs H Q E, sp' vs H Q E → sp vs H Q E) : Dn P w K mg base CX0 k x ps sp' := by
  obtain ⟨f, fd, F, r⟩ := D
  exact ⟨f, fd, F.imp h, r⟩
/-- two promises of one def -/
theorem Dn.or {P : Program} {w : World} {K : PySem.W.Frag} {mg : Str → Option Value} {base : Heap} {k : Nat} {x : Str} {ps : List Str} {sp1 sp2 : Sp} (D : Dn P w K mg base CX0 k x ps sp1) (D' : Dn P w K mg base CX0 k x ps sp2) :
    Dn P w K mg base CX0 k x ps (fun vs H Q E => sp1 vs H Q E ∨ sp2 vs H Q E) := by
  obtain ⟨f, fd, F, hm, hk, hb, oc, od, osl, lk⟩ := D
  obtain ⟨f', fd', F', hm', _, _, oc', od', osl', lk'⟩ := D'
  rw [hm] at hm'
  cases hm'
  rw [lk] at lk'
  cases lk'
  refine ⟨f, fd, ⟨fun vs H Q E h => ?_, fun A outer s H args us vs Q E hr e b v h => ?_⟩, hm, hk, hb, oc, od, osl, lk⟩
  · rcases h with h | h
    · exact F.len _ _ _ _ h
    · exact F'.len _ _ _ _ h
  · rcases h with h | h
    · exact F.run A outer s H args us vs Q E hr e b v h
    · exact F'.run A outer s H args us vs Q E hr e b v h
end Cm
namespace Cm
open PySem PySem.Spec PyProof.Rows L2
section
variable {J : It} {n : Nat} {G : Hp → Prop} {Y : Nat → Hp → V → Hp → Prop}
/-- .. with a test: the values f i for which p holds -/
theorem lc_filt {α : Type} (c : α → V) (w : Walk J n G Y) {g : TG} {tt : TT} {te : TE} {vs : List Nat} {σ : L2.St} {H1 : Hp} {D : Addr} {Qd : Hp → Prop} (f : Nat → α) (p : α → Bool) (hD : H1 D = none) (hn : n ≤ sizeLine) (hG : ∀ H, Same H1 H → G H)
    (hs : ∀ i x H H' (R : V → Hp → Prop) (R' : Hp → Prop), i < n → Same H1 H → Y i H x H' → (∀ H4, Same H H4 → p (f i) = true → R (c (f i)) H4) → (∀ H4, Same H H4 → p (f i) = false → R' H4) → g x (wipe σ vs) H' fun σ2 H2 => wipe σ2 vs = wipe σ vs ∧ tt σ2 H2 fun b H3 => if b = true then te σ2 H3 R else R' H3)
    (hd : ∀ H, Same H1 H → H D = some (.lst ((((List.range n).map f).filter p).map c)) → Qd H) :
    ∃ W : Nat → Nat → Hp → Prop, (∃ m, W 0 m (upd H1 D (.lst []))) ∧ ∀ i m H, W i m H →
      (J.stop i H ∧ Qd H) ∨ (J.go i H ∧ ∃ Nx : Hp → Prop, (∀ H', Nx H' → ∃ m', m' < m ∧ W (i + 1) m' H') ∧ ∀ x H', J.yld i H x H' → g x (wipe σ vs) H' fun σ2 H2 => wipe σ2 vs = wipe σ vs ∧ tt σ2 H2 fun b H3 =>
        if b = true then te σ2 H3 fun y H4 => ∃ acc, H4 D = some (.lst acc) ∧ acc.length < sizeLine ∧ Nx (upd H4 D (.lst (acc ++ [y]))) else Nx H3) := by
  refine lc_it w (fun i H => Same H1 H ∧ H D = some (.lst ((((List.range i).map f).filter p).map c))) ⟨Same.new hD, upd_same⟩ (fun i H _ p => hG H p.1) ?_ (fun H p => hd H p.1 p.2)
  intro i x H H' hi ps y
  have e : ((((List.range (i + 1)).map f).filter p).map c) = ((((List.range i).map f).filter p).map c) ++ (if p (f i) = true then [c (f i)] else []) := by
    rw [List.range_succ, List.map_append, List.filter_append, List.map_append]
    congr 1
    by_cases h : p (f i) = true
    · simp [h]
    · simp [h]
  refine hs i x H H' _ _ hi ps.1 y (fun H4 s4 pt => ?_) fun H4 s4 pf => ?_
  · refine ⟨_, s4 _ _ ps.2, ?_, fun b o e => ?_, ?_⟩
    · have := List.length_filter_le p ((List.range i).map f)
      rw [List.length_map] at this ⊢
      rw [List.length_range] at this
      omega
    · rw [upd_ne (ne_of_none e hD)]
      exact s4 _ _ (ps.1 _ _ e)
    · rw [upd_same, e, if_pos pt]
  · refine ⟨fun b o e => s4 _ _ (ps.1 _ _ e), ?_⟩
    rw [e, if_neg (by rw [pf]; decide), List.append_nil]
    exact s4 _ _ ps.2
end
end Cm
namespace Cm
open PySem PySem.Spec PyProof.Rows L2
/-! ### sum of a tuple of ints -/
section
variable {prog : Program} {w : World} {A : Around} {E : Value → Shared → Prop} {s : Shared} {l : Addr} {xs : Array (Int × Tok)}
theorem sum_tupG {Q : Value → Shared → Prop} (hh : A.handled = none) (hl : s.heap.IsTuple l (intItems xs))
    (h : ∀ h' tk t', (∀ b o, s.heap.get? b = some o → h'.get? b = some o) → Q (.int (preSum (numAt xs) xs.size) t') { s with heap := h', toks := tk }) :
    wpAny (model prog w) A (call (.builtin "sum") [.ref l]) Q E s := by
  have hlt : l < s.heap.objs.size := by obtain ⟨_, e, _⟩ := hl; exact Heap.lt_size e
  refine call_sum_walkG (wpAny_pyIter_tuple hl ?_)
  refine ⟨_, _, _, _, _, _, numAt xs, rfl, Walks.tuple (A := A.in1) hh _ l (Nat.ne_of_lt hlt) (intItems xs), ⟨⟨_, Heap.get?_push_size _ rfl, rfl, rfl⟩, hl.push _⟩, (fun b hb => ?_), (fun _ _ => intItems_at), fun h' tk t' hk => ?_⟩
  · show b < (s.heap.push _).objs.size
    rw [Heap.size_push]
    rcases List.mem_cons.mp hb with rfl | hb
    · exact Nat.lt_succ_self _
    · rcases List.mem_cons.mp hb with rfl | hb
      · exact Nat.lt_succ_of_lt hlt
      · cases hb
  · have := h h' tk t' fun b o e => by
      refine hk b o (fun hm => ?_) (Heap.get?_push_of_some _ e)
      rcases List.mem_cons.mp hm with e1 | hm
      · exact absurd (e1 ▸ Heap.lt_size e) (Nat.lt_irrefl _)
      · cases hm
    simpa [intItems] using this
end
def rSumT (K : PySem.W.Frag) : List V → Hp → VK → Prop := fun vs H Q => ∃ (a : Addr) (ns : List Int), vs = [V.ref a] ∧ SqT K H a (ns.map V.int) ∧ Q (.int ns.sum) H
theorem cr_sumT {X : Cx} (hc : X.calm = true) : CallR X (.builtin "sum") (rSumT X.K) := by
  intro pins s σ H vs us Q I r h
  obtain ⟨a, ns, rfl, hs, q⟩ := h
  obtain ⟨its, rv, hl, _⟩ := I.tuple hs
  rw [Vals.ref1 r]
  have hi := rv.ints
  obtain ⟨xs, e⟩ := hi.allInts.items
  have hn : numsOf (intItems xs).toList = ns := by rw [← e]; exact hi.numsOf
  rw [nums_intItems] at hn
  rw [e] at hl
  refine sum_tupG (I.ok.hd hc) hl fun h' tk t' hk => ?_
  rw [preSum_eq, List.take_of_length_le (by simp), hn]
  exact ⟨.int _, H, I.kept hk, ⟨_, rfl⟩, q⟩
end Cm
namespace Cm
open PySem PySem.Spec PyProof.Rows L2
section
variable {X : Cx} {o e : Expr} {es : List Expr} {to : TE} {t : TA} {name : Str} {apos cpos : Pos} {T id : String} {r : V → List V → Hp → VK → Prop}
theorem pe_bmK (K : PySem.W.Frag) (pa : PlainAttrs T) (slot : Slot T name id) (hty : typeOf (.builtin id) = pure (.type "method_descriptor")) (hm : MtR X id r) (ho : PE X o to) (ha : PA X (e :: es) t)
    (hK : X.K = K := by rfl) (hbase : attributeBase o name X.env (eval o X.env) = eval o X.env := by rfl)
    (hfew : ((backTo cpos (starEach (e :: es) X.env)).all (fun x => !x.1) && (backToKw cpos (keywordEach [] X.env)).all (fun x => x.1.isSome)
      && decide ((e :: es).length + ([] : List Keyword).length + (if ([] : List Keyword).isEmpty then 0 else 1) < 30)) = true := by rfl)
    (hline : (apos.endLine == cpos.line) = true := by rfl) (hs : starEach (e :: es) X.env = (false, eval e X.env) :: starEach es X.env := by rfl) (hplain : (backTo cpos (starEach es X.env)).any (·.1) = false := by rfl) :
    PE X (.Call (.Attribute o name apos) (e :: es) [] cpos) (tBM K T r to t) := by
  subst hK
  exact pe_bm pa slot hty hm ho ha hbase hfew hline hs hplain
end
end Cm
namespace Cm
open PySem PySem.Spec PyProof.Rows L2 HT
/-! ### t[::-1] of a tuple -/
section
variable {prog : Program} {w : World} {A : Around} {E : Value → Shared → Prop} {s : Shared}
theorem rev_adjust (n : Nat) : Builtin.Slice.sliceAdjust none none (-1) (n : Int) = ((n : Int) - 1, -1) := by
  unfold Builtin.Slice.sliceAdjust
  simp
theorem rev_places (n : Nat) : Builtin.Slice.slicePlaces ((n : Int) - 1) (-1) (-1) = n := by
  unfold Builtin.Slice.slicePlaces
  simp
  omega
theorem fm_congr {α β : Type} {f g : α → Option β} : ∀ {l : List α}, (∀ x ∈ l, f x = g x) → l.filterMap f = l.filterMap g
  | [], _ => rfl
  | x :: l, h => by
    rw [List.filterMap_cons, List.filterMap_cons, h x (List.mem_cons_self ..), fm_congr (l := l) fun y hy => h y (List.mem_cons_of_mem _ hy)]
theorem rev_pick (xs : Array Value) : ((List.range xs.size).filterMap fun (m : Nat) => xs[(((xs.size : Nat) : Int) - 1 + (m : Int) * (-1)).toNat]?).toArray = xs.toList.reverse.toArray := by
  have e : (List.range xs.size).filterMap (fun (m : Nat) => xs[(((xs.size : Nat) : Int) - 1 + (m : Int) * (-1)).toNat]?) = ((List.range xs.size).map fun k => xs.size - 1 - k).filterMap (xs[·]?) := by
    rw [List.filterMap_map]
    apply fm_congr
    intro m hm
    have := List.mem_range.mp hm
    show xs[_]? = xs[xs.size - 1 - m]?
    congr 1
    omega
  rw [e, PySem.W.krv_range, List.filterMap_reverse, PySem.W.krv_all]
theorem sliceApplied_rev {sl : Addr} {t : Tok} {n : Nat} {Q : Int × Int × Nat → Shared → Prop} (hs : s.heap.IsSliceOf sl .none .none (.int (-1) t))
    (h : Q ((n : Int) - 1, -1, n) s) : wpAny (model prog w) A (Builtin.Slice.sliceApplied (.ref sl) (pure (n : Int))) Q E s := by
  obtain ⟨os, hos, hcs, hds⟩ := id hs
  unfold Builtin.Slice.sliceApplied Builtin.Slice.sliceFields
  refine wpAny_bind (wpAny_bind (wpAny_field hos hds (x := .none) rfl (wpAny_bind (wpAny_field hos hds (x := .none) rfl (wpAny_bind (wpAny_field hos hds (x := .int (-1) t) rfl (wpAny_pure ?_)))))))
  refine wpAny_bind (slicePart_int ?_)
  show wpAny _ _ (if ((-1 : Int) == 0) = true then _ else _) _ _ s
  rw [if_neg (by decide)]
  refine wpAny_bind (slicePart_none (wpAny_bind (slicePart_none (wpAny_bind (wpAny_pure ?_)))))
  show wpAny _ _ (match Builtin.Slice.sliceAdjust none none (-1) (n : Int) with | (lo, hi) => pure (lo, (-1 : Int), Builtin.Slice.slicePlaces lo hi (-1))) _ _ s
  rw [rev_adjust n]
  show wpAny _ _ (pure ((n : Int) - 1, (-1 : Int), Builtin.Slice.slicePlaces ((n : Int) - 1) (-1) (-1))) _ _ s
  rw [rev_places]
  exact wpAny_pure h
theorem getItem_tuple_rev {t sl : Addr} {items : Array Value} {u : Tok} {Q : Value → Shared → Prop} (ht : IsTup s.heap t items) (hs : s.heap.IsSliceOf sl .none .none (.int (-1) u))
    (h : Q (.ref s.heap.objs.size) { s with heap := s.heap.push { cls := .type "tuple", data := .seq items.toList.reverse.toArray } })
    (hsz : items.size ≤ sizeLine) : wpAny (model prog w) A (getItem (.ref t) (.ref sl)) Q E s := by
  have htake : sizeOk (.seq items.toList.reverse.toArray) := by
    show items.toList.reverse.toArray.size ≤ sizeLine
    rw [List.size_toArray, List.length_reverse, Array.length_toList]
    exact hsz
  obtain ⟨os, hos, hcs, hds⟩ := id hs
  have hTs : s.TypeIs (.ref sl) "slice" := ⟨os, hos, hcs⟩
  unfold getItem
  try with_reducible refine wpAny_holding ?_
  first | refine wpAny_bind (wpAny_pure ?_) | skip
  refine wpAny_bind (wpAny_sequenceKey ht.typeIs (by decide) ?_)
  refine wpAny_bind (wpAny_callSpecial?_slot (name := Str.ofString "__getitem__") ht.typeIs PyProof.Rows.slot_tuple_getitem
    (wpAny_call_entry PyProof.Rows.slot_tuple_getitem ht.typeIs entry_tuple_getitem ?_ (args_tuple_getitem _ _)))
  show wpAny _ _ (Builtin.Tuple.tupleItemsOf (.ref t) >>= _) _ _ s
  refine wpAny_bind (tupleItemsOf_ ht ?_)
  refine wpAny_bind (wpAny_typeOf hTs ?_)
  rw [if_pos (by decide)]
  refine wpAny_bind (sliceApplied_rev hs ?_)
  have hno : ¬ ((((items.size : Nat) : Int) - 1 == 0 && (-1 : Int) == 1 && items.size == items.size) = true) := by
    intro q
    rw [Bool.and_eq_true, Bool.and_eq_true] at q
    exact absurd q.1.2 (by decide)
  show wpAny _ _ (if (((items.size : Nat) : Int) - 1 == 0 && (-1 : Int) == 1 && items.size == items.size) = true then _ else _) _ _ s
  rw [if_neg hno, rev_pick]
  first
    | exact wpAny_bind (m := Builtin.Tuple.tupleExact _) (wpAny_newObj_type (wpAny_pure ⟨_, rfl, wpAny_pure h⟩) htake)
    | exact wpAny_bind (m := Builtin.Tuple.tupleExact _) (wpAny_newObj_type (wpAny_bind (wpAny_pure (wpAny_pure ⟨_, rfl, wpAny_pure h⟩))) htake)
    | exact wpAny_bind (wpAny_bind (m := Builtin.Tuple.tupleExact _) (wpAny_newObj_type (wpAny_pure (wpAny_pure ⟨_, rfl, wpAny_pure h⟩)) htake))
    | exact wpAny_bind (wpAny_bind (m := Builtin.Tuple.tupleExact _) (wpAny_newObj_type (wpAny_pure ⟨_, rfl, wpAny_pure h⟩) htake))
end
def tRevT (K : PySem.W.Frag) (te : TE) : TE := fun σ H Q => te σ H fun x H1 => ∃ a xs, x = .ref a ∧ SqT K H1 a xs ∧ ∀ p, H1 p = none → Q (.ref p) (upd H1 p (.tup xs.reverse))
theorem pe_revT {X : Cx} {e : Expr} {te : TE} {p1 p2 p3 pos : Pos} (he : PE X e te) : PE X (.Subscript e (.Slice none none (some (.UnaryOp .USub (.Constant (.int 1) 0 p1) p2)) p3) pos) (tRevT X.K te) := by
  refine ⟨fun pins s σ H Q I h => ?_⟩
  refine Subscript_ (thn (he.run pins s σ H _ I h) fun v s1 ⟨x, H1, I1, r1, q1⟩ => ?_)
  refine wpAny_Slice ?_
  rw [evalPart_none]
  refine wpAny_pure (wpAny_pure ?_)
  rw [evalPart_some]
  refine thn ((pe_un un_neg pe_int).run pins s1 σ H1 (fun y H2 => y = .int (-1) ∧ H2 = H1) I1 ⟨_, rfl, rfl, rfl⟩) fun u s2 ⟨y, H2, I2, r2, e1, e2⟩ => ?_
  subst e1 e2
  obtain ⟨t, rfl⟩ := r2
  obtain ⟨a, xs, rfl, hx, q⟩ := q1
  cases r1
  have I4 : Inv X pins σ H2 { s2 with heap := s2.heap.push { cls := .type "slice", data := .fields #[.none, .none, .int (-1) t] } } := I2.kept (t' := s2.toks) fun b ob q => Heap.get?_push_of_some _ q
  obtain ⟨its, r, ht, hz⟩ := I4.tuple hx
  show wpAny (model X.prog X.w) X.A (subscriptTail e _ (.ref a) (.ref s2.heap.objs.size)) (EP X pins σ Q) X.xe { s2 with heap := s2.heap.push { cls := .type "slice", data := .fields #[.none, .none, .int (-1) t] } }
  refine tail_any (ops := [.ref a, .ref s2.heap.objs.size]) ht.typeIs PyProof.Rows.slot_tuple_getitem.lookup (getItem_tuple_rev ht (Heap.IsSliceOf.new ..) ?_ (by rw [List.size_toArray, ← r.length]; exact hz)) (by with_unfolding_all rfl)
  refine ⟨.ref _, _, I4.laid (t' := s2.toks) (o := .tup xs.reverse) (fun b ob q => Heap.get?_push_of_some _ q) (Nat.le_refl _) ?_, rfl, q _ (I4.hok.fresh (Nat.le_refl _))⟩
  exact ⟨by rw [List.length_reverse]; exact hz, _, r.reverse, IsTup.new _ _⟩
end Cm
namespace Cm
open PySem PySem.Spec PyProof.Rows L2
section
variable {X : Cx}
theorem _root_.L2.OpR.imp {f : Value → Value → Sem Value} {r r' : R2} (h : OpR X f r) (i : ∀ x y H Q, r' x y H Q → r x y H Q) : OpR X f r' :=
  fun pins s σ H x y v u Q I rx ry q => h pins s σ H x y v u Q I rx ry (i _ _ _ _ q)
/-- t + u, whatever object it is -/
def rCatS (K : PySem.W.Frag) : R2 := fun x y H Q => ∃ a b xs ys, x = .ref a ∧ y = .ref b ∧ SqT K H a xs ∧ SqT K H b ys ∧ xs.length + ys.length ≤ sizeLine ∧ ∀ r H', Same H H' → SqT K H' r (xs ++ ys) → Q (.ref r) H'
theorem op_catS : OpR X (binaryOp .Add) (rCatS X.K) := op_catA.imp fun x y H Q h => by
  obtain ⟨a, b, xs, ys, rfl, rfl, ha, hb, hl, q⟩ := h
  refine ⟨a, b, xs, ys, rfl, rfl, ha, hb, hl, fun e => ?_, fun _ e => ?_, fun _ _ p np => q p _ (Same.new np) (SqT.of upd_same)⟩
  · subst e
    exact q b H (Same.refl _) hb
  · subst e
    exact q a H (Same.refl _) (by rw [List.append_nil]; exact ha)
/-- t[lo:hi], whatever object it is -/
def rSlS (K : PySem.W.Frag) : V → Option Int → Option Int → Hp → VK → Prop := fun x lo hi H Q => ∃ a xs, x = .ref a ∧ SqT K H a xs ∧ ∀ r H', Same H H' → SqT K H' r (cutV xs lo hi) → Q (.ref r) H'
theorem cut_whole {xs : List V} {lo hi : Option Int} (h : HT.sIx xs.length 0 lo = 0 ∧ HT.sIx xs.length xs.length hi = xs.length) : cutV xs lo hi = xs := by
  unfold cutV
  rw [h.1, h.2, List.drop_zero, Nat.sub_zero, List.take_length]
theorem sl_tupS : SlR X (rSlS X.K) := by
  intro pins s σ H x v vl vu lo hi sl Q I rx hs pl pu h
  obtain ⟨a, xs, rfl, ha, q⟩ := h
  refine sl_tupA pins s σ H (.ref a) v vl vu lo hi sl Q I rx hs pl pu ⟨a, xs, rfl, ha, fun e => q a H (Same.refl _) (by rw [cut_whole e]; exact ha), fun _ p np => q p _ (Same.new np) (SqT.of upd_same)⟩
end
end Cm
namespace Cm
open PySem PySem.Spec PyProof.Rows L2
/-! ### defs with one keyword-only parameter and its default -/
/-- a def of n positional parameters and one keyword-only one, by its name; dv the default -/
def DnK (P : Program) (w : World) (K : PySem.W.Frag) (mg : Str → Option Value) (base : Heap) (CX : CXT) (k : Nat) (x : Str) (ps : List Str) (kw : Str) (dv : V) (sp : Sp) : Prop :=
  ∃ (f : Addr) (fd : FuncData), FnOk P w K mg base CX k f fd (ps ++ [kw]) sp ∧ mg x = some (.ref f) ∧ PySem.W.keepIn K (.ref f) = true ∧ KBn K fd (ps ++ [kw]) ps.length [kw] (fun us ws => us ++ ws) (fun vs zs => vs ++ zs) ∧
    (∃ ds, Vals [dv] ds ∧ Binds K fd (ps ++ [kw]) ds) ∧ ∃ oc od osl, K.lookup f = some ⟨oc, od, .func fd, osl⟩
/-- where it stands -/
def AtK (K : PySem.W.Frag) (mg : Str → Option Value) (x : Str) (st : Stmt) (ps : List Str) (kw : Str) (dv : V) : Prop :=
  ∃ (f : Addr) (fd : FuncData), FunD K x x (defArgs st) (defBody st) (defScope st) [] [(kw, dv)] f fd ∧ mg x = some (.ref f) ∧ KBn K fd (ps ++ [kw]) ps.length [kw] (fun us ws => us ++ ws) (fun vs zs => vs ++ zs) ∧ ∃ ds, Vals [dv] ds ∧ Binds K fd (ps ++ [kw]) ds
section
variable {P : Program} {w : World} {K : PySem.W.Frag} {mg : Str → Option Value} {base : Heap}
theorem AtK.ok {x kw : Str} {dv : V} {st : Stmt} {N ps : List Str} {k : Nat} {sp : Sp} (F : AtK K mg x st ps kw dv) (S : FnScope N (ps ++ [kw]) (defScope st)) (len : ∀ vs H Q E, sp vs H Q E → vs.length = (ps ++ [kw]).length)
    (hbody : ∀ (f : Addr) (cdv : Value) (A : Around) (outer : List Env) (s : Shared) (H : Hp) (vs : List V) (Q : VK) (E : XK), Room k (A.deeper (envOfC x (defScope st) s.heap.objs.size f cdv)) → sp vs H Q E →
      ∃ t, PSs (cxOf CX0 P w K mg base N x (defScope st) f cdv A outer s H E).nox (defBody st) t ∧ t { nx := fun _ H' => Q .non H', rt := Q } (start N vs) H) : DnK P w K mg base CX0 (k + 1) x ps kw dv sp := by
  obtain ⟨f, fd, F, hm, hb, hd⟩ := F
  refine ⟨f, fd, F.ok S len fun cdv A outer s H vs Q E hr h => ?_, hm, F.kp, hb, hd, F.look⟩
  obtain ⟨t, h1, h2⟩ := hbody f cdv A outer s H vs Q E hr h
  exact ⟨t, h1.nox, h2⟩
/-- how such a def binds: h0 with the default, h1 with the keyword -/
theorem atK_mk {x kw : Str} {dv : V} {st : Stmt} {ps : List Str} {f : Addr} {fd : FuncData} (F : FunD K x x (defArgs st) (defBody st) (defScope st) [] [(kw, dv)] f fd) (hm : mg x = some (.ref f))
    (h0 : ∀ (D : Addr) (doc pm : Value) (an : Option Addr) (cdv ct : Value) (us ks : List Value), us.length = ps.length → ks.length = 1 →
      KwChain D (([(kw, dv)].map (·.1)).zip ks) (bindArgs (PySem.W.fnOf x x (defArgs st) (defBody st) (defScope st) .none (.ref D) doc pm an cdv ct) ⟨us, []⟩) ((ps ++ [kw]).zip (us ++ ks)))
    (h1 : ∀ (kV doc pm : Value) (an : Option Addr) (cdv ct : Value) (us ws : List Value), us.length = ps.length → ws.length = 1 →
      bindArgs (PySem.W.fnOf x x (defArgs st) (defBody st) (defScope st) .none kV doc pm an cdv ct) ⟨us, [kw].zip ws⟩ = pure ((ps ++ [kw]).zip (us ++ ws))) : AtK K mg x st ps kw dv := by
  refine ⟨f, fd, F, hm, ?_, ?_⟩
  · obtain ⟨oc, od, dV, kV, doc, pm, an, cdv, ct, osl, rfl, lk, hcd, hD, hK⟩ := F.ex
    rcases hD with ⟨_, rfl⟩ | ⟨e, _⟩
    · exact ⟨fun s us ws _ l1 l2 => .of_eq (h1 kV doc pm an cdv ct us ws l1 l2), fun r rz => r.append rz⟩
    · exact absurd rfl e
  · exact F.binds0 (ps := ps ++ [kw]) ps.length (by simp) (by simp) h0
end
section
variable {X : Cx} {k : Nat} {x kw : Str} {dv : V} {ps : List Str} {sp : Sp} {p pos kp : Pos} {e ek : Expr} {es : List Expr} {t : TA} {tk : TE}
/-- f(e, .., kw=ek) -/
def tCallW (n : Nat) (sp : Sp) (t : TA) (tk : TE) : TE := fun σ H Q => t σ H fun vs H1 => tk σ H1 fun z H2 => vs.length = n ∧ [z].length = 1 ∧ sp (vs ++ [z]) H2 Q E0
theorem pe_callW (D : DnK X.prog X.w X.K X.mg X.base CX0 k x ps kw dv sp) (hr : Room k X.A) (ha : PA X (e :: es) t) (hk : PE X ek tk) (hg : Gl X x := by rfl)
    (hall : (backToKw pos (keywordEach [⟨some kw, ek, kp⟩] X.env)).all (·.1.isSome) = true := by rfl) (hks : (backToKw pos (keywordEach [⟨some kw, ek, kp⟩] X.env)).filterMap (·.1) = [kw] := by rfl)
    (hdb : (x == ("__debug__" : Str)) = false := by decide) (he : starEach (e :: es) X.env = (false, eval e X.env) :: starEach es X.env := by rfl)
    (hpl : ((backTo pos (starEach (e :: es) X.env)).any (·.1) || (backToKw pos (keywordEach [⟨some kw, ek, kp⟩] X.env)).any (·.1.isNone)) = false := by rfl) :
    PE X (.Call (.Name x p) (e :: es) [⟨some kw, ek, kp⟩] pos) (tCallW ps.length sp t tk) := by
  obtain ⟨f, fd, F, hm, hkp, hb, _⟩ := D
  have h := pe_callN (p := p) F hr hg hm hkp hb pass0 ha (pk_cons (nm := some kw) (kpos := kp) hk pk_nil) hall hks hdb he hpl
  refine ⟨fun pins s σ H Q I q => h.run pins s σ H Q I ?_⟩
  exact q
theorem pe_callW0 (D : DnK X.prog X.w X.K X.mg X.base CX0 k x [] kw dv sp) (hr : Room k X.A) (hk : PE X ek tk) (hg : Gl X x := by rfl)
    (hall : (backToKw pos (keywordEach [⟨some kw, ek, kp⟩] X.env)).all (·.1.isSome) = true := by rfl) (hks : (backToKw pos (keywordEach [⟨some kw, ek, kp⟩] X.env)).filterMap (·.1) = [kw] := by rfl)
    (hdb : (x == ("__debug__" : Str)) = false := by decide)
    (hpl : ((backTo pos (starEach [] X.env)).any (·.1) || (backToKw pos (keywordEach [⟨some kw, ek, kp⟩] X.env)).any (·.1.isNone)) = false := by rfl) :
    PE X (.Call (.Name x p) [] [⟨some kw, ek, kp⟩] pos) (fun σ H Q => tk σ H fun z H2 => [z].length = 1 ∧ sp [z] H2 Q E0) := by
  obtain ⟨f, fd, F, hm, hkp, hb, _⟩ := D
  refine ⟨fun pins s σ H Q I h => ?_⟩
  refine wpAny_Call_Name_kw (ld_glob I hg hm ?_ hdb)
  refine PySem.W.callWith_KW0 (h₀ := X.base) I.ok.mod.kin hkp hall ?_ hpl
  refine thn ((pk_cons (nm := some kw) (kpos := kp) hk pk_nil).run pos pins s σ H (fun zs H2 => zs.length = 1 ∧ sp zs H2 Q E0) I ?_) fun ws s2 ⟨zs, H2, I2, rz, l2, q2⟩ => ⟨I2.kIn, ?_⟩
  · exact h
  rw [hks]
  exact run_fnN (us := []) (vs := []) F hr hb pass0 I2 .nil rz rfl l2 q2
/-- f() and f(e, ..): the default stands for it -/
theorem pe_callWd0 (D : DnK X.prog X.w X.K X.mg X.base CX0 k x [] kw dv sp) (hr : Room k X.A) (hg : Gl X x := by rfl) (hdb : (x == ("__debug__" : Str)) = false := by decide) :
    PE X (.Call (.Name x p) [] [] pos) (tCall sp [dv] E0 tNil) := by
  obtain ⟨f, fd, F, hm, hkp, _, ⟨ds, hv, hb⟩, _⟩ := D
  exact pe_call0 F hr hg hm hkp hb hv pass0 hdb
theorem pe_callWd (D : DnK X.prog X.w X.K X.mg X.base CX0 k x ps kw dv sp) (hr : Room k X.A) (ha : PA X (e :: es) t) (hg : Gl X x := by rfl) (hdb : (x == ("__debug__" : Str)) = false := by decide)
    (he : starEach (e :: es) X.env = (false, eval e X.env) :: starEach es X.env := by rfl) (hpl : (backTo pos (starEach es X.env)).any (·.1) = false := by rfl) :
    PE X (.Call (.Name x p) (e :: es) [] pos) (tCall sp [dv] E0 t) := by
  obtain ⟨f, fd, F, hm, hkp, _, ⟨ds, hv, hb⟩, _⟩ := D
  exact pe_call F hr hg hm hkp hb hv pass0 ha hdb he hpl
end
end Cm
namespace Cm
open PySem PySem.Spec PyProof.Rows L2
/-! ### the head's facts and one Bool more -/
abbrev AlB : Type := He.AlD × Bool
def obsB (n : Nat) (fa : List He.Fa) (fn : List He.DefD) (ex : PySem.W.Frag → Bool) (g : Addr → Option Obj) : AlB := (He.obsDG n fa fn g, ex (He.frG g (He.asD g n)))
def hookB (n : Nat) (fa : List He.Fa) (fn : List He.DefD) (ex : PySem.W.Frag → Bool) : PySem.W.Hook where
  α := AlB
  obs := fun s => obsB n fa fn ex s.heap.get?
  val := fun _ => (He.valD fn, true)
  says := fun _ h => ∃ K : PySem.W.Frag, K.In h ∧ He.SaysD fa fn K ∧ ex K = true
  of := fun _ _ e => ⟨_, He.frG_in, congrArg (fun z : AlB => z.1) e, congrArg (fun z : AlB => z.2) e⟩
  keeps := fun _ _ _ ⟨K, hK, c⟩ k => ⟨K, PySem.W.Frag.In.keeps hK k, c⟩
theorem obsB_eq {n : Nat} {fa : List He.Fa} {fn : List He.DefD} {ex : PySem.W.Frag → Bool} {g : Addr → Option Obj} {s : Shared} (h : ∀ a, g a = s.heap.get? a) : obsB n fa fn ex g = (hookB n fa fn ex).obs s := by
  have e : g = s.heap.get? := funext h
  rw [e] <;> rfl
end Cm
namespace Cm
open PySem PySem.Spec PyProof.Rows L2
/-! ### a range held by a name, and walked -/
theorem cr_range1 {X : Cx} : CallR X (.type "range") (fun vs H Q => ∃ j, vs = [V.int j] ∧ ∀ p, H p = none → Q (.ref p) (upd H p (.rng 0 j))) := by
  intro pins s σ H vs us Q I r h
  obtain ⟨j, rfl, q⟩ := h
  obtain ⟨u1, rfl, rj⟩ := vals1 r
  obtain ⟨u, rfl⟩ := rj
  refine call_range_1 ⟨.ref s.heap.objs.size, upd H s.heap.objs.size (.rng 0 j), I.laid (fun b o e => Heap.get?_push_of_some _ e) (Nat.le_refl _) ?_, rfl, q _ (I.hok.fresh (Nat.le_refl _))⟩
  exact ⟨_, u, _, Heap.get?_push_size _ rfl⟩
/-- for k in r, r a range that stands in H -/
def iRngV (te : TE) : TI := fun σ H R => te σ H fun x H1 => ∃ (a : Addr) (lo hi : Int), x = .ref a ∧ H1 a = some (.rng lo hi) ∧ (-(2 ^ 62) ≤ lo ∧ lo < 2 ^ 62 ∧ -(2 ^ 62) ≤ hi ∧ hi < 2 ^ 62) ∧ R (Itr lo (hi - lo).toNat) H1
theorem pi_rng {X : Cx} {tg e : Expr} {te : TE} (he : PE X e te) : PI X tg e (iRngV te) := by
  refine ⟨fun pins s σ H R I h => ?_⟩
  refine thn (he.run pins s σ H _ I h) fun v s1 hh => ?_
  obtain ⟨x, H1, I1, r1, a, lo, hi, rfl, ha, ⟨h1, h2, h3, h4⟩, q⟩ := hh
  cases r1
  obtain ⟨t, u, w', hobj⟩ : ∃ t u v, s1.heap.get? a = some { cls := .type "range", data := .fields #[.int lo t, .int hi u, .int 1 v] } := I1.hok a _ ha
  refine wpAny_pyIter_range (show IsRange s1.heap a lo hi 1 t u w' from hobj) (small_one h1 h2 h3 h4) ?_
  refine ⟨s1.heap.objs.size, [s1.heap.objs.size], _, _, H1, rfl, I1.kept (t' := s1.toks) fun b o e => Heap.get?_push_of_some _ e, turn_range _ lo (hi - lo).toNat, ?_, fun b hb => ?_, q⟩
  · have e1 : lo + ((0 : Nat) : Int) * 1 = lo := by simp
    have e2 : (((hi - lo).toNat : Nat) : Int) - ((0 : Nat) : Int) = Builtin.Range.rangeSize lo hi 1 := by rw [rangeSize_one]; split <;> omega
    show IsRangeIter _ _ (lo + ((0 : Nat) : Int) * 1) ((((hi - lo).toNat : Nat) : Int) - ((0 : Nat) : Int)) 1
    rw [e1, e2]
    exact Heap.get?_push_size _ rfl
  · have e : b = s1.heap.objs.size := by simpa using hb
    subst e
    exact I1.fpOk (Nat.le_refl _) (I1.hok.fresh (Nat.le_refl _))
end Cm

set_option Elab.async false
set_option linter.all false
set_option maxRecDepth 100000
set_option maxHeartbeats 4000000
namespace Cm
open PySem PySem.Spec PyProof.Rows L2
/-! ### a caught exception that a name holds behind the suite -/
/-- at a: an exception of the class cls, its own dict at d -/
def exh (a : Addr) (cls : Value) (d : Option Addr) : HO := .ext fun h => ∃ oe vs, h.get? a = some oe ∧ Zc cls d oe ∧ oe.data = .fields vs
theorem exh_ok {P : Program} {w : World} {H : Hp} {h : Heap} {a : Addr} {cls : Value} {d : Option Addr} {oe : Obj} {vs : Array Value} (e : h.get? a = some oe) (z : Zc cls d oe) (dt : oe.data = .fields vs) : ObjOk P w H h a (exh a cls d) :=
  ⟨⟨oe, vs, e, z, dt⟩, ⟨oe, e⟩, fun _ _ ⟨o, us, k1, k2, k3⟩ st => ⟨o, us, st _ k1, k2, k3⟩⟩
theorem exh_at {P : Program} {w : World} {H : Hp} {h : Heap} {a : Addr} {cls : Value} {d : Option Addr} (k : HOk P w H h) (e : H a = some (exh a cls d)) : ∃ oe vs, h.get? a = some oe ∧ Zc cls d oe ∧ oe.data = .fields vs := by
  have x : ObjOk P w H h a (.ext fun h => ∃ oe vs, h.get? a = some oe ∧ Zc cls d oe ∧ oe.data = .fields vs) := k a _ e
  exact x.1
section
variable {X : Cx} {pins : List (Addr × Obj)} {σ : L2.St} {H : Hp} {s : Shared}
/-- what stands at a is looked at from now on -/
theorem track {a : Addr} {o : Obj} {u : HO} (I : Inv X pins σ H s) (e : s.heap.get? a = some o) (na : H a = none) (nL : a ≠ X.env.locals) (nC : ∀ v, o.data ≠ .cell v) (nP : ∀ p ∈ X.pn ++ pins, p.1 ≠ a) (n0 : X.s_0.heap.get? a = none)
    (new : ObjOk X.prog X.w (upd H a u) s.heap a u) : Inv X pins σ (upd H a u) s := by
  have put : ∀ {b : Addr} {v : HO}, H b = some v → upd H a u b = some v := fun {b v} q => by rw [upd_ne (ne_of_none q na)]; exact q
  refine ⟨I.ok, I.os, I.bare, ⟨I.base.keep, I.base.slot, fun b ob q n x => ?_, I.base.there, fun b xs q => put (I.base.tups b xs q), fun b ob v q => put (I.base.frzs b ob v q), fun b ps q => ?_⟩, I.loc, I.cell, ?_, fun y c q => ?_, fun p hp => ?_, fun b ob q => ?_, I.len⟩
  · rw [upd_ne (show b ≠ a from fun z => by rw [z, n0] at q; cases q)]
    exact I.base.free b ob q n x
  · obtain ⟨m, q2⟩ := I.base.tbls b ps q
    exact ⟨m, put q2⟩
  · rw [upd_ne (Ne.symm nL)]
    exact I.free
  · have nca : c ≠ a := fun z => by
      obtain ⟨v, oc, q1, q2⟩ := I.cell y c q
      rw [z, e] at q1
      cases q1
      exact nC v q2
    rw [upd_ne nca]
    exact I.freeC y c q
  · obtain ⟨q1, q2, q3⟩ := I.pin p hp
    exact ⟨q1, by rw [upd_ne (nP p hp)]; exact q2, q3⟩
  · by_cases hb : b = a
    · subst hb
      rw [upd_same] at q
      cases q
      exact new
    · rw [upd_ne hb] at q
      exact (I.hok b ob q).stay (fun _ _ _ z => z) (fun _ z => put z) (fun _ _ z => put z)
end
/-- try: body / except x as n: y = n. The exception is of the class x; it stands at a behind, y holds it, n is gone -/
def wKeep (K : PySem.W.Frag) (c : Value) (i j : Nat) (D : Ends) : WX := fun cls d σ H => PySem.W.exmOne K cls c = some true ∧ ∀ a, H a = none → D.nx (((σ.set i (some (.ref a))).set j (some (.ref a))).set i none) (upd H a (exh a cls d))
section
variable {X : Cx} {x n y : Str} {c : Value} {i j : Nat} {body : List Stmt} {np np2 yp p2 pos pos' : Pos} {tb : WX → TS}
theorem ps_try_keep (hs : X.stack = X.env :: X.outer) (hf : X.env.frame = some X.env.locals) (hx : X.ex = []) (hN : X.N.Nodup) (hi : X.N[i]? = some n) (hln : X.env.kindOf n = some .local) (hj : X.N[j]? = some y) (hly : X.env.scope.names.lookup y = some .local) (hdn : (n == ("__debug__" : Str)) = false) (hdc : (n == ("__classdict__" : Str)) = false) (hc : Names X x c)
    (hsw : swapsWith (.Name n np2) (some (.Name y yp)) p2.line X.env = pure false)
    (hb : ∀ (W : WX) (pn : List (Addr × Obj)) (xe : Value → Shared → Prop), Takes (X.tr pn xe) W → PassesOwn (model X.prog X.w) X.A X.env xe → PSs (X.tr pn xe) body (tb W)) :
    PS X (.Try body [.ExceptHandler (some (.Name x np)) (some n) [.Assign [.Name y yp] (.Name n np2) p2] pos'] [] [] pos) (fun D σ H => tb (wKeep X.K c i j D) D σ H) := by
  refine ⟨fun pins s σ H D I h => ?_⟩
  have ok := I.ok
  refine wpAny_Try_except (wpAny_mono ((hb (wKeep X.K c i j D) (X.pn ++ pins) _ (fun u s1 air => ?_) PassesOwn.looking).run [] s σ H D (I.toTry _) h) (fun f s1 q => ?_) fun _ _ q => q)
  · obtain ⟨a, B, sI, pins1, σ1, H1, cls, d, rfl, K1, nb, up, sky, na, os, ag, em, fin⟩ := air
    have J : Inv X pins σ1 H1 sI := K1.ofTry ok
    have hA : X.A.frames = some (X.env :: X.outer) := by rw [ok.frames, hs]
    have inB : ∀ b o, sI.heap.get? b = some o → b ∉ frs (X.env :: X.outer) → B.get? b = some o := hs ▸ nb
    refine Sky.land Zc.steady hA hf (hs ▸ sky) fun h3 fl3 up3 => ?_
    have aB : B.get? a = none := fl3.2.1
    have J3 : Inv X pins σ1 H1 { s1 with heap := h3 } := J.landed nb fl3.1 (up.trans up3) os ag
    obtain ⟨oe3, vs3, e3, z3, dt3⟩ := fl3.there
    have notF : a ∉ frs (X.env :: X.outer) := fun hm => by
      obtain ⟨_, o, e, nf⟩ := fl3.2.2.1.mem hm
      rw [e3] at e
      cases e
      exact nf _ dt3
    have nL : a ≠ X.env.locals := fun z => notF (List.mem_filterMap.mpr ⟨X.env, List.mem_cons_self, by rw [hf, z]⟩)
    have nF : a ∉ X.fs := fun hm => by
      obtain ⟨ev, h1, h2⟩ := List.mem_filterMap.mp hm
      exact notF (List.mem_filterMap.mpr ⟨ev, List.mem_cons_of_mem _ h1, h2⟩)
    have frOf : ∀ b, b ≠ X.env.locals → b ∉ X.fs → b ∉ frs (X.env :: X.outer) := fun b h1 h2 hm => by
      obtain ⟨ev, h3, h4⟩ := List.mem_filterMap.mp hm
      rcases List.mem_cons.mp h3 with rfl | h3
      · rw [hf] at h4
        exact h1 (Option.some.inj h4).symm
      · exact h2 (List.mem_filterMap.mpr ⟨ev, h3, h4⟩)
    have nP : ∀ p ∈ X.pn ++ pins, p.1 ≠ a := fun p hp z => by
      obtain ⟨q1, _, q3, q4, _⟩ := J.pin p hp
      have := inB _ _ q1 (frOf _ q3 q4)
      rw [z, aB] at this
      cases this
    have n0 : X.s_0.heap.get? a = none := by
      cases e : X.s_0.heap.get? a with
      | none => rfl
      | some o =>
        obtain ⟨o', e'⟩ := J.base.there a o e (by rw [hx]; simp)
        have := inB _ _ e' notF
        rw [aB] at this
        cases this
    have S3 := J3.suite e3 dt3 na nL nF
    refine wpAny_handleBy_cons (codeAny_handlers_test ?_) (fun z => by cases z)
    have tyA : PySem.W.Looks (model X.prog X.w) h3 (typeOf (.ref a)) cls := fun _ _ _ _ k q => wpAny_typeOf_ref (k _ _ e3) (by rw [z3.1]; exact q)
    have ex := PySem.W.exm_one (M := model X.prog X.w) J3.kIn tyA em
    have named : ∀ {Q : Value → Shared → Prop} {E : Value → Shared → Prop}, Q c { s1 with heap := h3 } → wpAny (model X.prog X.w) (X.A.mark (some (.ref a))) (eval (.Name x np) X.env) Q E { s1 with heap := h3 } := fun {Q E} q => by
      obtain ⟨g1, g2, g3 | ⟨g3, g4, g5⟩⟩ := hc
      · exact ld_glob (X := X.suite a ((a, oe3) :: (X.pn ++ pins))) S3 g1 g3 q g2
      · exact ld_blt (X := X.suite a ((a, oe3) :: (X.pn ++ pins))) S3 g1 g3 g4 q g5 g2
    refine named (ex.here (codeAny_handlers_suite_as (HandSPX.lands_againZ fl3 fun h4 fl4 up4 => ?_)))
    have J4 : Inv X pins σ1 H1 { s1 with heap := h4 } := J.landed nb fl4.1 ((up.trans up3).trans up4) os ag
    obtain ⟨oe, vs, e4, z4, dt4⟩ := fl4.there
    refine store_ok (X := X.suite a ((a, oe) :: (X.pn ++ pins))) (v := .ref a) (J4.suite e4 dt4 na nL nF) hN hi (.inl hln) rfl (fun s5 S5 => ?_) (.inr hln)
    have hi1 : i < σ1.length := by rw [J.len]; exact (List.getElem?_eq_some_iff.mp hi).1
    have step : PSs (X.suite a ((a, oe) :: (X.pn ++ pins))) [.Assign [.Name y yp] (.Name n np2) p2] (tAsg (tVar i) (gName j)) :=
      pss_one (ps_set (i := j) hN hj (.inl hly) (pe_var hi (.inl hln) hdn hdc) hsw (.inr hly))
    refine wpAny_mono (step.run [] s5 (σ1.set i (some (.ref a))) H1 { nx := fun σ6 H6 => σ6 = (σ1.set i (some (.ref a))).set j (some (.ref a)) ∧ H6 = H1, rt := fun _ _ => False } S5 ⟨.ref a, by rw [List.getElem?_set_self hi1], rfl, rfl⟩) (fun f s6 q => ?_) (fun _ _ z => z.elim)
    cases f with
    | next =>
      obtain ⟨σ6, H6, S6, rfl, rfl⟩ := q
      have e6 : s6.heap.get? a = some oe := (S6.pin (a, oe) (List.mem_append_left _ List.mem_cons_self)).1
      refine gone_ok (track (S6.unsuite ok) e6 na nL (fun v z => by rw [dt4] at z; cases z) nP n0 (exh_ok e6 z4 dt4)) hN hi hln fun s7 J7 => ⟨_, _, J7, fin a na⟩
    | brk =>
      obtain ⟨_, _, _, q⟩ := q
      exact q.elim
    | cont =>
      obtain ⟨_, _, _, q⟩ := q
      exact q.elim
    | ret u =>
      obtain ⟨_, _, _, _, _, q⟩ := q
      exact q.elim
  · cases f with
    | next =>
      obtain ⟨σ1, H1, J, q⟩ := q
      exact wpAny_execs_nil ⟨σ1, H1, J.ofTry ok, q⟩
    | brk =>
      obtain ⟨σ1, H1, J, q⟩ := q
      exact ⟨σ1, H1, J.ofTry ok, q⟩
    | cont =>
      obtain ⟨σ1, H1, J, q⟩ := q
      exact ⟨σ1, H1, J.ofTry ok, q⟩
    | ret u =>
      obtain ⟨v, σ1, H1, J, r, q⟩ := q
      exact ⟨v, σ1, H1, J.ofTry ok, r, q⟩
end
/-! ### isinstance and a field of an exception that a name holds -/
/-- its dict, where it has one, stands in H -/
def DOk (H : Hp) (d : Option Addr) : Prop := d = none ∨ ∃ dd fs, d = some dd ∧ H dd = some (.xd fs)
section
variable {X : Cx} {pins : List (Addr × Obj)} {σ : L2.St} {H : Hp} {s : Shared}
theorem exh_inst {a C : Addr} {d : Option Addr} (I : Inv X pins σ H s) (e : H a = some (exh a (.ref C) d)) (k : DOk H d) : ∃ oe od, PySem.W.InstAt s.heap a oe C od := by
  obtain ⟨oe, vs, e1, z, dt⟩ := exh_at I.hok e
  rcases k with rfl | ⟨dd, fs, rfl, ed⟩
  · exact ⟨oe, none, e1, z.1, by unfold PySem.W.notCls; rw [dt] <;> rfl, by rw [z.2]; trivial⟩
  · obtain ⟨mA, hn, _⟩ := (show ObjOk X.prog X.w H s.heap dd (.xd fs) from I.hok dd _ ed)
    obtain ⟨od, ho, _⟩ := lookIn_ns hn
    exact ⟨oe, some od, e1, z.1, by unfold PySem.W.notCls; rw [dt] <;> rfl, by rw [z.2]; exact ho⟩
theorem exh_kit {a C : Addr} {d : Option Addr} (c : ExcC X.K C) (I : Inv X pins σ H s) (e : H a = some (exh a (.ref C) d)) (k : DOk H d) : ∃ P : Heap → Prop, PySem.W.KitX X.K (.ref a) (.ref C) P ∧ P s.heap := by
  obtain ⟨oe, od, j⟩ := exh_inst I e k
  obtain ⟨cd, hc, _⟩ := PySem.W.any_some c.hd
  exact ⟨_, PySem.W.kitx_exc (ox := oe) (od := od) (by rw [hc]; rfl) c.hg c.hk c.hs c.ha c.hn c.ht c.hm, j⟩
end
/-- isinstance(e, c) of an exception that a name holds -/
def rIsX (K : PySem.W.Frag) : List V → Hp → VK → Prop := fun xs H Q => ∃ (a C : Addr) (d : Option Addr) (c : V) (u : Value) (b : Bool), xs = [.ref a, c] ∧ H a = some (exh a (.ref C) d) ∧ DOk H d ∧ ExcC K C ∧ ClsV c u ∧ PySem.W.kitOne K (.ref C) u = some b ∧ Q (.bl b) H
/-- isinstance(e, (c1, c2, ..)) -/
def rIsXT (K : PySem.W.Frag) : List V → Hp → VK → Prop := fun xs H Q => ∃ (a C : Addr) (d : Option Addr) (tp : Addr) (cs : List V) (us : List Value) (b : Bool), xs = [.ref a, .ref tp] ∧ H tp = some (.tup cs) ∧ Paired ClsV cs us ∧ H a = some (exh a (.ref C) d) ∧ DOk H d ∧ ExcC K C ∧ PySem.W.kitAny K (.ref C) us = some b ∧ Q (.bl b) H
theorem call_isX {X : Cx} : CallR X (.builtin "isinstance") (rIsX X.K) := by
  intro pins s σ H xs us Q I r h
  obtain ⟨a, C, d, c, u, b, rfl, ea, k, ec, cv, e, q⟩ := h
  obtain ⟨u1, u2, rfl, r1, r2⟩ := vals2 r
  cases (show u1 = Value.ref a from r1)
  cases cv.eq r2
  obtain ⟨P, Z, p⟩ := exh_kit ec I ea k
  exact PySem.W.kia_one Z I.kIn p e (fun z => by cases z) fun tk => ⟨.bl b, H, I.tok tk, rfl, q⟩
theorem call_isXT {X : Cx} : CallR X (.builtin "isinstance") (rIsXT X.K) := by
  intro pins s σ H xs us Q I r h
  obtain ⟨a, C, d, tp, cs, ws, b, rfl, eT, k, ea, dk, ec, e, q⟩ := h
  obtain ⟨u1, u2, rfl, r1, r2⟩ := vals2 r
  cases (show u1 = Value.ref a from r1)
  cases (show u2 = Value.ref tp from r2)
  obtain ⟨P, Z, p⟩ := exh_kit ec I ea dk
  obtain ⟨_, its, rv, ⟨oc, od, dt, sl⟩, h1, h2, n, h3⟩ := (show ObjOk X.prog X.w H s.heap tp (.tup cs) from I.hok tp _ eT)
  cases ClsV.all k rv
  simp only at h2 h3
  subst h2 h3
  exact PySem.W.kia_tup Z I.kIn p h1 e (fun z => by cases z) fun tk => ⟨.bl b, H, I.tok tk, rfl, q⟩
/-- e.f of an exception that a name holds -/
def tXfH (K : PySem.W.Frag) (f : Str) (te : TE) : TE := fun σ H Q => te σ H fun x H1 => ∃ (a C dd : Addr) (fs : List (Str × V)) (v : V), x = .ref a ∧ H1 a = some (exh a (.ref C) (some dd)) ∧ H1 dd = some (.xd fs) ∧ XfC K C ∧ PySem.W.findIn K (.ref C) f = some none ∧ fs.lookup f = some v ∧ Q v H1
theorem pe_xfH {X : Cx} {e : Expr} {te : TE} {pos : Pos} {n : Str} (he : PE X e te) (hb : attributeBase e n X.env (eval e X.env) = eval e X.env := by rfl) : PE X (.Attribute e n pos) (tXfH X.K n te) := by
  refine ⟨fun pins s σ H Q I h => attr_of hb (thn (he.run pins s σ H _ I h) fun u s1 hh => ?_)⟩
  obtain ⟨x, H1, I1, rx, a, C, dd, fs, v, rfl, ea, ed, T, hno, l, q⟩ := hh
  cases (show u = Value.ref a from rx)
  obtain ⟨oe, vs, e1, z, dt⟩ := exh_at I1.hok ea
  obtain ⟨mA, hn, hr⟩ := (show ObjOk X.prog X.w H1 s1.heap dd (.xd fs) from I1.hok dd _ ed)
  obtain ⟨od, ho, hl⟩ := lookIn_ns hn
  obtain ⟨u, hu, ru⟩ := RelO.some_of (v := v) (o := mA n) (by rw [← l]; exact hr n)
  have j : PySem.W.InstAt s1.heap a oe C (some od) := ⟨e1, z.1, by unfold PySem.W.notCls; rw [dt] <;> rfl, by rw [z.2]; exact ho⟩
  exact HandSPX.exc_get I1.kIn j T.ga T.gg T.exC (PySem.W.findObj_own T.hdC hno rfl (by rw [hl, hu])) (handed_of ru) ⟨v, H1, I1.tok _, ru, q⟩
end Cm

set_option Elab.async false
set_option linter.all false
set_option maxRecDepth 100000
set_option maxHeartbeats 4000000
namespace Cm
open PySem PySem.Spec PyProof.Rows L2
/-! ### refusals: classes over ValueError that keep what they are made with -/
def oexB (K : PySem.W.Frag) (C : Addr) : Bool := match K.lookup C with
  | some o => (match o.cls, o.data, o.slots.toList with
    | .type t, .cls cd, [_, _, _, _, some (.builtin m), _] => (match cd.mro with
      | .ref D :: bm => decide (t = "type") && (decide (D = C) && (decide (m = "ValueError.__new__") && (cd.hasDict && (!cd.hasDel && PySem.HandSPX.refsVE bm))))
      | _ => false)
    | _, _, _ => false)
  | none => false
theorem oexB_ok {K : PySem.W.Frag} {C : Addr} (h : oexB K C = true) : ∃ nm q N bs bm sn sub ab col dd k0 k1 k2 k3 k5, K.lookup C = some (excClassObj nm q C N bs bm true sn sub ab col dd k0 k1 k2 k3 k5 "ValueError.__new__") ∧ PySem.HandSPX.refsVE bm = true := by
  unfold oexB at h
  cases e : K.lookup C with
  | none => rw [e] at h; cases h
  | some o =>
    rw [e] at h
    obtain ⟨oc, od, odt, ⟨sl⟩⟩ := o
    simp only at h
    split at h
    · rename_i t cd m0 m1 m2 m3 m m5
      split at h
      · rename_i D bm h4
        obtain ⟨g1, h⟩ := Bool.and_eq_true_iff.mp h
        obtain ⟨g2, h⟩ := Bool.and_eq_true_iff.mp h
        obtain ⟨g3, h⟩ := Bool.and_eq_true_iff.mp h
        obtain ⟨g4, h⟩ := Bool.and_eq_true_iff.mp h
        obtain ⟨g5, g6⟩ := Bool.and_eq_true_iff.mp h
        obtain ⟨c1, c2, c3, c4, c5, c6, c7, c8, c9, c10, c11⟩ := cd
        have g1 := of_decide_eq_true g1
        have g2 := of_decide_eq_true g2
        have g3 := of_decide_eq_true g3
        dsimp only at g4 g5 h4
        rw [Bool.not_eq_true'] at g5
        subst g1 g2 g3 g4 g5 h4
        exact ⟨_, _, _, _, _, _, _, _, _, _, _, _, _, _, _, rfl, g6⟩
      · cases h
    · cases h
/-- what is known of such a class x that keeps the fields fs -/
structure Rf (K : PySem.W.Frag) (mg : Str → Option Value) (x : Str) (fs : List Str) : Prop where
  glo : mg x = some (.ref (He.ga K x))
  oex : OexC K (He.ga K x)
  isx : ExcC K (He.ga K x)
  fld : XfC K (He.ga K x)
  ini : PySem.W.findIn K (.ref (He.ga K x)) "__init__" = some (some (.ref (He.ma K (He.ga K x) "__init__")))
  fun_ : PySem.W.typeIn K (.ref (He.ma K (He.ga K x) "__init__")) = some (.type "function")
  no : ∀ f ∈ fs, PySem.W.findIn K (.ref (He.ga K x)) f = some none
  top : PySem.W.exmOne K (.ref (He.ga K x)) (.ref (He.ga K "SherdError")) = some true
def isB (K : PySem.W.Frag) (C : Addr) : Bool := decide (PySem.W.findIn K (.ref C) "__getattribute__" = some (some (.builtin "BaseException.__getattribute__"))) && (decide (PySem.W.findIn K (.ref C) "__getattr__" = some none) && (decide (PySem.W.subIn K (.ref C) (.type "BaseException") = some true) && (PySem.W.hasDictIn K C &&
  (decide (PySem.W.findIn K (.ref C) "__class__" = some (some (.builtin "object.__class__"))) && (decide (PySem.W.specialIn K (.builtin "object.__class__") "__get__" = some (some (.builtin "getset_descriptor.__get__"))) && (decide (PySem.W.takesIn K (.builtin "object.__class__") = some true) && decide (PySem.W.mroIn K C (.type "object") = some true)))))))
theorem isB_ok {K : PySem.W.Frag} {C : Addr} (h : isB K C = true) : ExcC K C ∧ XfC K C := by
  unfold isB at h
  simp only [Bool.and_eq_true, decide_eq_true_eq] at h
  obtain ⟨h1, h2, h3, h4, h5, h6, h7, h8⟩ := h
  exact ⟨⟨h1, h2, h3, h4, h5, h6, h7, h8⟩, ⟨h1, h2, h3, h4⟩⟩
def rfB (K : PySem.W.Frag) (x : Str) (fs : List Str) : Bool := oexB K (He.ga K x) && (isB K (He.ga K x) && (decide (PySem.W.findIn K (.ref (He.ga K x)) "__setattr__" = some (some (.builtin "object.__setattr__"))) && (decide (PySem.W.typeIn K (.ref (He.ga K x)) = some (.type "type")) && (PySem.W.keepIn K (.ref (He.ga K x)) &&
  (decide (PySem.W.findIn K (.ref (He.ga K x)) "__init__" = some (some (.ref (He.ma K (He.ga K x) "__init__")))) && (decide (PySem.W.typeIn K (.ref (He.ma K (He.ga K x) "__init__")) = some (.type "function")) && ((fs.all fun f => decide (PySem.W.findIn K (.ref (He.ga K x)) f = some none)) &&
  decide (PySem.W.exmOne K (.ref (He.ga K x)) (.ref (He.ga K "SherdError")) = some true))))))))
theorem rfB_ok {K : PySem.W.Frag} {mg : Str → Option Value} {x : Str} {fs : List Str} (h : rfB K x fs = true) (g : mg x = some (.ref (He.ga K x))) : Rf K mg x fs := by
  unfold rfB at h
  simp only [Bool.and_eq_true, decide_eq_true_eq, List.all_eq_true] at h
  obtain ⟨h1, h2, h3, h4, h5, h6, h7, h8, h9⟩ := h
  obtain ⟨i1, i2⟩ := isB_ok h2
  exact ⟨g, ⟨oexB_ok h1, h3, i1.hs, h4, h5⟩, i1, i2, h6, h7, h8, h9⟩
/-- the i-th statement of a class's body -/
def inCls (st : Stmt) (i : Nat) : Stmt := match st with
  | .ClassDef _ _ _ b .. => b.getD i (.Pass ⟨0, 0, 0, 0⟩)
  | _ => .Pass ⟨0, 0, 0, 0⟩
/-- __init__(self, f1, ..): self.f1 = f1, .. -/
def spIni (C : Addr) (fs : List Str) : Sp := fun vs H Q _ => ∃ (a : Addr) (us : List V), vs = .ref a :: us ∧ us.length = fs.length ∧ H a = some (exo a C none) ∧
  ∀ d H', H d = none → d ≠ a → H' a = some (exo a C (some d)) → H' d = some (exd d (fs.zip us).reverse) → (∀ b, b ≠ a → b ≠ d → H' b = H b) → Q .non H'
theorem rf_use {H1 : Hp} {C : Addr} {fs : List Str} {vs : List V} {Q : XK} (hl : vs.length = fs.length) (hf : fs.length ≤ 900) (q : ∀ d, H1 d = none → Q (.ref C) (some d) (upd H1 d (.xd (fs.zip vs).reverse))) :
    vs.length ≤ 1000 ∧ ∀ a, H1 a = none → spIni C fs (.ref a :: (vs ++ [])) (upd H1 a (exo a C none))
      (fun v H2 => v = .non ∧ ∃ (d : Addr) (gs : List (Str × V)), H2 a = some (exo a C (some d)) ∧ H2 d = some (exd d gs) ∧ H1 d = none ∧ Q (.ref C) (some d) (upd (del H2 a) d (.xd gs))) (fun _ _ _ => False) := by
  refine ⟨by omega, fun a na => ⟨a, vs, by rw [List.append_nil], hl, upd_same, fun d H2 nd da ea ed rest => ⟨rfl, d, _, ea, ed, ?_, ?_⟩⟩⟩
  · rw [upd_ne da] at nd
    exact nd
  · rw [upd_ne da] at nd
    have e : upd (del H2 a) d (.xd (fs.zip vs).reverse) = upd H1 d (.xd (fs.zip vs).reverse) := by
      funext b
      by_cases hb : b = d
      · rw [hb, upd_same, upd_same]
      · rw [upd_ne hb, upd_ne hb]
        by_cases ha : b = a
        · rw [ha, del_same, na]
        · rw [del_ne ha, rest b ha hb, upd_ne ha]
    rw [e]
    exact q d nd
/-- such a class and its __init__ -/
structure Rd (P : Program) (w : World) (K : PySem.W.Frag) (mg : Str → Option Value) (base : Heap) (x : Str) (fs : List Str) : Prop where
  rf : Rf K mg x fs
  ok : ∃ fd ps, FnOk P w K mg base CX0 1 (He.ma K (He.ga K x) "__init__") fd ps (spIni (He.ga K x) fs) ∧ Binds K fd ps []
/-- its __init__, of one field -/
theorem ini1 {P : Program} {w : World} {K : PySem.W.Frag} {mg : Str → Option Value} {base : Heap} {x q f : Str} {st : Stmt} {fd : FuncData} (R : Rf K mg x [f]) (F : FunD K "__init__" q (defArgs st) (defBody st) (defScope st) [] [] (He.ma K (He.ga K x) "__init__") fd) (S : FnScope [("self" : Str), f] [("self" : Str), f] (defScope st)) (hb : Binds K fd [("self" : Str), f] [])
    (hs : ∀ X : Cx, X.N = [("self" : Str), f] → X.env.scope = defScope st → PSs X (defBody st) (tOst X.K f (tVar 0) (tVar 1))) : Rd P w K mg base x [f] := by
  refine ⟨R, fd, [("self" : Str), f], F.ok S (fun vs H Q E h => ?_) (fun cdv A outer s H vs Q E _ h => ?_), hb⟩
  · obtain ⟨a, us, rfl, hl, _⟩ := h
    rw [List.length_cons, hl]; rfl
  · obtain ⟨a, us, rfl, hl, ea, q⟩ := h
    obtain ⟨v, rfl⟩ : ∃ v, us = [v] := by
      cases us with
      | nil => simp at hl
      | cons v r => cases r with
        | nil => exact ⟨v, rfl⟩
        | cons _ _ => simp at hl
    refine ⟨_, hs _ rfl rfl, ?_⟩
    refine ⟨_, rfl, _, rfl, a, _, rfl, R.oex, R.no f (List.mem_singleton.mpr rfl), .inl ⟨ea, fun d nd da => q d _ nd da upd_same ?_ fun b b1 b2 => ?_⟩⟩
    · rw [upd_ne da]
      exact upd_same
    · rw [upd_ne b1, upd_ne b2]
section
variable {X : Cx} {x : Str} {fs : List Str} {e : Expr} {es : List Expr} {ta : TA} {p pos : Pos}
theorem pmk_rd (R : Rd X.prog X.w X.K X.mg X.base x fs) (hr : Room 2 X.A) (ha : PA X (e :: es) ta) (hg : Gl X x := by rfl) (hdb : (x == ("__debug__" : Str)) = false := by decide) (he : starEach (e :: es) X.env = (false, eval e X.env) :: starEach es X.env := by rfl)
    (hpl : (backTo pos (starEach es X.env)).any (·.1) = false := by rfl) : PMk X (.Call (.Name x p) (e :: es) [] pos) (tMkO (He.ga X.K x) (spIni (He.ga X.K x) fs) [] ta) := by
  obtain ⟨fd, ps, F, hb⟩ := R.ok
  exact pmk_oex R.rf.oex R.rf.ini R.rf.fun_ F hr hb .nil pass0 hg R.rf.glo ha hdb he hpl
end
/-! ### defs that may raise -/
section
variable {P : Program} {w : World} {K : PySem.W.Frag} {mg : Str → Option Value} {base : Heap}
theorem At.okX {x : Str} {st : Stmt} {N ps : List Str} {k : Nat} {sp : Sp} (F : At K mg x st ps) (S : FnScope N ps (defScope st)) (len : ∀ vs H Q E, sp vs H Q E → vs.length = ps.length)
    (hbody : ∀ (f : Addr) (cdv : Value) (A : Around) (outer : List Env) (s : Shared) (H : Hp) (vs : List V) (Q : VK) (E : XK), Room k (A.deeper (envOfC x (defScope st) s.heap.objs.size f cdv)) → sp vs H Q E →
      ∃ t, PSs (cxOf (L2.CX P w) P w K mg base N x (defScope st) f cdv A outer s H E) (defBody st) t ∧ t { nx := fun _ H' => Q .non H', rt := Q } (start N vs) H) : Dn P w K mg base (L2.CX P w) (k + 1) x ps sp := by
  obtain ⟨f, fd, F, hm, hb⟩ := F
  exact ⟨f, fd, F.ok S len fun cdv A outer s H vs Q E hr h => hbody f cdv A outer s H vs Q E hr h, hm, F.kp, hb, F.look⟩
end
section
variable {X : Cx} {W : WX} {k : Nat} {x : Str} {ps : List Str} {sp : Sp} {p pos : Pos} {e : Expr} {es : List Expr} {t : TA}
theorem pe_callX (D : Dn X.prog X.w X.K X.mg X.base (L2.CX X.prog X.w) k x ps sp) (hr : Room k X.A) (tk : Takes X W) (ha : PA X (e :: es) t) (hg : Gl X x := by rfl) (hdb : (x == ("__debug__" : Str)) = false := by decide)
    (he : starEach (e :: es) X.env = (false, eval e X.env) :: starEach es X.env := by rfl) (hpl : (backTo pos (starEach es X.env)).any (·.1) = false := by rfl) :
    PE X (.Call (.Name x p) (e :: es) [] pos) (tCallS sp (WE W) t) := by
  obtain ⟨f, fd, F, hm, hk, hb, _⟩ := D
  exact pe_callS F hr hg hm hk hb (fun σ => passAt tk σ) ha hdb he hpl
end
/-! ### which classes such a refusal is of -/
def isAll (K : PySem.W.Frag) (x : Str) (l : List (Str × Bool)) : Bool := decide (PySem.W.kitOne K (.ref (He.ga K x)) (.type "ValueError") = some true) && l.all fun p => decide (PySem.W.kitOne K (.ref (He.ga K x)) (.ref (He.ga K p.1)) = some p.2)
section
variable {K : PySem.W.Frag} {x : Str} {l : List (Str × Bool)}
theorem isAll_v (h : isAll K x l = true) : PySem.W.kitOne K (.ref (He.ga K x)) (.type "ValueError") = some true := of_decide_eq_true (Bool.and_eq_true_iff.mp h).1
theorem isAll_mem (h : isAll K x l = true) {y : Str} {b : Bool} (m : (y, b) ∈ l) : PySem.W.kitOne K (.ref (He.ga K x)) (.ref (He.ga K y)) = some b :=
  of_decide_eq_true (List.all_eq_true.mp (Bool.and_eq_true_iff.mp h).2 (y, b) m)
theorem isAll_at (h : isAll K x l = true) (i : Nat) {y : Str} {b : Bool} (e : l[i]? = some (y, b) := by rfl) : PySem.W.kitOne K (.ref (He.ga K x)) (.ref (He.ga K y)) = some b := isAll_mem h (List.mem_of_getElem? e)
theorem kitAny_no {t : Value} : ∀ {us : List Value}, (∀ u ∈ us, PySem.W.kitOne K t u = some false) → PySem.W.kitAny K t us = some false
  | [], _ => rfl
  | u :: us, h => by
    unfold PySem.W.kitAny
    rw [h u (List.mem_cons_self ..)]
    exact kitAny_no fun v hv => h v (List.mem_cons_of_mem _ hv)
theorem isAll_none (h : isAll K x l = true) (ys : List Str) (hy : (ys.all fun y => l.contains (y, false)) = true) : PySem.W.kitAny K (.ref (He.ga K x)) (ys.map fun y => Value.ref (He.ga K y)) = some false := by
  refine kitAny_no fun u hu => ?_
  obtain ⟨y, my, rfl⟩ := List.mem_map.mp hu
  have := List.all_eq_true.mp hy y my
  exact isAll_mem h (by simpa using this)
theorem clsAll : ∀ ys : List Str, Paired ClsV (ys.map fun y => V.ref (He.ga K y)) (ys.map fun y => Value.ref (He.ga K y))
  | [] => .nil
  | y :: ys => .cons (.own _) (clsAll ys)
end
theorem DOk.same {H H' : Hp} {d : Option Addr} (k : DOk H d) (s : Same H H') : DOk H' d := by
  rcases k with rfl | ⟨dd, fs, rfl, e⟩
  · exact .inl rfl
  · exact .inr ⟨dd, fs, rfl, s _ _ e⟩
end Cm

set_option Elab.async false
set_option linter.all false
set_option maxRecDepth 100000
set_option maxHeartbeats 4000000

namespace Hx
open PySem PySem.Spec PyProof.Rows L2 Cm
def top (i : Nat) : Stmt := PySem.Challenge.pw_sherdhall_k01_numbers_by_97.main.body.getD i (.Pass ⟨0, 0, 0, 0⟩)
abbrev s_plus : Stmt := top 31
abbrev s_minus : Stmt := top 32
abbrev s_times : Stmt := top 33
abbrev s_power : Stmt := top 34
abbrev s_over : Stmt := top 35
abbrev s__law_purse : Stmt := top 37
abbrev s__law_drawn : Stmt := top 38
abbrev s__law_number : Stmt := top 39
abbrev s__law_whole : Stmt := top 40
abbrev s__law_same : Stmt := top 41
abbrev s__law_classes : Stmt := top 42
abbrev s__law_quotient : Stmt := top 43
abbrev s_law : Stmt := top 44
abbrev s_NoRest : Stmt := top 2
abbrev si_NoRest : Stmt := inCls s_NoRest 0
structure Txt (K : PySem.W.Frag) (mg : Str → Option Value) where
  n_len : mg "len" = none
  n_max : mg "max" = none
  n_min : mg "min" = none
  n_range : mg "range" = none
  n_isinstance : mg "isinstance" = none
  n_int : mg "int" = none
  n_bool : mg "bool" = none
  n_tuple : mg "tuple" = none
  n_list : mg "list" = none
  n_all : mg "all" = none
  n_ValueError : mg "ValueError" = none
  u_PRIME : Value
  g_PRIME : mg "PRIME" = some u_PRIME
  v_PRIME : RelV (.int 97) u_PRIME
  g_SherdError : mg "SherdError" = some (.ref (He.ga K "SherdError"))
  g_NoRest : mg "NoRest" = some (.ref (He.ga K "NoRest"))
  g_NoShape : mg "NoShape" = some (.ref (He.ga K "NoShape"))
  g_NoPlace : mg "NoPlace" = some (.ref (He.ga K "NoPlace"))
  g_NoRow : mg "NoRow" = some (.ref (He.ga K "NoRow"))
  g_Hidden : mg "Hidden" = some (.ref (He.ga K "Hidden"))
  g_NoName : mg "NoName" = some (.ref (He.ga K "NoName"))
  g_Taken : mg "Taken" = some (.ref (He.ga K "Taken"))
  g_NoHouse : mg "NoHouse" = some (.ref (He.ga K "NoHouse"))
  g_Down : mg "Down" = some (.ref (He.ga K "Down"))
  g_NoCard : mg "NoCard" = some (.ref (He.ga K "NoCard"))
  g_Dark : mg "Dark" = some (.ref (He.ga K "Dark"))
  g_NoBook : mg "NoBook" = some (.ref (He.ga K "NoBook"))
  g_Stale : mg "Stale" = some (.ref (He.ga K "Stale"))
  g_NoObject : mg "NoObject" = some (.ref (He.ga K "NoObject"))
  g_NoHour : mg "NoHour" = some (.ref (He.ga K "NoHour"))
  g_NoTicket : mg "NoTicket" = some (.ref (He.ga K "NoTicket"))
  g_NoHomes : mg "NoHomes" = some (.ref (He.ga K "NoHomes"))
  g_NotAll : mg "NotAll" = some (.ref (He.ga K "NotAll"))
  g_Lost : mg "Lost" = some (.ref (He.ga K "Lost"))
  g_NoWeight : mg "NoWeight" = some (.ref (He.ga K "NoWeight"))
  g_NoRoom : mg "NoRoom" = some (.ref (He.ga K "NoRoom"))
  g_NoLevel : mg "NoLevel" = some (.ref (He.ga K "NoLevel"))
  g_NoMoves : mg "NoMoves" = some (.ref (He.ga K "NoMoves"))
  g_NoText : mg "NoText" = some (.ref (He.ga K "NoText"))
  g_NoOrder : mg "NoOrder" = some (.ref (He.ga K "NoOrder"))
  g_NotEmpty : mg "NotEmpty" = some (.ref (He.ga K "NotEmpty"))
  g_Stopped : mg "Stopped" = some (.ref (He.ga K "Stopped"))
  k_NoRest : isAll K "NoRest" [("NoRest", true), ("NoShape", false), ("NoPlace", false), ("NoRow", false), ("Hidden", false), ("NoName", false), ("Taken", false), ("NoHouse", false), ("Down", false), ("NoCard", false), ("Dark", false), ("NoBook", false), ("Stale", false), ("NoObject", false), ("NoHour", false), ("NoTicket", false), ("NoHomes", false), ("NotAll", false), ("Lost", false), ("NoWeight", false), ("NoRoom", false), ("NoLevel", false), ("NoMoves", false), ("NoText", false), ("NoOrder", false), ("NotEmpty", false), ("Stopped", false), ("SherdError", true)] = true
/-! ### numbers by 97 -/
theorem mod_ml (a b : Int) : (a % 97 * b) % 97 = a * b % 97 := by rw [Int.mul_emod, Int.emod_emod, ← Int.mul_emod]
theorem mod_mr (a b : Int) : (a * (b % 97)) % 97 = a * b % 97 := by rw [Int.mul_emod, Int.emod_emod, ← Int.mul_emod]
theorem mod_pw (a : Int) : ∀ n : Nat, (a % 97) ^ n % 97 = a ^ n % 97
  | 0 => by rw [Int.pow_zero, Int.pow_zero]
  | n + 1 => by rw [Int.pow_succ, Int.pow_succ, Int.mul_emod, mod_pw a n, Int.emod_emod, ← Int.mul_emod]
theorem fermat {a : Int} (h : a % 97 ≠ 0) : a ^ 96 % 97 = 1 := by
  rw [← mod_pw]
  have h0 : 0 ≤ a % 97 := Int.emod_nonneg _ (by decide)
  have h1 : a % 97 < 97 := Int.emod_lt_of_pos _ (by decide)
  obtain ⟨n, hn⟩ : ∃ n : Nat, a % 97 = (n : Int) := ⟨(a % 97).toNat, by omega⟩
  rw [hn] at h h0 h1 ⊢
  have key : ∀ n : Fin 97, n.val ≠ 0 → ((n.val : Int)) ^ 96 % 97 = 1 := by decide +kernel
  exact key ⟨n, by omega⟩ (by simp; omega)
/-- a small enough number -/
def Bd (a : Int) : Prop := a.natAbs < 2 ^ 250
theorem Bd.mod (a : Int) : Bd (a % 97) := by
  have h0 : 0 ≤ a % 97 := Int.emod_nonneg _ (by decide)
  have h1 : a % 97 < 97 := Int.emod_lt_of_pos _ (by decide)
  have h2 : 97 < 2 ^ 250 := by decide
  unfold Bd
  omega
local macro_rules | `(tactic| walk_at "bd") => `(tactic| first | assumption | exact Bd.mod _ | (unfold Bd; decide))
local macro_rules | `(tactic| walk_at "rd") => `(tactic| repeat (first | refine ⟨_, rfl, ?_⟩ | refine ⟨_, _, rfl, rfl, ?_⟩ | refine ⟨_, _, rfl, ?_⟩ | refine ⟨_, _, _, rfl, ?_⟩ | refine ⟨rfl, ?_⟩ | refine ⟨(by walk_at "bd" : Bd _), ?_⟩))
local macro_rules | `(tactic| walk_at "mem") => `(tactic| first | assumption | exact upd_same | (refine old ?_ ?_ <;> walk_at "mem"))
local macro_rules | `(tactic| walk_at "sq") => `(tactic| first | assumption | (refine SqL.of ?_; walk_at "mem"))
section
variable {P : Program} {w : World} {K : PySem.W.Frag} {mg : Str → Option Value} {base : Heap}
theorem sc_plus : FnScope ["one", "other"] ["one", "other"] (defScope s_plus) := ⟨rfl, rfl, rfl, by decide +kernel, rfl, by decide +kernel, by decide +kernel⟩
theorem sc_minus : FnScope ["one", "other"] ["one", "other"] (defScope s_minus) := ⟨rfl, rfl, rfl, by decide +kernel, rfl, by decide +kernel, by decide +kernel⟩
theorem sc_times : FnScope ["one", "other"] ["one", "other"] (defScope s_times) := ⟨rfl, rfl, rfl, by decide +kernel, rfl, by decide +kernel, by decide +kernel⟩
theorem sc_power : FnScope ["one", "many", "product", "square", "rest"] ["one", "many"] (defScope s_power) := ⟨rfl, rfl, rfl, by decide +kernel, rfl, by decide +kernel, by decide +kernel⟩
theorem sc_over : FnScope ["one", "other"] ["one", "other"] (defScope s_over) := ⟨rfl, rfl, rfl, by decide +kernel, rfl, by decide +kernel, by decide +kernel⟩
theorem sc__law_purse : FnScope ["script", "k", "cell"] ["script", "k"] (defScope s__law_purse) := ⟨rfl, rfl, rfl, by decide +kernel, rfl, by decide +kernel, by decide +kernel⟩
theorem sc__law_drawn : FnScope ["purse", "many", "found", "turn", "mixed"] ["purse", "many"] (defScope s__law_drawn) := ⟨rfl, rfl, rfl, by decide +kernel, rfl, by decide +kernel, by decide +kernel⟩
theorem sc__law_number : FnScope ["purse", "kind", "sign", "found", "j"] ["purse"] (defScope s__law_number) := ⟨rfl, rfl, rfl, by decide +kernel, rfl, by decide +kernel, by decide +kernel⟩
theorem sc__law_whole : FnScope ["found"] ["found"] (defScope s__law_whole) := ⟨rfl, rfl, rfl, by decide +kernel, rfl, by decide +kernel, by decide +kernel⟩
theorem sc__law_same : FnScope ["found", "due", "k"] ["found", "due"] (defScope s__law_same) := ⟨rfl, rfl, rfl, by decide +kernel, rfl, by decide +kernel, by decide +kernel⟩
theorem sc__law_classes : FnScope ["caught", "pairs", "other", "word", "there"] ["caught"] (defScope s__law_classes) := ⟨rfl, rfl, rfl, by decide +kernel, rfl, by decide +kernel, by decide +kernel⟩
theorem sc__law_quotient : FnScope ["one", "other", "found", "caught", "e", "right"] ["one", "other"] (defScope s__law_quotient) := ⟨rfl, rfl, rfl, by decide +kernel, rfl, by decide +kernel, by decide +kernel⟩
theorem sc_law : FnScope ["script", "k", "purse", "pick", "many", "one", "other", "product", "turn", "came", "number"] ["script"] (defScope s_law) := ⟨rfl, rfl, rfl, by decide +kernel, rfl, by decide +kernel, by decide +kernel⟩
theorem sci_NoRest : FnScope ["self", "number"] ["self", "number"] (defScope si_NoRest) := ⟨rfl, rfl, rfl, by decide +kernel, rfl, by decide +kernel, by decide +kernel⟩
def spPlus : Sp := fun vs H Q _ => ∃ a b : Int, vs = [.int a, .int b] ∧ Q (.int ((a + b) % 97)) H
def spMinus : Sp := fun vs H Q _ => ∃ a b : Int, vs = [.int a, .int b] ∧ Q (.int ((a - b) % 97)) H
def spTimes : Sp := fun vs H Q _ => ∃ a b : Int, vs = [.int a, .int b] ∧ Bd a ∧ Bd b ∧ Q (.int ((a * b) % 97)) H
def spPower : Sp := fun vs H Q _ => ∃ a n : Int, vs = [.int a, .int n] ∧ Bd a ∧ 0 ≤ n ∧ Q (.int (a ^ n.toNat % 97)) H
theorem ok_plus (T : Txt K mg) (F : At K mg "plus" s_plus ["one", "other"]) : Dn P w K mg base CX0 1 "plus" ["one", "other"] spPlus := by
  refine F.ok sc_plus (fun vs H Q E h => ?_) (fun f cdv A outer s H vs Q E hr h => ?_)
  · obtain ⟨a, b, rfl, _⟩ := h
    rfl
  · obtain ⟨a, b, rfl, q⟩ := h
    refine ⟨_, (pss_one (ps_ret (pe_op op_mod (pe_op op_add (pv 0) (pv 1)) (pe_glob rfl T.g_PRIME (by exact T.v_PRIME))))), ?_⟩
    walk_at "rd"
    exact ⟨by show (0 : Int) < 97; decide, q⟩
theorem ok_minus (T : Txt K mg) (F : At K mg "minus" s_minus ["one", "other"]) : Dn P w K mg base CX0 1 "minus" ["one", "other"] spMinus := by
  refine F.ok sc_minus (fun vs H Q E h => ?_) (fun f cdv A outer s H vs Q E hr h => ?_)
  · obtain ⟨a, b, rfl, _⟩ := h
    rfl
  · obtain ⟨a, b, rfl, q⟩ := h
    refine ⟨_, (pss_one (ps_ret (pe_op op_mod (pe_op op_sub (pv 0) (pv 1)) (pe_glob rfl T.g_PRIME (by exact T.v_PRIME))))), ?_⟩
    walk_at "rd"
    exact ⟨by show (0 : Int) < 97; decide, q⟩
theorem ok_times (T : Txt K mg) (F : At K mg "times" s_times ["one", "other"]) : Dn P w K mg base CX0 1 "times" ["one", "other"] spTimes := by
  refine F.ok sc_times (fun vs H Q E h => ?_) (fun f cdv A outer s H vs Q E hr h => ?_)
  · obtain ⟨a, b, rfl, _⟩ := h
    rfl
  · obtain ⟨a, b, rfl, ha, hb, q⟩ := h
    refine ⟨_, (pss_one (ps_ret (pe_op op_mod (pe_op op_mulW (pv 0) (pv 1)) (pe_glob rfl T.g_PRIME (by exact T.v_PRIME))))), ?_⟩
    walk_at "rd"
    refine ⟨wide_mul (a := 250) (b := 250) ha hb (by decide) (by decide) (by decide), ?_⟩
    walk_at "rd"
    exact ⟨by show (0 : Int) < 97; decide, q⟩
theorem pow_step (pr sq : Int) (n : Nat) : (pr * sq % 97 * (sq * sq % 97) ^ n) % 97 = pr * sq ^ (2 * n + 1) % 97 := by
  rw [mod_ml, Int.mul_emod, mod_pw, ← Int.mul_emod, Int.mul_pow, Int.pow_succ, show 2 * n = n + n by omega, Int.pow_add]
  congr 1
  simp only [Int.mul_assoc, Int.mul_comm, Int.mul_left_comm]
theorem pow_step0 (pr sq : Int) (n : Nat) : (pr * (sq * sq % 97) ^ n) % 97 = pr * sq ^ (2 * n) % 97 := by
  rw [Int.mul_emod, mod_pw, ← Int.mul_emod, Int.mul_pow, show 2 * n = n + n by omega, Int.pow_add]
theorem ok_power (D_times : Dn P w K mg base CX0 1 "times" ["one", "other"] spTimes) (F : At K mg "power" s_power ["one", "many"]) : Dn P w K mg base CX0 2 "power" ["one", "many"] spPower := by
  refine F.ok sc_power (fun vs H Q E h => ?_) (fun f cdv A outer s H vs Q E hr h => ?_)
  · obtain ⟨a, b, rfl, _⟩ := h
    rfl
  · obtain ⟨a, n0, rfl, ha, hn, q⟩ := h
    refine ⟨_, (pss_cons (ps_set (i := 2) sc_power.nd rfl (by first | exact Or.inl rfl | exact Or.inr rfl) pe_int)
  (pss_cons (ps_set (i := 3) sc_power.nd rfl (by first | exact Or.inl rfl | exact Or.inr rfl) (pv 0))
  (pss_cons (ps_set (i := 4) sc_power.nd rfl (by first | exact Or.inl rfl | exact Or.inr rfl) (pv 1))
  (pss_cons (ps_while PassesOwn.never (pt_cmpR op_gt (pv 4) pe_int (nomark _))
  (pss_cons (ps_if (pt_cmpR op_eq (pe_op op_mod (pv 4) pe_int) pe_int (nomark _)) (pss_one (ps_set (i := 2) sc_power.nd rfl (by first | exact Or.inl rfl | exact Or.inr rfl) (pe_callD D_times (by first | exact hr | exact hr.mono (by decide)) (pa_cons (pv 2) (pa_cons (pv 3) pa_nil))))) pss_nil)
  (pss_cons (ps_set (i := 3) sc_power.nd rfl (by first | exact Or.inl rfl | exact Or.inr rfl) (pe_callD D_times (by first | exact hr | exact hr.mono (by decide)) (pa_cons (pv 3) (pa_cons (pv 3) pa_nil))))
  (pss_one (ps_set (i := 4) sc_power.nd rfl (by first | exact Or.inl rfl | exact Or.inr rfl) (pe_op op_fdiv (pv 4) pe_int))))))
  (pss_one (ps_ret (pv 2))))))), ?_⟩
    walk_at "rd"
    refine while_by (fun σ H' => ∃ pr sq n : Int, σ = [some (.int a), some (.int n0), some (.int pr), some (.int sq), some (.int n)] ∧ H' = H ∧ 0 ≤ pr ∧ pr < 97 ∧ Bd sq ∧ 0 ≤ n ∧ (pr * sq ^ n.toNat) % 97 = a ^ n0.toNat % 97)
      (fun σ _ => match σ with | [_, _, _, _, some (.int n)] => n.toNat | _ => 0) ⟨1, a, n0, rfl, rfl, by decide, by decide, ha, hn, by rw [Int.one_mul]⟩ ?_
      (fun σ H Q Q' m h => by
        obtain ⟨v, e1, i, j, e2, e3, k, e4, q⟩ := h
        exact ⟨v, e1, i, j, e2, e3, k, e4, m _ _ q⟩)
    rintro σ H' ⟨pr, sq, n, rfl, rfl, p0, p1, hs, hn0, e⟩
    have bp : Bd pr := by
      have h2 : 97 < 2 ^ 250 := by decide
      unfold Bd
      omega
    walk_at "rd"
    refine iteD (fun h => ?_) fun h => ?_
    · walk_at "rd"
      refine ⟨by show (0 : Int) < 2; decide, ?_⟩
      have hh : n / 2 ≥ 0 := by omega
      walk_at "rd"
      refine iteI (fun ho => ?_) fun ho => ?_
      · walk_at "rd"
        refine ⟨⟨by decide, by decide⟩, ⟨_, _, _, rfl, rfl, Int.emod_nonneg _ (by decide), Int.emod_lt_of_pos _ (by decide), Bd.mod _, hh, ?_⟩, ?_⟩
        · rw [pow_step, ← e]
          congr 3
          omega
        · show (n / 2).toNat < n.toNat
          omega
      · walk_at "rd"
        refine ⟨⟨by decide, by decide⟩, ⟨_, _, _, rfl, rfl, p0, p1, Bd.mod _, hh, ?_⟩, ?_⟩
        · rw [pow_step0, ← e]
          congr 3
          omega
        · show (n / 2).toNat < n.toNat
          omega
    · walk_at "rd"
      have en : n = 0 := by omega
      subst en
      have : pr = a ^ n0.toNat % 97 := by
        rw [← e]
        rw [show (0 : Int).toNat = 0 from rfl, Int.pow_zero, Int.mul_one]
        omega
      rw [this]
      exact q
def spOver : Sp := fun vs H Q _ => ∃ a b : Int, vs = [.int a, .int b] ∧ Bd a ∧ Bd b ∧ b % 97 ≠ 0 ∧ Q (.int (a * b ^ 95 % 97)) H
/-- a quotient, or the refusal -/
def spOverX (K : PySem.W.Frag) : Sp := fun vs H Q E => ∃ a b : Int, vs = [.int a, .int b] ∧ Bd a ∧ Bd b ∧ (b % 97 ≠ 0 → Q (.int (a * b ^ 95 % 97)) H) ∧ (b % 97 = 0 → ∀ d, H d = none → E (.ref (He.ga K "NoRest")) (some d) (upd H d (.xd [("number", .int b)])))
theorem ok_overX (T : Txt K mg) (R_NoRest : Rd P w K mg base "NoRest" ["number"]) (D_times : Dn P w K mg base CX0 1 "times" ["one", "other"] spTimes) (D_power : Dn P w K mg base CX0 2 "power" ["one", "many"] spPower) (F : At K mg "over" s_over ["one", "other"]) : Dn P w K mg base (L2.CX P w) 3 "over" ["one", "other"] (spOverX K) := by
  refine F.okX sc_over (fun vs H Q E h => ?_) (fun f cdv A outer s H vs Q E hr h => ?_)
  · obtain ⟨a, b, rfl, _⟩ := h
    rfl
  · obtain ⟨a, b, rfl, ha, hb, q, qe⟩ := h
    refine ⟨_, (pss_cons (ps_if (pt_cmpR op_eq (pe_op op_mod (pv 1) (pe_glob rfl T.g_PRIME (by exact T.v_PRIME))) pe_int (nomark _)) (pss_one (ps_raise rfl (takes_of rfl rfl rfl rfl) (pmk_rd R_NoRest (by first | exact hr | exact hr.mono (by decide)) (pa_cons (pv 1) pa_nil)))) pss_nil)
  (pss_one (ps_ret (pe_callD D_times (by first | exact hr | exact hr.mono (by decide)) (pa_cons (pv 0) (pa_cons (pe_callD D_power (by first | exact hr | exact hr.mono (by decide)) (pa_cons (pv 1) (pa_cons (pe_op op_sub (pe_glob rfl T.g_PRIME (by exact T.v_PRIME)) pe_int) pa_nil))) pa_nil)))))), ?_⟩
    walk_at "rd"
    refine ⟨by show (0 : Int) < 97; decide, ?_⟩
    walk_at "rd"
    refine iteI (fun h => ?_) fun h => ?_
    · exact ⟨_, rfl, rf_use rfl (by decide) fun d nd => qe h d nd⟩
    walk_at "rd"
    refine ⟨by decide, _, _, rfl, ha, Bd.mod _, ?_⟩
    have q1 := q h
    rw [← mod_mr] at q1
    exact q1
def spClasses (K : PySem.W.Frag) (x : Str) : Sp := fun vs H Q _ => ∃ (a : Addr) (d : Option Addr), vs = [.ref a] ∧ H a = some (exh a (.ref (He.ga K x)) d) ∧ DOk H d ∧ ∀ r H', Same H H' → H' r = some (.lst [.str x, .str "Sherd", .str "Value"]) → Q (.ref r) H'
theorem ok_classes_NoRest (T : Txt K mg) (C : ExcC K (He.ga K "NoRest")) (F : At K mg "_law_classes" s__law_classes ["caught"]) : Dn P w K mg base CX0 1 "_law_classes" ["caught"] (spClasses K "NoRest") := by
  refine F.ok sc__law_classes (fun vs H Q E h => ?_) (fun f cdv A outer s H vs Q E hr h => ?_)
  · obtain ⟨a, d, rfl, _⟩ := h
    rfl
  · obtain ⟨a, d, rfl, ea, dk, q⟩ := h
    refine ⟨_, (pss_cons (ps_set (i := 1) sc__law_classes.nd rfl (by first | exact Or.inl rfl | exact Or.inr rfl) (pe_lst (pa_cons (pe_tup (pa_cons pe_str (pa_cons (pe_callB (r := rIsX K) call_isX (by rfl) T.n_isinstance (by decide +kernel) (pa_cons (pv 0) (pa_cons (pe_glob (v := .ref (He.ga K "NoRest")) rfl T.g_NoRest (by exact rfl)) pa_nil))) pa_nil))) (pa_cons (pe_tup (pa_cons pe_str (pa_cons (pe_callB (r := rIsX K) call_isX (by rfl) T.n_isinstance (by decide +kernel) (pa_cons (pv 0) (pa_cons (pe_glob (v := .ref (He.ga K "NoShape")) rfl T.g_NoShape (by exact rfl)) pa_nil))) pa_nil))) pa_nil))))
  (pss_cons (ps_set (i := 1) sc__law_classes.nd rfl (by first | exact Or.inl rfl | exact Or.inr rfl) (pe_op op_cat (pv 1) (pe_lst (pa_cons (pe_tup (pa_cons pe_str (pa_cons (pe_callB (r := rIsX K) call_isX (by rfl) T.n_isinstance (by decide +kernel) (pa_cons (pv 0) (pa_cons (pe_glob (v := .ref (He.ga K "NoPlace")) rfl T.g_NoPlace (by exact rfl)) pa_nil))) pa_nil))) (pa_cons (pe_tup (pa_cons pe_str (pa_cons (pe_callB (r := rIsX K) call_isX (by rfl) T.n_isinstance (by decide +kernel) (pa_cons (pv 0) (pa_cons (pe_glob (v := .ref (He.ga K "NoRow")) rfl T.g_NoRow (by exact rfl)) pa_nil))) pa_nil))) pa_nil)))))
  (pss_cons (ps_set (i := 1) sc__law_classes.nd rfl (by first | exact Or.inl rfl | exact Or.inr rfl) (pe_op op_cat (pv 1) (pe_lst (pa_cons (pe_tup (pa_cons pe_str (pa_cons (pe_callB (r := rIsX K) call_isX (by rfl) T.n_isinstance (by decide +kernel) (pa_cons (pv 0) (pa_cons (pe_glob (v := .ref (He.ga K "Hidden")) rfl T.g_Hidden (by exact rfl)) pa_nil))) pa_nil))) (pa_cons (pe_tup (pa_cons pe_str (pa_cons (pe_callB (r := rIsX K) call_isX (by rfl) T.n_isinstance (by decide +kernel) (pa_cons (pv 0) (pa_cons (pe_glob (v := .ref (He.ga K "SherdError")) rfl T.g_SherdError (by exact rfl)) pa_nil))) pa_nil))) pa_nil)))))
  (pss_cons (ps_expr (pe_bmK K PySem.F.plainAttrs_list PySem.F.slot_list_append PySem.F.type_list_append mt_append (pv 1) (pa_cons (pe_tup (pa_cons pe_str (pa_cons (pe_callB (r := rIsX K) call_isX (by rfl) T.n_isinstance (by decide +kernel) (pa_cons (pv 0) (pa_cons (pe_bltn (v := .ty "ValueError") (u := .type "ValueError") (by rfl) T.n_ValueError (by decide +kernel) (by exact rfl)) pa_nil))) pa_nil))) pa_nil)))
  (pss_cons (ps_set (i := 2) sc__law_classes.nd rfl (by first | exact Or.inl rfl | exact Or.inr rfl) (pe_callB (r := rIsXT K) call_isXT (by rfl) T.n_isinstance (by decide +kernel) (pa_cons (pv 0) (pa_cons (pe_tup (pa_cons (pe_glob (v := .ref (He.ga K "Dark")) rfl T.g_Dark (by exact rfl)) (pa_cons (pe_glob (v := .ref (He.ga K "Down")) rfl T.g_Down (by exact rfl)) (pa_cons (pe_glob (v := .ref (He.ga K "Lost")) rfl T.g_Lost (by exact rfl)) (pa_cons (pe_glob (v := .ref (He.ga K "NoBook")) rfl T.g_NoBook (by exact rfl)) (pa_cons (pe_glob (v := .ref (He.ga K "NoCard")) rfl T.g_NoCard (by exact rfl)) (pa_cons (pe_glob (v := .ref (He.ga K "NoHomes")) rfl T.g_NoHomes (by exact rfl)) (pa_cons (pe_glob (v := .ref (He.ga K "NoHour")) rfl T.g_NoHour (by exact rfl)) (pa_cons (pe_glob (v := .ref (He.ga K "NoHouse")) rfl T.g_NoHouse (by exact rfl)) (pa_cons (pe_glob (v := .ref (He.ga K "NoLevel")) rfl T.g_NoLevel (by exact rfl)) (pa_cons (pe_glob (v := .ref (He.ga K "NoMoves")) rfl T.g_NoMoves (by exact rfl)) pa_nil))))))))))) pa_nil))))
  (pss_cons (ps_set (i := 2) sc__law_classes.nd rfl (by first | exact Or.inl rfl | exact Or.inr rfl) (pe_or (pv 2) (pe_one (pe_callB (r := rIsXT K) call_isXT (by rfl) T.n_isinstance (by decide +kernel) (pa_cons (pv 0) (pa_cons (pe_tup (pa_cons (pe_glob (v := .ref (He.ga K "NoName")) rfl T.g_NoName (by exact rfl)) (pa_cons (pe_glob (v := .ref (He.ga K "NoObject")) rfl T.g_NoObject (by exact rfl)) (pa_cons (pe_glob (v := .ref (He.ga K "NoOrder")) rfl T.g_NoOrder (by exact rfl)) (pa_cons (pe_glob (v := .ref (He.ga K "NoRoom")) rfl T.g_NoRoom (by exact rfl)) (pa_cons (pe_glob (v := .ref (He.ga K "NoText")) rfl T.g_NoText (by exact rfl)) (pa_cons (pe_glob (v := .ref (He.ga K "NoTicket")) rfl T.g_NoTicket (by exact rfl)) (pa_cons (pe_glob (v := .ref (He.ga K "NoWeight")) rfl T.g_NoWeight (by exact rfl)) (pa_cons (pe_glob (v := .ref (He.ga K "NotAll")) rfl T.g_NotAll (by exact rfl)) pa_nil))))))))) pa_nil))))))
  (pss_cons (ps_set (i := 2) sc__law_classes.nd rfl (by first | exact Or.inl rfl | exact Or.inr rfl) (pe_or (pv 2) (pe_one (pe_callB (r := rIsXT K) call_isXT (by rfl) T.n_isinstance (by decide +kernel) (pa_cons (pv 0) (pa_cons (pe_tup (pa_cons (pe_glob (v := .ref (He.ga K "NotEmpty")) rfl T.g_NotEmpty (by exact rfl)) (pa_cons (pe_glob (v := .ref (He.ga K "Stale")) rfl T.g_Stale (by exact rfl)) (pa_cons (pe_glob (v := .ref (He.ga K "Stopped")) rfl T.g_Stopped (by exact rfl)) (pa_cons (pe_glob (v := .ref (He.ga K "Taken")) rfl T.g_Taken (by exact rfl)) pa_nil))))) pa_nil))))))
  (pss_one (ps_ret (pe_lc (own := [("word", 3), ("there", 4)]) (g := (gTup K 2 (gCons (gName 3) (gCons (gName 4) gNil)))) (by rfl) sc__law_classes.nd (pi_list (pe_op op_cat (pv 1) (pe_lst (pa_cons (pe_tup (pa_cons pe_str (pa_cons (pv 2) pa_nil))) pa_nil)))) (blkOk_by (own := [("word", 3), ("there", 4)]) (N := ["caught", "pairs", "other", "word", "there"]) (sc := defScope s__law_classes) (by decide +kernel)) (fun _ _ _ _ _ => (pg_tup rfl (pgs_cons (pg_name (i := 3) sc__law_classes.nd rfl (by first | exact Or.inl rfl | exact Or.inr rfl) (by first | exact Or.inr rfl | exact Or.inl rfl)) (pgs_cons (pg_name (i := 4) sc__law_classes.nd rfl (by first | exact Or.inl rfl | exact Or.inr rfl) (by first | exact Or.inr rfl | exact Or.inl rfl)) pgs_nil)))) (fun _ _ _ _ _ => (pts_one (pt_val (pv 4)))) (fun _ _ _ _ _ => (pv 3)))))))))))), ?_⟩
    have s0 := Same.refl H
    refine ⟨_, rfl, a, _, d, _, _, _, rfl, s0 _ _ ea, dk.same s0, C, .own _, isAll_at T.k_NoRest 0, (by show 2 ≤ sizeLine; decide), fun t0 nt0 => ?_⟩
    have s1 := Same.trans s0 (Same.new (o := .tup [.str "NoRest", .bl true]) nt0)
    have et0 : upd H t0 (.tup [.str "NoRest", .bl true]) t0 = some (.tup [.str "NoRest", .bl true]) := upd_same
    generalize upd H t0 (.tup [.str "NoRest", .bl true]) = H1 at *
    replace et0 : H1 t0 = some (.tup [.str "NoRest", .bl true]) := et0
    refine ⟨_, rfl, a, _, d, _, _, _, rfl, s1 _ _ ea, dk.same s1, C, .own _, isAll_at T.k_NoRest 1, (by show 2 ≤ sizeLine; decide), fun t1 nt1 => ?_⟩
    have s2 := Same.trans s1 (Same.new (o := .tup [.str "NoShape", .bl false]) nt1)
    have et1 : upd H1 t1 (.tup [.str "NoShape", .bl false]) t1 = some (.tup [.str "NoShape", .bl false]) := upd_same
    replace et0 := old (p := t1) (o := .tup [.str "NoShape", .bl false]) et0 nt1
    generalize upd H1 t1 (.tup [.str "NoShape", .bl false]) = H2 at *
    replace et1 : H2 t1 = some (.tup [.str "NoShape", .bl false]) := et1
    refine ⟨(by show 2 ≤ sizeLine; decide), fun l1 nl1 => ?_⟩
    have s3 := Same.trans s2 (Same.new (o := .lst [.ref t0, .ref t1]) nl1)
    have el1 : upd H2 l1 (.lst [.ref t0, .ref t1]) l1 = some (.lst [.ref t0, .ref t1]) := upd_same
    replace et0 := old (p := l1) (o := .lst [.ref t0, .ref t1]) et0 nl1
    replace et1 := old (p := l1) (o := .lst [.ref t0, .ref t1]) et1 nl1
    generalize upd H2 l1 (.lst [.ref t0, .ref t1]) = H3 at *
    replace el1 : H3 l1 = some (.lst [.ref t0, .ref t1]) := el1
    refine ⟨_, rfl, ?_⟩
    refine ⟨_, rfl, a, _, d, _, _, _, rfl, s3 _ _ ea, dk.same s3, C, .own _, isAll_at T.k_NoRest 2, (by show 2 ≤ sizeLine; decide), fun t2 nt2 => ?_⟩
    have s4 := Same.trans s3 (Same.new (o := .tup [.str "NoPlace", .bl false]) nt2)
    have et2 : upd H3 t2 (.tup [.str "NoPlace", .bl false]) t2 = some (.tup [.str "NoPlace", .bl false]) := upd_same
    replace et0 := old (p := t2) (o := .tup [.str "NoPlace", .bl false]) et0 nt2
    replace et1 := old (p := t2) (o := .tup [.str "NoPlace", .bl false]) et1 nt2
    replace el1 := old (p := t2) (o := .tup [.str "NoPlace", .bl false]) el1 nt2
    generalize upd H3 t2 (.tup [.str "NoPlace", .bl false]) = H4 at *
    replace et2 : H4 t2 = some (.tup [.str "NoPlace", .bl false]) := et2
    refine ⟨_, rfl, a, _, d, _, _, _, rfl, s4 _ _ ea, dk.same s4, C, .own _, isAll_at T.k_NoRest 3, (by show 2 ≤ sizeLine; decide), fun t3 nt3 => ?_⟩
    have s5 := Same.trans s4 (Same.new (o := .tup [.str "NoRow", .bl false]) nt3)
    have et3 : upd H4 t3 (.tup [.str "NoRow", .bl false]) t3 = some (.tup [.str "NoRow", .bl false]) := upd_same
    replace et0 := old (p := t3) (o := .tup [.str "NoRow", .bl false]) et0 nt3
    replace et1 := old (p := t3) (o := .tup [.str "NoRow", .bl false]) et1 nt3
    replace el1 := old (p := t3) (o := .tup [.str "NoRow", .bl false]) el1 nt3
    replace et2 := old (p := t3) (o := .tup [.str "NoRow", .bl false]) et2 nt3
    generalize upd H4 t3 (.tup [.str "NoRow", .bl false]) = H5 at *
    replace et3 : H5 t3 = some (.tup [.str "NoRow", .bl false]) := et3
    refine ⟨(by show 2 ≤ sizeLine; decide), fun l2 nl2 => ?_⟩
    have s6 := Same.trans s5 (Same.new (o := .lst [.ref t2, .ref t3]) nl2)
    have el2 : upd H5 l2 (.lst [.ref t2, .ref t3]) l2 = some (.lst [.ref t2, .ref t3]) := upd_same
    replace et0 := old (p := l2) (o := .lst [.ref t2, .ref t3]) et0 nl2
    replace et1 := old (p := l2) (o := .lst [.ref t2, .ref t3]) et1 nl2
    replace el1 := old (p := l2) (o := .lst [.ref t2, .ref t3]) el1 nl2
    replace et2 := old (p := l2) (o := .lst [.ref t2, .ref t3]) et2 nl2
    replace et3 := old (p := l2) (o := .lst [.ref t2, .ref t3]) et3 nl2
    generalize upd H5 l2 (.lst [.ref t2, .ref t3]) = H6 at *
    replace el2 : H6 l2 = some (.lst [.ref t2, .ref t3]) := el2
    refine ⟨_, _, _, _, rfl, rfl, el1, el2, (by show 2 + 2 ≤ sizeLine; decide), fun l3 nl3 => ?_⟩
    have s7 := Same.trans s6 (Same.new (o := .lst ([.ref t0, .ref t1] ++ [.ref t2, .ref t3])) nl3)
    have el3 : upd H6 l3 (.lst ([.ref t0, .ref t1] ++ [.ref t2, .ref t3])) l3 = some (.lst ([.ref t0, .ref t1] ++ [.ref t2, .ref t3])) := upd_same
    replace et0 := old (p := l3) (o := .lst ([.ref t0, .ref t1] ++ [.ref t2, .ref t3])) et0 nl3
    replace et1 := old (p := l3) (o := .lst ([.ref t0, .ref t1] ++ [.ref t2, .ref t3])) et1 nl3
    replace el1 := old (p := l3) (o := .lst ([.ref t0, .ref t1] ++ [.ref t2, .ref t3])) el1 nl3
    replace et2 := old (p := l3) (o := .lst ([.ref t0, .ref t1] ++ [.ref t2, .ref t3])) et2 nl3
    replace et3 := old (p := l3) (o := .lst ([.ref t0, .ref t1] ++ [.ref t2, .ref t3])) et3 nl3
    replace el2 := old (p := l3) (o := .lst ([.ref t0, .ref t1] ++ [.ref t2, .ref t3])) el2 nl3
    generalize upd H6 l3 (.lst ([.ref t0, .ref t1] ++ [.ref t2, .ref t3])) = H7 at *
    replace el3 : H7 l3 = some (.lst [.ref t0, .ref t1, .ref t2, .ref t3]) := el3
    refine ⟨_, rfl, ?_⟩
    refine ⟨_, rfl, a, _, d, _, _, _, rfl, s7 _ _ ea, dk.same s7, C, .own _, isAll_at T.k_NoRest 4, (by show 2 ≤ sizeLine; decide), fun t4 nt4 => ?_⟩
    have s8 := Same.trans s7 (Same.new (o := .tup [.str "Hidden", .bl false]) nt4)
    have et4 : upd H7 t4 (.tup [.str "Hidden", .bl false]) t4 = some (.tup [.str "Hidden", .bl false]) := upd_same
    replace et0 := old (p := t4) (o := .tup [.str "Hidden", .bl false]) et0 nt4
    replace et1 := old (p := t4) (o := .tup [.str "Hidden", .bl false]) et1 nt4
    replace el1 := old (p := t4) (o := .tup [.str "Hidden", .bl false]) el1 nt4
    replace et2 := old (p := t4) (o := .tup [.str "Hidden", .bl false]) et2 nt4
    replace et3 := old (p := t4) (o := .tup [.str "Hidden", .bl false]) et3 nt4
    replace el2 := old (p := t4) (o := .tup [.str "Hidden", .bl false]) el2 nt4
    replace el3 := old (p := t4) (o := .tup [.str "Hidden", .bl false]) el3 nt4
    generalize upd H7 t4 (.tup [.str "Hidden", .bl false]) = H8 at *
    replace et4 : H8 t4 = some (.tup [.str "Hidden", .bl false]) := et4
    refine ⟨_, rfl, a, _, d, _, _, _, rfl, s8 _ _ ea, dk.same s8, C, .own _, isAll_at T.k_NoRest 27, (by show 2 ≤ sizeLine; decide), fun t5 nt5 => ?_⟩
    have s9 := Same.trans s8 (Same.new (o := .tup [.str "Sherd", .bl true]) nt5)
    have et5 : upd H8 t5 (.tup [.str "Sherd", .bl true]) t5 = some (.tup [.str "Sherd", .bl true]) := upd_same
    replace et0 := old (p := t5) (o := .tup [.str "Sherd", .bl true]) et0 nt5
    replace et1 := old (p := t5) (o := .tup [.str "Sherd", .bl true]) et1 nt5
    replace el1 := old (p := t5) (o := .tup [.str "Sherd", .bl true]) el1 nt5
    replace et2 := old (p := t5) (o := .tup [.str "Sherd", .bl true]) et2 nt5
    replace et3 := old (p := t5) (o := .tup [.str "Sherd", .bl true]) et3 nt5
    replace el2 := old (p := t5) (o := .tup [.str "Sherd", .bl true]) el2 nt5
    replace el3 := old (p := t5) (o := .tup [.str "Sherd", .bl true]) el3 nt5
    replace et4 := old (p := t5) (o := .tup [.str "Sherd", .bl true]) et4 nt5
    generalize upd H8 t5 (.tup [.str "Sherd", .bl true]) = H9 at *
    replace et5 : H9 t5 = some (.tup [.str "Sherd", .bl true]) := et5
    refine ⟨(by show 2 ≤ sizeLine; decide), fun l4 nl4 => ?_⟩
    have s10 := Same.trans s9 (Same.new (o := .lst [.ref t4, .ref t5]) nl4)
    have el4 : upd H9 l4 (.lst [.ref t4, .ref t5]) l4 = some (.lst [.ref t4, .ref t5]) := upd_same
    replace et0 := old (p := l4) (o := .lst [.ref t4, .ref t5]) et0 nl4
    replace et1 := old (p := l4) (o := .lst [.ref t4, .ref t5]) et1 nl4
    replace el1 := old (p := l4) (o := .lst [.ref t4, .ref t5]) el1 nl4
    replace et2 := old (p := l4) (o := .lst [.ref t4, .ref t5]) et2 nl4
    replace et3 := old (p := l4) (o := .lst [.ref t4, .ref t5]) et3 nl4
    replace el2 := old (p := l4) (o := .lst [.ref t4, .ref t5]) el2 nl4
    replace el3 := old (p := l4) (o := .lst [.ref t4, .ref t5]) el3 nl4
    replace et4 := old (p := l4) (o := .lst [.ref t4, .ref t5]) et4 nl4
    replace et5 := old (p := l4) (o := .lst [.ref t4, .ref t5]) et5 nl4
    generalize upd H9 l4 (.lst [.ref t4, .ref t5]) = H10 at *
    replace el4 : H10 l4 = some (.lst [.ref t4, .ref t5]) := el4
    refine ⟨_, _, _, _, rfl, rfl, el3, el4, (by show 4 + 2 ≤ sizeLine; decide), fun l5 nl5 => ?_⟩
    have s11 := Same.trans s10 (Same.new (o := .lst ([.ref t0, .ref t1, .ref t2, .ref t3] ++ [.ref t4, .ref t5])) nl5)
    have el5 : upd H10 l5 (.lst ([.ref t0, .ref t1, .ref t2, .ref t3] ++ [.ref t4, .ref t5])) l5 = some (.lst ([.ref t0, .ref t1, .ref t2, .ref t3] ++ [.ref t4, .ref t5])) := upd_same
    replace et0 := old (p := l5) (o := .lst ([.ref t0, .ref t1, .ref t2, .ref t3] ++ [.ref t4, .ref t5])) et0 nl5
    replace et1 := old (p := l5) (o := .lst ([.ref t0, .ref t1, .ref t2, .ref t3] ++ [.ref t4, .ref t5])) et1 nl5
    replace el1 := old (p := l5) (o := .lst ([.ref t0, .ref t1, .ref t2, .ref t3] ++ [.ref t4, .ref t5])) el1 nl5
    replace et2 := old (p := l5) (o := .lst ([.ref t0, .ref t1, .ref t2, .ref t3] ++ [.ref t4, .ref t5])) et2 nl5
    replace et3 := old (p := l5) (o := .lst ([.ref t0, .ref t1, .ref t2, .ref t3] ++ [.ref t4, .ref t5])) et3 nl5
    replace el2 := old (p := l5) (o := .lst ([.ref t0, .ref t1, .ref t2, .ref t3] ++ [.ref t4, .ref t5])) el2 nl5
    replace el3 := old (p := l5) (o := .lst ([.ref t0, .ref t1, .ref t2, .ref t3] ++ [.ref t4, .ref t5])) el3 nl5
    replace et4 := old (p := l5) (o := .lst ([.ref t0, .ref t1, .ref t2, .ref t3] ++ [.ref t4, .ref t5])) et4 nl5
    replace et5 := old (p := l5) (o := .lst ([.ref t0, .ref t1, .ref t2, .ref t3] ++ [.ref t4, .ref t5])) et5 nl5
    replace el4 := old (p := l5) (o := .lst ([.ref t0, .ref t1, .ref t2, .ref t3] ++ [.ref t4, .ref t5])) el4 nl5
    generalize upd H10 l5 (.lst ([.ref t0, .ref t1, .ref t2, .ref t3] ++ [.ref t4, .ref t5])) = H11 at *
    replace el5 : H11 l5 = some (.lst [.ref t0, .ref t1, .ref t2, .ref t3, .ref t4, .ref t5]) := el5
    refine ⟨_, rfl, .inl ⟨rfl, _, SqL.of el5⟩, ?_⟩
    refine ⟨_, rfl, a, _, d, _, _, _, rfl, s11 _ _ ea, dk.same s11, C, .ty _, isAll_v T.k_NoRest, (by show 2 ≤ sizeLine; decide), fun t6 nt6 => ?_⟩
    have s12 := Same.trans s11 (Same.new (o := .tup [.str "Value", .bl true]) nt6)
    have et6 : upd H11 t6 (.tup [.str "Value", .bl true]) t6 = some (.tup [.str "Value", .bl true]) := upd_same
    replace et0 := old (p := t6) (o := .tup [.str "Value", .bl true]) et0 nt6
    replace et1 := old (p := t6) (o := .tup [.str "Value", .bl true]) et1 nt6
    replace el1 := old (p := t6) (o := .tup [.str "Value", .bl true]) el1 nt6
    replace et2 := old (p := t6) (o := .tup [.str "Value", .bl true]) et2 nt6
    replace et3 := old (p := t6) (o := .tup [.str "Value", .bl true]) et3 nt6
    replace el2 := old (p := t6) (o := .tup [.str "Value", .bl true]) el2 nt6
    replace el3 := old (p := t6) (o := .tup [.str "Value", .bl true]) el3 nt6
    replace et4 := old (p := t6) (o := .tup [.str "Value", .bl true]) et4 nt6
    replace et5 := old (p := t6) (o := .tup [.str "Value", .bl true]) et5 nt6
    replace el4 := old (p := t6) (o := .tup [.str "Value", .bl true]) el4 nt6
    replace el5 := old (p := t6) (o := .tup [.str "Value", .bl true]) el5 nt6
    generalize upd H11 t6 (.tup [.str "Value", .bl true]) = H12 at *
    replace et6 : H12 t6 = some (.tup [.str "Value", .bl true]) := et6
    refine ⟨_, _, _, rfl, rfl, el5, (by show 6 < sizeLine; decide), ?_⟩
    have hl5 : H l5 = none := by
      cases z : H l5 with
      | none => rfl
      | some o => rw [s10 _ _ z] at nl5; cases nl5
    have s13 : Same H (upd H12 l5 (.lst ([.ref t0, .ref t1, .ref t2, .ref t3, .ref t4, .ref t5] ++ [.ref t6]))) := fun b o e => by rw [upd_ne (ne_of_none e hl5)]; exact s12 _ _ e
    replace et0 : upd H12 l5 (.lst ([.ref t0, .ref t1, .ref t2, .ref t3, .ref t4, .ref t5] ++ [.ref t6])) t0 = _ := (upd_ne (fun z => by rw [z, el5] at et0; cases et0)).trans et0
    replace et1 : upd H12 l5 (.lst ([.ref t0, .ref t1, .ref t2, .ref t3, .ref t4, .ref t5] ++ [.ref t6])) t1 = _ := (upd_ne (fun z => by rw [z, el5] at et1; cases et1)).trans et1
    replace et2 : upd H12 l5 (.lst ([.ref t0, .ref t1, .ref t2, .ref t3, .ref t4, .ref t5] ++ [.ref t6])) t2 = _ := (upd_ne (fun z => by rw [z, el5] at et2; cases et2)).trans et2
    replace et3 : upd H12 l5 (.lst ([.ref t0, .ref t1, .ref t2, .ref t3, .ref t4, .ref t5] ++ [.ref t6])) t3 = _ := (upd_ne (fun z => by rw [z, el5] at et3; cases et3)).trans et3
    replace et4 : upd H12 l5 (.lst ([.ref t0, .ref t1, .ref t2, .ref t3, .ref t4, .ref t5] ++ [.ref t6])) t4 = _ := (upd_ne (fun z => by rw [z, el5] at et4; cases et4)).trans et4
    replace et5 : upd H12 l5 (.lst ([.ref t0, .ref t1, .ref t2, .ref t3, .ref t4, .ref t5] ++ [.ref t6])) t5 = _ := (upd_ne (fun z => by rw [z, el5] at et5; cases et5)).trans et5
    replace et6 : upd H12 l5 (.lst ([.ref t0, .ref t1, .ref t2, .ref t3, .ref t4, .ref t5] ++ [.ref t6])) t6 = _ := (upd_ne (fun z => by rw [z, el5] at et6; cases et6)).trans et6
    replace el5 : upd H12 l5 (.lst ([.ref t0, .ref t1, .ref t2, .ref t3, .ref t4, .ref t5] ++ [.ref t6])) l5 = some (.lst [.ref t0, .ref t1, .ref t2, .ref t3, .ref t4, .ref t5, .ref t6]) := upd_same
    show _
    generalize upd H12 l5 (.lst ([.ref t0, .ref t1, .ref t2, .ref t3, .ref t4, .ref t5] ++ [.ref t6])) = H13 at *
    refine ⟨_, rfl, (by show 10 ≤ sizeLine; decide), fun u1 nu1 => ?_⟩
    have s14 := Same.trans s13 (Same.new (o := .tup [.ref (He.ga K "Dark"), .ref (He.ga K "Down"), .ref (He.ga K "Lost"), .ref (He.ga K "NoBook"), .ref (He.ga K "NoCard"), .ref (He.ga K "NoHomes"), .ref (He.ga K "NoHour"), .ref (He.ga K "NoHouse"), .ref (He.ga K "NoLevel"), .ref (He.ga K "NoMoves")]) nu1)
    have eu1 : upd H13 u1 (.tup [.ref (He.ga K "Dark"), .ref (He.ga K "Down"), .ref (He.ga K "Lost"), .ref (He.ga K "NoBook"), .ref (He.ga K "NoCard"), .ref (He.ga K "NoHomes"), .ref (He.ga K "NoHour"), .ref (He.ga K "NoHouse"), .ref (He.ga K "NoLevel"), .ref (He.ga K "NoMoves")]) u1 = some (.tup [.ref (He.ga K "Dark"), .ref (He.ga K "Down"), .ref (He.ga K "Lost"), .ref (He.ga K "NoBook"), .ref (He.ga K "NoCard"), .ref (He.ga K "NoHomes"), .ref (He.ga K "NoHour"), .ref (He.ga K "NoHouse"), .ref (He.ga K "NoLevel"), .ref (He.ga K "NoMoves")]) := upd_same
    replace et0 := old (p := u1) (o := .tup [.ref (He.ga K "Dark"), .ref (He.ga K "Down"), .ref (He.ga K "Lost"), .ref (He.ga K "NoBook"), .ref (He.ga K "NoCard"), .ref (He.ga K "NoHomes"), .ref (He.ga K "NoHour"), .ref (He.ga K "NoHouse"), .ref (He.ga K "NoLevel"), .ref (He.ga K "NoMoves")]) et0 nu1
    replace et1 := old (p := u1) (o := .tup [.ref (He.ga K "Dark"), .ref (He.ga K "Down"), .ref (He.ga K "Lost"), .ref (He.ga K "NoBook"), .ref (He.ga K "NoCard"), .ref (He.ga K "NoHomes"), .ref (He.ga K "NoHour"), .ref (He.ga K "NoHouse"), .ref (He.ga K "NoLevel"), .ref (He.ga K "NoMoves")]) et1 nu1
    replace et2 := old (p := u1) (o := .tup [.ref (He.ga K "Dark"), .ref (He.ga K "Down"), .ref (He.ga K "Lost"), .ref (He.ga K "NoBook"), .ref (He.ga K "NoCard"), .ref (He.ga K "NoHomes"), .ref (He.ga K "NoHour"), .ref (He.ga K "NoHouse"), .ref (He.ga K "NoLevel"), .ref (He.ga K "NoMoves")]) et2 nu1
    replace et3 := old (p := u1) (o := .tup [.ref (He.ga K "Dark"), .ref (He.ga K "Down"), .ref (He.ga K "Lost"), .ref (He.ga K "NoBook"), .ref (He.ga K "NoCard"), .ref (He.ga K "NoHomes"), .ref (He.ga K "NoHour"), .ref (He.ga K "NoHouse"), .ref (He.ga K "NoLevel"), .ref (He.ga K "NoMoves")]) et3 nu1
    replace et4 := old (p := u1) (o := .tup [.ref (He.ga K "Dark"), .ref (He.ga K "Down"), .ref (He.ga K "Lost"), .ref (He.ga K "NoBook"), .ref (He.ga K "NoCard"), .ref (He.ga K "NoHomes"), .ref (He.ga K "NoHour"), .ref (He.ga K "NoHouse"), .ref (He.ga K "NoLevel"), .ref (He.ga K "NoMoves")]) et4 nu1
    replace et5 := old (p := u1) (o := .tup [.ref (He.ga K "Dark"), .ref (He.ga K "Down"), .ref (He.ga K "Lost"), .ref (He.ga K "NoBook"), .ref (He.ga K "NoCard"), .ref (He.ga K "NoHomes"), .ref (He.ga K "NoHour"), .ref (He.ga K "NoHouse"), .ref (He.ga K "NoLevel"), .ref (He.ga K "NoMoves")]) et5 nu1
    replace el5 := old (p := u1) (o := .tup [.ref (He.ga K "Dark"), .ref (He.ga K "Down"), .ref (He.ga K "Lost"), .ref (He.ga K "NoBook"), .ref (He.ga K "NoCard"), .ref (He.ga K "NoHomes"), .ref (He.ga K "NoHour"), .ref (He.ga K "NoHouse"), .ref (He.ga K "NoLevel"), .ref (He.ga K "NoMoves")]) el5 nu1
    replace et6 := old (p := u1) (o := .tup [.ref (He.ga K "Dark"), .ref (He.ga K "Down"), .ref (He.ga K "Lost"), .ref (He.ga K "NoBook"), .ref (He.ga K "NoCard"), .ref (He.ga K "NoHomes"), .ref (He.ga K "NoHour"), .ref (He.ga K "NoHouse"), .ref (He.ga K "NoLevel"), .ref (He.ga K "NoMoves")]) et6 nu1
    generalize upd H13 u1 (.tup [.ref (He.ga K "Dark"), .ref (He.ga K "Down"), .ref (He.ga K "Lost"), .ref (He.ga K "NoBook"), .ref (He.ga K "NoCard"), .ref (He.ga K "NoHomes"), .ref (He.ga K "NoHour"), .ref (He.ga K "NoHouse"), .ref (He.ga K "NoLevel"), .ref (He.ga K "NoMoves")]) = H14 at *
    replace eu1 : H14 u1 = some (.tup [.ref (He.ga K "Dark"), .ref (He.ga K "Down"), .ref (He.ga K "Lost"), .ref (He.ga K "NoBook"), .ref (He.ga K "NoCard"), .ref (He.ga K "NoHomes"), .ref (He.ga K "NoHour"), .ref (He.ga K "NoHouse"), .ref (He.ga K "NoLevel"), .ref (He.ga K "NoMoves")]) := eu1
    refine ⟨a, _, d, u1, _, _, _, rfl, eu1, clsAll ["Dark", "Down", "Lost", "NoBook", "NoCard", "NoHomes", "NoHour", "NoHouse", "NoLevel", "NoMoves"], s14 _ _ ea, dk.same s14, C, isAll_none T.k_NoRest ["Dark", "Down", "Lost", "NoBook", "NoCard", "NoHomes", "NoHour", "NoHouse", "NoLevel", "NoMoves"] (by decide), ?_⟩
    refine ⟨_, rfl, _, rfl, ?_⟩
    refine ⟨_, rfl, (by show 8 ≤ sizeLine; decide), fun u2 nu2 => ?_⟩
    have s15 := Same.trans s14 (Same.new (o := .tup [.ref (He.ga K "NoName"), .ref (He.ga K "NoObject"), .ref (He.ga K "NoOrder"), .ref (He.ga K "NoRoom"), .ref (He.ga K "NoText"), .ref (He.ga K "NoTicket"), .ref (He.ga K "NoWeight"), .ref (He.ga K "NotAll")]) nu2)
    have eu2 : upd H14 u2 (.tup [.ref (He.ga K "NoName"), .ref (He.ga K "NoObject"), .ref (He.ga K "NoOrder"), .ref (He.ga K "NoRoom"), .ref (He.ga K "NoText"), .ref (He.ga K "NoTicket"), .ref (He.ga K "NoWeight"), .ref (He.ga K "NotAll")]) u2 = some (.tup [.ref (He.ga K "NoName"), .ref (He.ga K "NoObject"), .ref (He.ga K "NoOrder"), .ref (He.ga K "NoRoom"), .ref (He.ga K "NoText"), .ref (He.ga K "NoTicket"), .ref (He.ga K "NoWeight"), .ref (He.ga K "NotAll")]) := upd_same
    replace et0 := old (p := u2) (o := .tup [.ref (He.ga K "NoName"), .ref (He.ga K "NoObject"), .ref (He.ga K "NoOrder"), .ref (He.ga K "NoRoom"), .ref (He.ga K "NoText"), .ref (He.ga K "NoTicket"), .ref (He.ga K "NoWeight"), .ref (He.ga K "NotAll")]) et0 nu2
    replace et1 := old (p := u2) (o := .tup [.ref (He.ga K "NoName"), .ref (He.ga K "NoObject"), .ref (He.ga K "NoOrder"), .ref (He.ga K "NoRoom"), .ref (He.ga K "NoText"), .ref (He.ga K "NoTicket"), .ref (He.ga K "NoWeight"), .ref (He.ga K "NotAll")]) et1 nu2
    replace et2 := old (p := u2) (o := .tup [.ref (He.ga K "NoName"), .ref (He.ga K "NoObject"), .ref (He.ga K "NoOrder"), .ref (He.ga K "NoRoom"), .ref (He.ga K "NoText"), .ref (He.ga K "NoTicket"), .ref (He.ga K "NoWeight"), .ref (He.ga K "NotAll")]) et2 nu2
    replace et3 := old (p := u2) (o := .tup [.ref (He.ga K "NoName"), .ref (He.ga K "NoObject"), .ref (He.ga K "NoOrder"), .ref (He.ga K "NoRoom"), .ref (He.ga K "NoText"), .ref (He.ga K "NoTicket"), .ref (He.ga K "NoWeight"), .ref (He.ga K "NotAll")]) et3 nu2
    replace et4 := old (p := u2) (o := .tup [.ref (He.ga K "NoName"), .ref (He.ga K "NoObject"), .ref (He.ga K "NoOrder"), .ref (He.ga K "NoRoom"), .ref (He.ga K "NoText"), .ref (He.ga K "NoTicket"), .ref (He.ga K "NoWeight"), .ref (He.ga K "NotAll")]) et4 nu2
    replace et5 := old (p := u2) (o := .tup [.ref (He.ga K "NoName"), .ref (He.ga K "NoObject"), .ref (He.ga K "NoOrder"), .ref (He.ga K "NoRoom"), .ref (He.ga K "NoText"), .ref (He.ga K "NoTicket"), .ref (He.ga K "NoWeight"), .ref (He.ga K "NotAll")]) et5 nu2
    replace el5 := old (p := u2) (o := .tup [.ref (He.ga K "NoName"), .ref (He.ga K "NoObject"), .ref (He.ga K "NoOrder"), .ref (He.ga K "NoRoom"), .ref (He.ga K "NoText"), .ref (He.ga K "NoTicket"), .ref (He.ga K "NoWeight"), .ref (He.ga K "NotAll")]) el5 nu2
    replace et6 := old (p := u2) (o := .tup [.ref (He.ga K "NoName"), .ref (He.ga K "NoObject"), .ref (He.ga K "NoOrder"), .ref (He.ga K "NoRoom"), .ref (He.ga K "NoText"), .ref (He.ga K "NoTicket"), .ref (He.ga K "NoWeight"), .ref (He.ga K "NotAll")]) et6 nu2
    replace eu1 := old (p := u2) (o := .tup [.ref (He.ga K "NoName"), .ref (He.ga K "NoObject"), .ref (He.ga K "NoOrder"), .ref (He.ga K "NoRoom"), .ref (He.ga K "NoText"), .ref (He.ga K "NoTicket"), .ref (He.ga K "NoWeight"), .ref (He.ga K "NotAll")]) eu1 nu2
    generalize upd H14 u2 (.tup [.ref (He.ga K "NoName"), .ref (He.ga K "NoObject"), .ref (He.ga K "NoOrder"), .ref (He.ga K "NoRoom"), .ref (He.ga K "NoText"), .ref (He.ga K "NoTicket"), .ref (He.ga K "NoWeight"), .ref (He.ga K "NotAll")]) = H15 at *
    replace eu2 : H15 u2 = some (.tup [.ref (He.ga K "NoName"), .ref (He.ga K "NoObject"), .ref (He.ga K "NoOrder"), .ref (He.ga K "NoRoom"), .ref (He.ga K "NoText"), .ref (He.ga K "NoTicket"), .ref (He.ga K "NoWeight"), .ref (He.ga K "NotAll")]) := eu2
    refine ⟨a, _, d, u2, _, _, _, rfl, eu2, clsAll ["NoName", "NoObject", "NoOrder", "NoRoom", "NoText", "NoTicket", "NoWeight", "NotAll"], s15 _ _ ea, dk.same s15, C, isAll_none T.k_NoRest ["NoName", "NoObject", "NoOrder", "NoRoom", "NoText", "NoTicket", "NoWeight", "NotAll"] (by decide), ?_⟩
    refine ⟨_, rfl, _, rfl, ?_⟩
    refine ⟨_, rfl, (by show 4 ≤ sizeLine; decide), fun u3 nu3 => ?_⟩
    have s16 := Same.trans s15 (Same.new (o := .tup [.ref (He.ga K "NotEmpty"), .ref (He.ga K "Stale"), .ref (He.ga K "Stopped"), .ref (He.ga K "Taken")]) nu3)
    have eu3 : upd H15 u3 (.tup [.ref (He.ga K "NotEmpty"), .ref (He.ga K "Stale"), .ref (He.ga K "Stopped"), .ref (He.ga K "Taken")]) u3 = some (.tup [.ref (He.ga K "NotEmpty"), .ref (He.ga K "Stale"), .ref (He.ga K "Stopped"), .ref (He.ga K "Taken")]) := upd_same
    replace et0 := old (p := u3) (o := .tup [.ref (He.ga K "NotEmpty"), .ref (He.ga K "Stale"), .ref (He.ga K "Stopped"), .ref (He.ga K "Taken")]) et0 nu3
    replace et1 := old (p := u3) (o := .tup [.ref (He.ga K "NotEmpty"), .ref (He.ga K "Stale"), .ref (He.ga K "Stopped"), .ref (He.ga K "Taken")]) et1 nu3
    replace et2 := old (p := u3) (o := .tup [.ref (He.ga K "NotEmpty"), .ref (He.ga K "Stale"), .ref (He.ga K "Stopped"), .ref (He.ga K "Taken")]) et2 nu3
    replace et3 := old (p := u3) (o := .tup [.ref (He.ga K "NotEmpty"), .ref (He.ga K "Stale"), .ref (He.ga K "Stopped"), .ref (He.ga K "Taken")]) et3 nu3
    replace et4 := old (p := u3) (o := .tup [.ref (He.ga K "NotEmpty"), .ref (He.ga K "Stale"), .ref (He.ga K "Stopped"), .ref (He.ga K "Taken")]) et4 nu3
    replace et5 := old (p := u3) (o := .tup [.ref (He.ga K "NotEmpty"), .ref (He.ga K "Stale"), .ref (He.ga K "Stopped"), .ref (He.ga K "Taken")]) et5 nu3
    replace el5 := old (p := u3) (o := .tup [.ref (He.ga K "NotEmpty"), .ref (He.ga K "Stale"), .ref (He.ga K "Stopped"), .ref (He.ga K "Taken")]) el5 nu3
    replace et6 := old (p := u3) (o := .tup [.ref (He.ga K "NotEmpty"), .ref (He.ga K "Stale"), .ref (He.ga K "Stopped"), .ref (He.ga K "Taken")]) et6 nu3
    replace eu1 := old (p := u3) (o := .tup [.ref (He.ga K "NotEmpty"), .ref (He.ga K "Stale"), .ref (He.ga K "Stopped"), .ref (He.ga K "Taken")]) eu1 nu3
    replace eu2 := old (p := u3) (o := .tup [.ref (He.ga K "NotEmpty"), .ref (He.ga K "Stale"), .ref (He.ga K "Stopped"), .ref (He.ga K "Taken")]) eu2 nu3
    generalize upd H15 u3 (.tup [.ref (He.ga K "NotEmpty"), .ref (He.ga K "Stale"), .ref (He.ga K "Stopped"), .ref (He.ga K "Taken")]) = H16 at *
    replace eu3 : H16 u3 = some (.tup [.ref (He.ga K "NotEmpty"), .ref (He.ga K "Stale"), .ref (He.ga K "Stopped"), .ref (He.ga K "Taken")]) := eu3
    refine ⟨a, _, d, u3, _, _, _, rfl, eu3, clsAll ["NotEmpty", "Stale", "Stopped", "Taken"], s16 _ _ ea, dk.same s16, C, isAll_none T.k_NoRest ["NotEmpty", "Stale", "Stopped", "Taken"] (by decide), ?_⟩
    refine ⟨_, rfl, _, rfl, (by show 2 ≤ sizeLine; decide), fun t7 nt7 => ?_⟩
    have s17 := Same.trans s16 (Same.new (o := .tup [.str "other", .bl false]) nt7)
    have et7 : upd H16 t7 (.tup [.str "other", .bl false]) t7 = some (.tup [.str "other", .bl false]) := upd_same
    replace et0 := old (p := t7) (o := .tup [.str "other", .bl false]) et0 nt7
    replace et1 := old (p := t7) (o := .tup [.str "other", .bl false]) et1 nt7
    replace et2 := old (p := t7) (o := .tup [.str "other", .bl false]) et2 nt7
    replace et3 := old (p := t7) (o := .tup [.str "other", .bl false]) et3 nt7
    replace et4 := old (p := t7) (o := .tup [.str "other", .bl false]) et4 nt7
    replace et5 := old (p := t7) (o := .tup [.str "other", .bl false]) et5 nt7
    replace el5 := old (p := t7) (o := .tup [.str "other", .bl false]) el5 nt7
    replace et6 := old (p := t7) (o := .tup [.str "other", .bl false]) et6 nt7
    replace eu1 := old (p := t7) (o := .tup [.str "other", .bl false]) eu1 nt7
    replace eu2 := old (p := t7) (o := .tup [.str "other", .bl false]) eu2 nt7
    replace eu3 := old (p := t7) (o := .tup [.str "other", .bl false]) eu3 nt7
    generalize upd H16 t7 (.tup [.str "other", .bl false]) = H17 at *
    replace et7 : H17 t7 = some (.tup [.str "other", .bl false]) := et7
    refine ⟨(by show 1 ≤ sizeLine; decide), fun l6 nl6 => ?_⟩
    have s18 := Same.trans s17 (Same.new (o := .lst [.ref t7]) nl6)
    have el6 : upd H17 l6 (.lst [.ref t7]) l6 = some (.lst [.ref t7]) := upd_same
    replace et0 := old (p := l6) (o := .lst [.ref t7]) et0 nl6
    replace et1 := old (p := l6) (o := .lst [.ref t7]) et1 nl6
    replace et2 := old (p := l6) (o := .lst [.ref t7]) et2 nl6
    replace et3 := old (p := l6) (o := .lst [.ref t7]) et3 nl6
    replace et4 := old (p := l6) (o := .lst [.ref t7]) et4 nl6
    replace et5 := old (p := l6) (o := .lst [.ref t7]) et5 nl6
    replace el5 := old (p := l6) (o := .lst [.ref t7]) el5 nl6
    replace et6 := old (p := l6) (o := .lst [.ref t7]) et6 nl6
    replace eu1 := old (p := l6) (o := .lst [.ref t7]) eu1 nl6
    replace eu2 := old (p := l6) (o := .lst [.ref t7]) eu2 nl6
    replace eu3 := old (p := l6) (o := .lst [.ref t7]) eu3 nl6
    replace et7 := old (p := l6) (o := .lst [.ref t7]) et7 nl6
    generalize upd H17 l6 (.lst [.ref t7]) = H18 at *
    replace el6 : H18 l6 = some (.lst [.ref t7]) := el6
    refine ⟨_, _, _, _, rfl, rfl, el5, el6, (by show 7 + 1 ≤ sizeLine; decide), fun l7 nl7 => ?_⟩
    have s19 := Same.trans s18 (Same.new (o := .lst ([.ref t0, .ref t1, .ref t2, .ref t3, .ref t4, .ref t5, .ref t6] ++ [.ref t7])) nl7)
    have el7 : upd H18 l7 (.lst ([.ref t0, .ref t1, .ref t2, .ref t3, .ref t4, .ref t5, .ref t6] ++ [.ref t7])) l7 = some (.lst ([.ref t0, .ref t1, .ref t2, .ref t3, .ref t4, .ref t5, .ref t6] ++ [.ref t7])) := upd_same
    replace et0 := old (p := l7) (o := .lst ([.ref t0, .ref t1, .ref t2, .ref t3, .ref t4, .ref t5, .ref t6] ++ [.ref t7])) et0 nl7
    replace et1 := old (p := l7) (o := .lst ([.ref t0, .ref t1, .ref t2, .ref t3, .ref t4, .ref t5, .ref t6] ++ [.ref t7])) et1 nl7
    replace et2 := old (p := l7) (o := .lst ([.ref t0, .ref t1, .ref t2, .ref t3, .ref t4, .ref t5, .ref t6] ++ [.ref t7])) et2 nl7
    replace et3 := old (p := l7) (o := .lst ([.ref t0, .ref t1, .ref t2, .ref t3, .ref t4, .ref t5, .ref t6] ++ [.ref t7])) et3 nl7
    replace et4 := old (p := l7) (o := .lst ([.ref t0, .ref t1, .ref t2, .ref t3, .ref t4, .ref t5, .ref t6] ++ [.ref t7])) et4 nl7
    replace et5 := old (p := l7) (o := .lst ([.ref t0, .ref t1, .ref t2, .ref t3, .ref t4, .ref t5, .ref t6] ++ [.ref t7])) et5 nl7
    replace el5 := old (p := l7) (o := .lst ([.ref t0, .ref t1, .ref t2, .ref t3, .ref t4, .ref t5, .ref t6] ++ [.ref t7])) el5 nl7
    replace et6 := old (p := l7) (o := .lst ([.ref t0, .ref t1, .ref t2, .ref t3, .ref t4, .ref t5, .ref t6] ++ [.ref t7])) et6 nl7
    replace eu1 := old (p := l7) (o := .lst ([.ref t0, .ref t1, .ref t2, .ref t3, .ref t4, .ref t5, .ref t6] ++ [.ref t7])) eu1 nl7
    replace eu2 := old (p := l7) (o := .lst ([.ref t0, .ref t1, .ref t2, .ref t3, .ref t4, .ref t5, .ref t6] ++ [.ref t7])) eu2 nl7
    replace eu3 := old (p := l7) (o := .lst ([.ref t0, .ref t1, .ref t2, .ref t3, .ref t4, .ref t5, .ref t6] ++ [.ref t7])) eu3 nl7
    replace et7 := old (p := l7) (o := .lst ([.ref t0, .ref t1, .ref t2, .ref t3, .ref t4, .ref t5, .ref t6] ++ [.ref t7])) et7 nl7
    replace el6 := old (p := l7) (o := .lst ([.ref t0, .ref t1, .ref t2, .ref t3, .ref t4, .ref t5, .ref t6] ++ [.ref t7])) el6 nl7
    generalize upd H18 l7 (.lst ([.ref t0, .ref t1, .ref t2, .ref t3, .ref t4, .ref t5, .ref t6] ++ [.ref t7])) = H19 at *
    replace el7 : H19 l7 = some (.lst [.ref t0, .ref t1, .ref t2, .ref t3, .ref t4, .ref t5, .ref t6, .ref t7]) := el7
    refine ⟨_, rfl, ⟨_, SqL.of el7⟩, fun D nD => ?_⟩
    refine lc_filt (fun p : Str × Bool => V.str p.1) (walk_list (xs := [.ref t0, .ref t1, .ref t2, .ref t3, .ref t4, .ref t5, .ref t6, .ref t7])) (fun i => ([("NoRest", true), ("NoShape", false), ("NoPlace", false), ("NoRow", false), ("Hidden", false), ("Sherd", true), ("Value", true), ("other", false)] : List (Str × Bool)).getD i ("", false)) (fun p => p.2) nD (by show 8 ≤ sizeLine; decide) (fun H s => s.seq (SqL.of el7)) ?_ ?_
    · intro i x H4 H5 R R' hi s4 y k1 k2
      obtain ⟨rfl, ex⟩ := y
      have hi8 : i < 8 := hi
      obtain rfl | rfl | rfl | rfl | rfl | rfl | rfl | rfl : i = 0 ∨ i = 1 ∨ i = 2 ∨ i = 3 ∨ i = 4 ∨ i = 5 ∨ i = 6 ∨ i = 7 := by omega
      · cases ex
        exact ⟨_, _, rfl, SqT.of (s4 _ _ et0), rfl, _, _, rfl, _, _, rfl, rfl, rfl, _, rfl, _, rfl, _, rfl, k1 _ (Same.refl _) rfl⟩
      · cases ex
        exact ⟨_, _, rfl, SqT.of (s4 _ _ et1), rfl, _, _, rfl, _, _, rfl, rfl, rfl, _, rfl, _, rfl, k2 _ (Same.refl _) rfl⟩
      · cases ex
        exact ⟨_, _, rfl, SqT.of (s4 _ _ et2), rfl, _, _, rfl, _, _, rfl, rfl, rfl, _, rfl, _, rfl, k2 _ (Same.refl _) rfl⟩
      · cases ex
        exact ⟨_, _, rfl, SqT.of (s4 _ _ et3), rfl, _, _, rfl, _, _, rfl, rfl, rfl, _, rfl, _, rfl, k2 _ (Same.refl _) rfl⟩
      · cases ex
        exact ⟨_, _, rfl, SqT.of (s4 _ _ et4), rfl, _, _, rfl, _, _, rfl, rfl, rfl, _, rfl, _, rfl, k2 _ (Same.refl _) rfl⟩
      · cases ex
        exact ⟨_, _, rfl, SqT.of (s4 _ _ et5), rfl, _, _, rfl, _, _, rfl, rfl, rfl, _, rfl, _, rfl, _, rfl, k1 _ (Same.refl _) rfl⟩
      · cases ex
        exact ⟨_, _, rfl, SqT.of (s4 _ _ et6), rfl, _, _, rfl, _, _, rfl, rfl, rfl, _, rfl, _, rfl, _, rfl, k1 _ (Same.refl _) rfl⟩
      · cases ex
        exact ⟨_, _, rfl, SqT.of (s4 _ _ et7), rfl, _, _, rfl, _, _, rfl, rfl, rfl, _, rfl, _, rfl, k2 _ (Same.refl _) rfl⟩
    · intro H4 s4 e4
      exact q D H4 (Same.trans s19 s4) e4
def isInt : V → Bool
  | .int _ => true
  | _ => false
def betw (v : V) (lo hi : Int) : Bool := match v with
  | .int i => decide (lo ≤ i) && decide (i ≤ hi)
  | _ => false
theorem ty_isInt {K : PySem.W.Frag} {H : Hp} {v : V} {n : String} (h : Ty K H v n) : ((n == "int" || (n == "bool" && "int" == "int")) && !(n == "bool" || (n == "bool" && "bool" == "int"))) = isInt v := by
  cases h <;> rfl
def spWhole (K : PySem.W.Frag) : Sp := fun vs H Q _ => ∃ v n, vs = [v] ∧ Ty K H v n ∧ Q (.bl (isInt v)) H
def spBetw (K : PySem.W.Frag) : Sp := fun vs H Q _ => ∃ v n lo hi, vs = [v, .int lo, .int hi] ∧ Ty K H v n ∧ Q (.bl (betw v lo hi)) H
theorem ok_lwhole (T : Txt K mg) (F : At K mg "_law_whole" s__law_whole ["found"]) : Dn P w K mg base CX0 1 "_law_whole" ["found"] (spWhole K) := by
  refine F.ok sc__law_whole (fun vs H Q E h => ?_) (fun f cdv A outer s H vs Q E hr h => ?_)
  · obtain ⟨v, n, rfl, _⟩ := h
    rfl
  · obtain ⟨v, n, rfl, ty, q⟩ := h
    refine ⟨_, (pss_one (ps_ret (pe_and (pe_callB (r := rIsi K) call_isi (by rfl) T.n_isinstance (by decide +kernel) (pa_cons (pv 0) (pa_cons (pe_bltn (v := .ty "int") (u := .type "int") (by rfl) T.n_int (by decide +kernel) (by exact rfl)) pa_nil))) (pe_one (pe_not (pe_callB (r := rIsi K) call_isi (by rfl) T.n_isinstance (by decide +kernel) (pa_cons (pv 0) (pa_cons (pe_bltn (v := .ty "bool") (u := .type "bool") (by rfl) T.n_bool (by decide +kernel) (by exact rfl)) pa_nil)))))))), ?_⟩
    rw [← ty_isInt ty] at q
    refine ⟨_, rfl, _, _, _, _, _, rfl, .ty "int", ty.x, ty.kit "int", ?_⟩
    refine ⟨_, rfl, iteB (fun h => ?_) fun h => ?_⟩
    · rw [h, Bool.true_and] at q
      exact ⟨_, rfl, _, _, _, _, _, rfl, .ty "bool", ty.x, ty.kit "bool", _, rfl, q⟩
    · rw [h, Bool.false_and] at q
      exact q
mutual
/-- lists and tuples of at most a million members -/
def wide : PyData → Bool
  | .list xs | .tuple xs => decide (xs.length ≤ 1000000) && wideAll xs
  | .dict _ => false
  | .none | .bool _ | .int _ | .str _ => true
def wideAll : List PyData → Bool
  | [] => true
  | x :: xs => wide x && wideAll xs
end
theorem wideAll_get : ∀ {ds : List PyData} {i : Nat} {d : PyData}, wideAll ds = true → ds[i]? = some d → wide d = true
  | [], _, _, _, e => by simp at e
  | x :: xs, 0, d, h, e => by
    rw [wideAll, Bool.and_eq_true] at h
    simp at e
    exact e ▸ h.1
  | x :: xs, i + 1, d, h, e => by
    rw [wideAll, Bool.and_eq_true] at h
    exact wideAll_get h.2 (by simpa using e)
theorem wide_ints (xs : List Int) : wideAll (xs.map PyData.int) = true := by
  induction xs with
  | nil => rfl
  | cons x xs ih => rw [List.map_cons, wideAll, ih]; rfl
theorem depth_get : ∀ {ds : List PyData} {i : Nat} {d : PyData}, ds[i]? = some d → PyData.depth d ≤ PyData.depthAll ds
  | [], _, _, e => by simp at e
  | x :: xs, 0, d, e => by
    simp at e
    rw [PyData.depthAll, e]
    exact Nat.le_max_left _ _
  | x :: xs, i + 1, d, e => by
    rw [PyData.depthAll]
    exact Nat.le_trans (depth_get (ds := xs) (i := i) (by simpa using e)) (Nat.le_max_right _ _)
theorem dpAll_len {K : PySem.W.Frag} {H : Hp} : ∀ {xs : List V} {ds : List PyData}, DpAll K H xs ds → xs.length = ds.length
  | [], [], .nil => rfl
  | _ :: _, _ :: _, .cons _ t => by rw [List.length_cons, List.length_cons, dpAll_len t]
theorem dpAll_get {K : PySem.W.Frag} {H : Hp} : ∀ {xs : List V} {ds : List PyData}, DpAll K H xs ds → ∀ {i : Nat} {v : V}, xs[i]? = some v → ∃ d, ds[i]? = some d ∧ Dp K H v d
  | [], [], .nil, i, v, e => by simp at e
  | x :: xs, d :: ds, .cons h t, 0, v, e => by
    simp at e
    exact ⟨d, by simp, e ▸ h⟩
  | x :: xs, d :: ds, .cons h t, i + 1, v, e => by
    obtain ⟨d', e1, e2⟩ := dpAll_get t (i := i) (v := v) (by simpa using e)
    exact ⟨d', by simpa using e1, e2⟩
mutual
theorem dp_same {K : PySem.W.Frag} {H H' : Hp} (s : Same H H') : ∀ {v : V} {d : PyData}, Dp K H v d → Dp K H' v d
  | _, _, .non => .non
  | _, _, .bl b => .bl b
  | _, _, .int i => .int i
  | _, _, .str x => .str x
  | _, _, .lst h a => .lst (s.seq h) (dpAll_same s a)
  | _, _, .tup h a => .tup (Same.sqt s h) (dpAll_same s a)
theorem dpAll_same {K : PySem.W.Frag} {H H' : Hp} (s : Same H H') : ∀ {xs : List V} {ds : List PyData}, DpAll K H xs ds → DpAll K H' xs ds
  | _, _, .nil => .nil
  | _, _, .cons h t => .cons (dp_same s h) (dpAll_same s t)
end
def tyD : PyData → String
  | .none => "NoneType"
  | .bool _ => "bool"
  | .int _ => "int"
  | .str _ => "str"
  | .list _ => "list"
  | .tuple _ => "tuple"
  | .dict _ => "dict"
theorem Dp.ty {K : PySem.W.Frag} {H : Hp} {v : V} {d : PyData} (h : Dp K H v d) : Ty K H v (tyD d) := by
  cases h with
  | non => exact .non
  | bl b => exact .bl b
  | int i => exact .int i
  | str x => exact .str x
  | lst h _ => exact .lst h
  | tup h _ => exact .tup h
theorem kitAnyLT {K : PySem.W.Frag} {n : String} (h : n ∈ ["NoneType", "bool", "int", "str", "list", "tuple", "dict"]) : PySem.W.kitAny K (.type n) [.type "list", .type "tuple"] = some (n == "list" || n == "tuple") := by
  unfold PySem.W.kitAny
  rw [kit_ty (K := K) (kit_names (c := "list") (by decide) h)]
  unfold PySem.W.kitAny
  rw [kit_ty (K := K) (kit_names (c := "tuple") (by decide) h)]
  unfold PySem.W.kitAny
  simp only [List.mem_cons, List.not_mem_nil, or_false] at h
  rcases h with rfl | rfl | rfl | rfl | rfl | rfl | rfl <;> rfl
/-- both are the same data, of depth below k -/
def spSame (K : PySem.W.Frag) : Nat → Sp
  | 0 => fun _ _ _ _ => False
  | k + 1 => fun vs H Q _ => ∃ (x y : V) (d : PyData), vs = [x, y] ∧ Dp K H x d ∧ Dp K H y d ∧ wide d = true ∧ PyData.depth d ≤ k ∧ ∀ H', Same H H' → Q (.bl true) H'
theorem ok_same (T : Txt K mg) (F : At K mg "_law_same" s__law_same ["found", "due"]) : ∀ k, Dn P w K mg base CX0 k "_law_same" ["found", "due"] (spSame K k)
  | 0 => F.none 0
  | k + 1 => by
    have D__law_same := ok_same T F k
    refine F.ok sc__law_same (fun vs H Q E h => ?_) (fun f cdv A outer s H vs Q E hr h => ?_)
    · obtain ⟨x, y, d, rfl, _⟩ := h
      rfl
    · obtain ⟨x, y, d, rfl, hx, hy, hw, hk, q⟩ := h
      refine ⟨_, (pss_cons (ps_if (pt_val (pe_callB (r := rIsiT K) call_isiT (by rfl) T.n_isinstance (by decide +kernel) (pa_cons (pv 1) (pa_cons (pe_tup (pa_cons (pe_bltn (v := .ty "list") (u := .type "list") (by rfl) T.n_list (by decide +kernel) (by exact rfl)) (pa_cons (pe_bltn (v := .ty "tuple") (u := .type "tuple") (by rfl) T.n_tuple (by decide +kernel) (by exact rfl)) pa_nil))) pa_nil)))) (pss_cons (ps_if (PW.pt (pw_or (pt_cmpR op_ne (pe_callB (r := rIsi K) call_isi (by rfl) T.n_isinstance (by decide +kernel) (pa_cons (pv 0) (pa_cons (pe_bltn (v := .ty "list") (u := .type "list") (by rfl) T.n_list (by decide +kernel) (by exact rfl)) pa_nil))) (pe_callB (r := rIsi K) call_isi (by rfl) T.n_isinstance (by decide +kernel) (pa_cons (pv 1) (pa_cons (pe_bltn (v := .ty "list") (u := .type "list") (by rfl) T.n_list (by decide +kernel) (by exact rfl)) pa_nil))) (nomark _)) (pw_or1 (pt_not (pt_val (pe_callB (r := rIsiT K) call_isiT (by rfl) T.n_isinstance (by decide +kernel) (pa_cons (pv 0) (pa_cons (pe_tup (pa_cons (pe_bltn (v := .ty "list") (u := .type "list") (by rfl) T.n_list (by decide +kernel) (by exact rfl)) (pa_cons (pe_bltn (v := .ty "tuple") (u := .type "tuple") (by rfl) T.n_tuple (by decide +kernel) (by exact rfl)) pa_nil))) pa_nil)))))))) (pss_one (ps_ret pe_bl)) pss_nil)
  (pss_one (ps_ret (pe_and (pe_cmpR op_eq (pe_callB (r := rLen K) call_len (by rfl) T.n_len (by decide +kernel) (pa_cons (pv 0) pa_nil)) (pe_callB (r := rLen K) call_len (by rfl) T.n_len (by decide +kernel) (pa_cons (pv 1) pa_nil)) (nomark _)) (pe_one (pe_callB (r := rAll K) (cr_all rfl) (by rfl) T.n_all (by decide +kernel) (pa_cons (pe_lc (own := [("k", 2)]) (g := (gName 2)) (by rfl) sc__law_same.nd (pi_range1 (by rfl) T.n_range (pa_cons (pe_callB (r := rLen K) call_len (by rfl) T.n_len (by decide +kernel) (pa_cons (pv 1) pa_nil)) pa_nil)) (blkOk_by (own := [("k", 2)]) (N := ["found", "due", "k"]) (sc := defScope s__law_same) (by decide +kernel)) (fun _ _ _ _ _ => (pg_name (i := 2) sc__law_same.nd rfl (by first | exact Or.inl rfl | exact Or.inr rfl) (by first | exact Or.inr rfl | exact Or.inl rfl))) (fun _ _ _ _ _ => pts_nil) (fun _ _ _ _ _ => (pe_callD D__law_same (by first | exact hr | exact hr.mono (by decide)) (pa_cons (pe_ix (r := rIx K) ix_seq (pv 0) (pv 2) (fun _ _ => rfl)) (pa_cons (pe_ix (r := rIx K) ix_seq (pv 1) (pv 2) (fun _ _ => rfl)) pa_nil))))) pa_nil))))))) pss_nil)
  (pss_one (ps_ret (pe_and (pe_cmpR op_eq (pv 0) (pv 1) (nomark _)) (pe_one (pe_cmpR op_eq (pe_callB (r := rIsi K) call_isi (by rfl) T.n_isinstance (by decide +kernel) (pa_cons (pv 0) (pa_cons (pe_bltn (v := .ty "bool") (u := .type "bool") (by rfl) T.n_bool (by decide +kernel) (by exact rfl)) pa_nil))) (pe_callB (r := rIsi K) call_isi (by rfl) T.n_isinstance (by decide +kernel) (pa_cons (pv 1) (pa_cons (pe_bltn (v := .ty "bool") (u := .type "bool") (by rfl) T.n_bool (by decide +kernel) (by exact rfl)) pa_nil))) (nomark _))))))), ?_⟩
      have tx := Dp.ty hx
      have ty := Dp.ty hy
      refine ⟨_, rfl, (by show 2 ≤ sizeLine; decide), fun t nt => ?_⟩
      have s1 := Same.new (o := .tup [.ty "list", .ty "tuple"]) nt
      refine ⟨_, _, _, _, _, _, rfl, upd_same, .cons (.ty _) (.cons (.ty _) .nil), (ty.same s1).x, kitAnyLT ty.names, ?_⟩
      have hx1 := dp_same s1 hx
      have hy1 := dp_same s1 hy
      generalize upd H t (.tup [.ty "list", .ty "tuple"]) = H1 at *
      cases d with
      | dict kv => cases hx
      | list ds =>
        have tx1 : Ty K H1 _ _ := Dp.ty hx1
        have ty1 : Ty K H1 _ _ := Dp.ty hy1
        obtain ⟨a, xs, rfl, sa, pa⟩ : ∃ a xs, x = .ref a ∧ SqL K H1 a xs ∧ DpAll K H1 xs ds := by
          cases hx1 with | lst h1 h2 => exact ⟨_, _, rfl, h1, h2⟩
        obtain ⟨b, ys, rfl, sb, pb⟩ : ∃ b ys, y = .ref b ∧ SqL K H1 b ys ∧ DpAll K H1 ys ds := by
          cases hy1 with | lst h1 h2 => exact ⟨_, _, rfl, h1, h2⟩
        have lx := dpAll_len pa
        have ly := dpAll_len pb
        rw [wide, Bool.and_eq_true, decide_eq_true_eq] at hw
        rw [PyData.depth] at hk
        refine ⟨_, rfl, ?_⟩
        refine ⟨_, rfl, _, _, _, _, _, rfl, .ty "list", tx1.x, tx1.kit "list", _, rfl, _, _, _, _, _, rfl, .ty "list", ty1.x, ty1.kit "list", rfl, _, rfl, iteDn (fun z => absurd rfl z) fun _ => ?_⟩
        refine ⟨_, rfl, (by show 2 ≤ sizeLine; decide), fun t2 nt2 => ?_⟩
        have s2 := Same.new (o := .tup [.ty "list", .ty "tuple"]) nt2
        refine ⟨_, _, _, _, _, _, rfl, upd_same, .cons (.ty _) (.cons (.ty _) .nil), (tx1.same s2).x, kitAnyLT tx1.names, _, rfl, ?_⟩
        have s3 := Same.trans s1 s2
        have sa := Same.seq s2 sa
        have sb := Same.seq s2 sb
        have pa := dpAll_same s2 pa
        have pb := dpAll_same s2 pb
        generalize upd H1 t2 (.tup [.ty "list", .ty "tuple"]) = H2 at *
        refine ⟨_, rfl, ?_⟩
        refine ⟨_, _, rfl, .inl ⟨_, sa, rfl⟩, ?_⟩
        refine ⟨_, rfl, _, _, rfl, .inl ⟨_, sb, rfl⟩, rfl, ?_⟩
        rw [lx, ly, decide_eq_true rfl]
        refine ⟨_, rfl, ?_⟩
        refine ⟨_, rfl, _, _, rfl, .inl ⟨_, sb, rfl⟩, ?_⟩
        rw [ly]
        obtain ⟨k, rfl⟩ : ∃ k', k = k' + 1 := ⟨k - 1, by omega⟩
        refine ⟨_, rfl, by omega, by omega, fun D nD => ?_⟩
        rw [Int.toNat_natCast]
        refine lc_bools walk_range (fun _ => true) nD (small1000' hw.1) (fun _ _ => trivial) ?_ ?_
        · intro i x H3 H4 R R' hi s4 y kk
          obtain ⟨rfl, rfl⟩ := y
          have hx' : i < xs.length := by omega
          have hy' : i < ys.length := by omega
          have e1 : xs[i]? = some xs[i] := List.getElem?_eq_getElem hx'
          have e2 : ys[i]? = some ys[i] := List.getElem?_eq_getElem hy'
          obtain ⟨d1, g1, p1⟩ := dpAll_get pa e1
          obtain ⟨d2, g2, p2⟩ := dpAll_get pb e2
          rw [g1] at g2
          cases g2
          have a1 : atI xs (0 + (i : Int)) = some xs[i] := by rw [Int.zero_add]; exact atI_nat e1
          have a2 : atI ys (0 + (i : Int)) = some ys[i] := by rw [Int.zero_add]; exact atI_nat e2
          refine ⟨rfl, _, rfl, _, rfl, .inl ⟨_, _, _, _, rfl, rfl, Same.seq s4 sa, a1, ?_⟩⟩
          refine ⟨_, rfl, _, rfl, .inl ⟨_, _, _, _, rfl, rfl, Same.seq s4 sb, a2, ?_⟩⟩
          exact ⟨_, _, d1, rfl, dp_same s4 p1, dp_same s4 p2, wideAll_get hw.2 g1, Nat.le_trans (depth_get g1) (by omega), kk⟩
        · intro H3 s4 e4
          refine ⟨_, _, rfl, SqL.of e4, ?_⟩
          rw [show ((List.range ds.length).map fun _ => true).all id = true by simp]
          exact q _ (Same.trans s3 s4)
      | tuple ds =>
        have tx1 : Ty K H1 _ _ := Dp.ty hx1
        have ty1 : Ty K H1 _ _ := Dp.ty hy1
        obtain ⟨a, xs, rfl, sa, pa⟩ : ∃ a xs, x = .ref a ∧ SqT K H1 a xs ∧ DpAll K H1 xs ds := by
          cases hx1 with | tup h1 h2 => exact ⟨_, _, rfl, h1, h2⟩
        obtain ⟨b, ys, rfl, sb, pb⟩ : ∃ b ys, y = .ref b ∧ SqT K H1 b ys ∧ DpAll K H1 ys ds := by
          cases hy1 with | tup h1 h2 => exact ⟨_, _, rfl, h1, h2⟩
        have lx := dpAll_len pa
        have ly := dpAll_len pb
        rw [wide, Bool.and_eq_true, decide_eq_true_eq] at hw
        rw [PyData.depth] at hk
        refine ⟨_, rfl, ?_⟩
        refine ⟨_, rfl, _, _, _, _, _, rfl, .ty "list", tx1.x, tx1.kit "list", _, rfl, _, _, _, _, _, rfl, .ty "list", ty1.x, ty1.kit "list", rfl, _, rfl, iteDn (fun z => absurd rfl z) fun _ => ?_⟩
        refine ⟨_, rfl, (by show 2 ≤ sizeLine; decide), fun t2 nt2 => ?_⟩
        have s2 := Same.new (o := .tup [.ty "list", .ty "tuple"]) nt2
        refine ⟨_, _, _, _, _, _, rfl, upd_same, .cons (.ty _) (.cons (.ty _) .nil), (tx1.same s2).x, kitAnyLT tx1.names, _, rfl, ?_⟩
        have s3 := Same.trans s1 s2
        have sa := Same.sqt s2 sa
        have sb := Same.sqt s2 sb
        have pa := dpAll_same s2 pa
        have pb := dpAll_same s2 pb
        generalize upd H1 t2 (.tup [.ty "list", .ty "tuple"]) = H2 at *
        refine ⟨_, rfl, ?_⟩
        refine ⟨_, _, rfl, .inr ⟨_, sa, rfl⟩, ?_⟩
        refine ⟨_, rfl, _, _, rfl, .inr ⟨_, sb, rfl⟩, rfl, ?_⟩
        rw [lx, ly, decide_eq_true rfl]
        refine ⟨_, rfl, ?_⟩
        refine ⟨_, rfl, _, _, rfl, .inr ⟨_, sb, rfl⟩, ?_⟩
        rw [ly]
        obtain ⟨k, rfl⟩ : ∃ k', k = k' + 1 := ⟨k - 1, by omega⟩
        refine ⟨_, rfl, by omega, by omega, fun D nD => ?_⟩
        rw [Int.toNat_natCast]
        refine lc_bools walk_range (fun _ => true) nD (small1000' hw.1) (fun _ _ => trivial) ?_ ?_
        · intro i x H3 H4 R R' hi s4 y kk
          obtain ⟨rfl, rfl⟩ := y
          have hx' : i < xs.length := by omega
          have hy' : i < ys.length := by omega
          have e1 : xs[i]? = some xs[i] := List.getElem?_eq_getElem hx'
          have e2 : ys[i]? = some ys[i] := List.getElem?_eq_getElem hy'
          obtain ⟨d1, g1, p1⟩ := dpAll_get pa e1
          obtain ⟨d2, g2, p2⟩ := dpAll_get pb e2
          rw [g1] at g2
          cases g2
          have a1 : atI xs (0 + (i : Int)) = some xs[i] := by rw [Int.zero_add]; exact atI_nat e1
          have a2 : atI ys (0 + (i : Int)) = some ys[i] := by rw [Int.zero_add]; exact atI_nat e2
          refine ⟨rfl, _, rfl, _, rfl, .inr (.inl ⟨_, _, _, _, rfl, rfl, Same.sqt s4 sa, a1, ?_⟩)⟩
          refine ⟨_, rfl, _, rfl, .inr (.inl ⟨_, _, _, _, rfl, rfl, Same.sqt s4 sb, a2, ?_⟩)⟩
          exact ⟨_, _, d1, rfl, dp_same s4 p1, dp_same s4 p2, wideAll_get hw.2 g1, Nat.le_trans (depth_get g1) (by omega), kk⟩
        · intro H3 s4 e4
          refine ⟨_, _, rfl, SqL.of e4, ?_⟩
          rw [show ((List.range ds.length).map fun _ => true).all id = true by simp]
          exact q _ (Same.trans s3 s4)
      | none =>
        have tx1 : Ty K H1 _ _ := Dp.ty hx1
        have ty1 : Ty K H1 _ _ := Dp.ty hy1
        cases hx1
        cases hy1
        refine ⟨_, rfl, ?_⟩
        refine ⟨_, rfl, _, rfl, rfl, ?_⟩
        rw [decide_eq_true rfl]
        refine ⟨_, rfl, _, rfl, _, _, _, _, _, rfl, .ty "bool", tx1.x, tx1.kit "bool", _, rfl, _, _, _, _, _, rfl, .ty "bool", ty1.x, ty1.kit "bool", rfl, ?_⟩
        rw [decide_eq_true rfl]
        exact q _ s1
      | bool b =>
        have tx1 : Ty K H1 _ _ := Dp.ty hx1
        have ty1 : Ty K H1 _ _ := Dp.ty hy1
        cases hx1
        cases hy1
        refine ⟨_, rfl, ?_⟩
        refine ⟨_, rfl, _, rfl, rfl, ?_⟩
        rw [decide_eq_true rfl]
        refine ⟨_, rfl, _, rfl, _, _, _, _, _, rfl, .ty "bool", tx1.x, tx1.kit "bool", _, rfl, _, _, _, _, _, rfl, .ty "bool", ty1.x, ty1.kit "bool", rfl, ?_⟩
        rw [decide_eq_true rfl]
        exact q _ s1
      | int i =>
        have tx1 : Ty K H1 _ _ := Dp.ty hx1
        have ty1 : Ty K H1 _ _ := Dp.ty hy1
        cases hx1
        cases hy1
        refine ⟨_, rfl, ?_⟩
        refine ⟨_, rfl, _, rfl, rfl, ?_⟩
        rw [decide_eq_true rfl]
        refine ⟨_, rfl, _, rfl, _, _, _, _, _, rfl, .ty "bool", tx1.x, tx1.kit "bool", _, rfl, _, _, _, _, _, rfl, .ty "bool", ty1.x, ty1.kit "bool", rfl, ?_⟩
        rw [decide_eq_true rfl]
        exact q _ s1
      | str u =>
        have tx1 : Ty K H1 _ _ := Dp.ty hx1
        have ty1 : Ty K H1 _ _ := Dp.ty hy1
        cases hx1
        cases hy1
        refine ⟨_, rfl, ?_⟩
        refine ⟨_, rfl, _, rfl, rfl, ?_⟩
        rw [decide_eq_true rfl]
        refine ⟨_, rfl, _, rfl, _, _, _, _, _, rfl, .ty "bool", tx1.x, tx1.kit "bool", _, rfl, _, _, _, _, _, rfl, .ty "bool", ty1.x, ty1.kit "bool", rfl, ?_⟩
        rw [decide_eq_true rfl]
        exact q _ s1
theorem depth_ints : ∀ xs : List Int, PyData.depthAll (xs.map PyData.int) = 0
  | [] => rfl
  | x :: xs => by rw [List.map_cons, PyData.depthAll, depth_ints xs]; rfl
/-- a purse at p, of which at most c turns are taken -/
def Purse (H : Hp) (p : Addr) (c : Int) : Prop := ∃ x y z : Int, H p = some (.lst [.int x, .int y, .int z]) ∧ 0 ≤ x ∧ 0 ≤ y ∧ y < 2 ^ 210 ∧ 0 ≤ z ∧ z ≤ c
theorem Purse.mono {H : Hp} {p : Addr} {c d : Int} (h : Purse H p c) (l : c ≤ d) : Purse H p d := by
  obtain ⟨x, y, z, h1, h2, h3, h4, h5, h6⟩ := h
  exact ⟨x, y, z, h1, h2, h3, h4, h5, by omega⟩
theorem Purse.same {H H' : Hp} {p : Addr} {c : Int} (h : Purse H p c) (s : Same H H') : Purse H' p c := by
  obtain ⟨x, y, z, h1, h2⟩ := h
  exact ⟨x, y, z, s _ _ h1, h2⟩
/-- a draw: any number below many -/
def spDrawn : Sp := fun vs H Q _ => ∃ (p : Addr) (c many : Int), vs = [.ref p, .int many] ∧ Purse H p c ∧ c ≤ 100000 ∧ 0 < many ∧ many < 2 ^ 200 ∧
  ∀ v H', 0 ≤ v → v < many → Purse H' p (c + 1) → Kp p H H' → Q (.int v) H'
theorem ok_drawn (F : At K mg "_law_drawn" s__law_drawn ["purse", "many"]) : Dn P w K mg base CX0 1 "_law_drawn" ["purse", "many"] spDrawn := by
  refine F.ok sc__law_drawn (fun vs H Q E h => ?_) (fun f cdv A outer s H vs Q E hr h => ?_)
  · obtain ⟨p, c, many, rfl, _⟩ := h
    rfl
  · obtain ⟨p, c, many, rfl, ⟨x, y, z, hp, x0, y0, y1, z0, zc⟩, c1, m0, m1, q⟩ := h
    refine ⟨_, (pss_cons (ps_if (pt_cmpR op_gt (pe_ix (r := rIxL K) ix_list (pv 0) pe_int (fun _ _ => rfl)) pe_int (nomark _)) (pss_cons (ps_set (i := 2) sc__law_drawn.nd rfl (by first | exact Or.inl rfl | exact Or.inr rfl) (pe_op op_mod (pe_ix (r := rIxL K) ix_list (pv 0) pe_int (fun _ _ => rfl)) (pv 1)))
  (pss_cons (ps_asg (pe_op op_fdivW (pe_ix (r := rIxL K) ix_list (pv 0) pe_int (fun _ _ => rfl)) (pv 1)) (pg_sub (pv 0) pe_int set_list))
  (pss_one (ps_ret (pv 2))))) pss_nil)
  (pss_cons (ps_set (i := 3) sc__law_drawn.nd rfl (by first | exact Or.inl rfl | exact Or.inr rfl) (pe_op op_add (pe_ix (r := rIxL K) ix_list (pv 0) pe_int (fun _ _ => rfl)) pe_int))
  (pss_cons (ps_asg (pv 3) (pg_sub (pv 0) pe_int set_list))
  (pss_cons (ps_set (i := 4) sc__law_drawn.nd rfl (by first | exact Or.inl rfl | exact Or.inr rfl) (pe_op op_mod (pe_op op_powW (pe_op op_add (pe_op op_add (pe_ix (r := rIxL K) ix_list (pv 0) pe_int (fun _ _ => rfl)) (pe_op op_mul (pe_op op_mul pe_int (pv 3)) (pv 3))) (pe_op op_mul pe_int (pv 3))) pe_int) (pe_op op_add (pe_op op_pow pe_int pe_int) pe_int)))
  (pss_cons (ps_set (i := 4) sc__law_drawn.nd rfl (by first | exact Or.inl rfl | exact Or.inr rfl) (pe_op op_mod (pe_op op_powW (pe_op op_add (pv 4) (pe_op op_mul pe_int (pv 3))) pe_int) (pe_op op_add (pe_op op_pow pe_int pe_int) pe_int)))
  (pss_one (ps_ret (pe_op op_mod (pe_op op_fdiv (pv 4) pe_int) (pv 1))))))))), ?_⟩
    refine ⟨_, rfl, _, _, _, _, rfl, rfl, SqL.of hp, rfl, _, _, rfl, rfl, _, rfl, iteD (fun hx => ?_) fun hx => ?_⟩
    · refine ⟨_, rfl, _, _, _, _, rfl, rfl, SqL.of hp, rfl, _, rfl, _, _, rfl, rfl, m0, ?_⟩
      refine ⟨_, rfl, _, _, _, _, rfl, rfl, SqL.of hp, rfl, _, rfl, _, _, rfl, rfl, wide_div m0 (b := 200) (by omega) (by decide) (by decide), ?_⟩
      refine ⟨_, rfl, _, _, _, 0, rfl, rfl, hp, rfl, _, rfl, ?_⟩
      refine q _ _ (Int.emod_nonneg _ (by omega)) (Int.emod_lt_of_pos _ m0) ⟨_, y, z, upd_same, Int.ediv_nonneg x0 (by omega), y0, y1, z0, by omega⟩ Kp.put
    · have t0 : 0 ≤ z + 1 := by omega
      have t1 : z + 1 ≤ 100001 := by omega
      refine ⟨_, rfl, _, _, _, _, rfl, rfl, SqL.of hp, rfl, _, _, rfl, rfl, _, rfl, _, rfl, _, _, _, 2, rfl, rfl, hp, rfl, ?_⟩
      refine ⟨_, rfl, _, _, _, _, rfl, rfl, SqL.of upd_same, rfl, _, rfl, _, _, rfl, rfl, .inl ⟨by decide, by decide⟩, _, rfl, _, _, rfl, rfl, .inl ⟨by omega, by omega⟩, _, _, rfl, rfl, _, rfl, _, _, rfl, rfl, .inl ⟨by decide, by decide⟩, _, _, rfl, rfl, ?_⟩
      have b1 : (15485863 * (z + 1)) * (z + 1) ≤ 15485863 * 100001 * 100001 := Int.mul_le_mul (by omega) t1 t0 (by omega)
      have b0 : 0 ≤ (15485863 * (z + 1)) * (z + 1) := Int.mul_nonneg (by omega) t0
      refine ⟨_, _, rfl, rfl, CPowW.mk (a := 220) (n := 5) ?_ (by decide) (by decide), _, _, rfl, rfl, ⟨by decide, by decide, by decide⟩, _, _, rfl, rfl, _, _, rfl, rfl, (by show (0 : Int) < _; decide), ?_⟩
      · have e : (2 : Int) ^ 210 + 15485863 * 100001 * 100001 + 32452843 * 100001 < 2 ^ 220 := by decide
        have e2 : ((2 : Nat) ^ 220 : Nat) = (2 ^ 220 : Nat) := rfl
        omega
      generalize hm : ((y + 15485863 * (z + 1) * (z + 1) + 32452843 * (z + 1)) ^ (5 : Int).toNat % (10 ^ (18 : Int).toNat + 9) : Int) = m
      have m2 : 0 ≤ m := by rw [← hm]; exact Int.emod_nonneg _ (by decide)
      have m3 : m < 10 ^ (18 : Int).toNat + 9 := by rw [← hm]; exact Int.emod_lt_of_pos _ (by decide)
      refine ⟨_, rfl, _, rfl, _, _, rfl, rfl, .inl ⟨by decide, by decide⟩, _, _, rfl, rfl, _, _, rfl, rfl, CPowW.mk (a := 220) (n := 5) ?_ (by decide) (by decide), _, _, rfl, rfl, ⟨by decide, by decide, by decide⟩, _, _, rfl, rfl, _, _, rfl, rfl, (by show (0 : Int) < _; decide), ?_⟩
      · have e : (10 : Int) ^ (18 : Int).toNat + 9 + 49979687 * 100001 < 2 ^ 220 := by decide
        omega
      refine ⟨_, rfl, _, _, rfl, rfl, ⟨by decide, by decide⟩, _, rfl, _, _, rfl, rfl, m0, ?_⟩
      refine q _ _ (Int.emod_nonneg _ (by omega)) (Int.emod_lt_of_pos _ m0) ⟨x, y, z + 1, upd_same, x0, y0, y1, by omega, by omega⟩ Kp.put
def spPurse (K : PySem.W.Frag) : Sp := fun vs H Q _ => ∃ (a : Addr) (ns : List Int) (k : Int), vs = [.ref a, .int k] ∧ SqL K H a (ns.map V.int) ∧ ns.length ≤ 1000 ∧ 0 ≤ k ∧ k ≤ 1000 ∧
  ∀ p x y, H p = none → 0 ≤ x → 0 ≤ y → y < 2 ^ 210 → Q (.ref p) (upd H p (.lst [.int x, .int y, .int 0]))
theorem ok_purse (T : Txt K mg) (F : At K mg "_law_purse" s__law_purse ["script", "k"]) : Dn P w K mg base CX0 1 "_law_purse" ["script", "k"] (spPurse K) := by
  refine F.ok sc__law_purse (fun vs H Q E h => ?_) (fun f cdv A outer s H vs Q E hr h => ?_)
  · obtain ⟨a, ns, k, rfl, _⟩ := h
    rfl
  · obtain ⟨a, ns, k, rfl, hS, hl, k0, k1, q⟩ := h
    have fin : ∀ cell : Int, ∀ p, H p = none → Q (.ref p) (upd H p (.lst [.int (if cell - 10 ^ (18 : Int).toNat > 0 then cell - 10 ^ (18 : Int).toNat else 0), .int (cell % (10 ^ (60 : Int).toNat + 7) + 611953 * k), .int 0])) := fun cell p hp => by
      have h1 : 0 ≤ cell % (10 ^ (60 : Int).toNat + 7) := Int.emod_nonneg _ (by decide)
      have h2 : cell % (10 ^ (60 : Int).toNat + 7) < 10 ^ (60 : Int).toNat + 7 := Int.emod_lt_of_pos _ (by decide)
      have h3 : (10 : Int) ^ (60 : Int).toNat + 7 + 611953 * 1000 < 2 ^ 210 := by decide
      refine q p _ _ hp ?_ ?_ ?_
      · split <;> omega
      · omega
      · omega
    refine ⟨_, (pss_cons (ps_set (i := 2) sc__law_purse.nd rfl (by first | exact Or.inl rfl | exact Or.inr rfl) pe_int)
  (pss_cons (ps_if (pt_cmpR op_lt (pv 1) (pe_callB (r := rLen K) call_len (by rfl) T.n_len (by decide +kernel) (pa_cons (pv 0) pa_nil)) (nomark _)) (pss_one (ps_set (i := 2) sc__law_purse.nd rfl (by first | exact Or.inl rfl | exact Or.inr rfl) (pe_ix (r := rIxL K) ix_list (pv 0) (pv 1) (fun _ _ => rfl)))) pss_nil)
  (pss_one (ps_ret (pe_lst (pa_cons (pe_callB (call_max2 rfl) (by rfl) T.n_max (by decide +kernel) (pa_cons pe_int (pa_cons (pe_op op_sub (pv 2) (pe_op op_pow pe_int pe_int)) pa_nil))) (pa_cons (pe_op op_add (pe_op op_mod (pv 2) (pe_op op_add (pe_op op_pow pe_int pe_int) pe_int)) (pe_op op_mul pe_int (pv 1))) (pa_cons pe_int pa_nil)))))))), ?_⟩
    walk_at "rd"
    refine ⟨_, _, rfl, .inl ⟨_, hS, rfl⟩, _, _, rfl, rfl, _, rfl, iteD (fun hk => ?_) fun _ => ?_⟩
    · obtain ⟨z, _, _, hz⟩ := at_ints (ns := ns) (k := k) k0 (by rw [List.length_map] at hk; exact hk)
      walk_at "rd"
      refine ⟨_, _, _, _, rfl, rfl, hS, hz, _, rfl, _, _, rfl, rfl, ⟨by decide, by decide, by decide⟩, _, _, rfl, rfl, _, _, rfl, _, rfl, _, _, rfl, rfl, ⟨by decide, by decide, by decide⟩, _, _, rfl, rfl, _, _, rfl, rfl, (by show (0 : Int) < _; decide), _, rfl, _, _, rfl, rfl, .inl ⟨by decide, by decide⟩, _, _, rfl, rfl, (by show 3 ≤ sizeLine; decide), fun p hp => fin z p hp⟩
    · refine ⟨_, rfl, _, _, rfl, rfl, ⟨by decide, by decide, by decide⟩, _, _, rfl, rfl, _, _, rfl, _, rfl, _, _, rfl, rfl, ⟨by decide, by decide, by decide⟩, _, _, rfl, rfl, _, _, rfl, rfl, (by show (0 : Int) < _; decide), _, rfl, _, _, rfl, rfl, .inl ⟨by decide, by decide⟩, _, _, rfl, rfl, (by show 3 ≤ sizeLine; decide), fun p hp => fin 0 p hp⟩
/-- a number of the law -/
def spNumber : Sp := fun vs H Q _ => ∃ (p : Addr) (c : Int), vs = [.ref p] ∧ Purse H p c ∧ c ≤ 90000 ∧ ∀ v H', Bd v → Purse H' p (c + 10) → Kp p H H' → Q (.int v) H'
theorem Purse.ne {H : Hp} {p l : Addr} {c : Int} (h : Purse H p c) (n : H l = none) : l ≠ p := by
  obtain ⟨x, y, z, h1, _⟩ := h
  exact (ne_of_none h1 n).symm
theorem bd_sign {s v : Int} {b : Int} (hs : s = 1 ∨ s = -1) (h0 : 0 ≤ v) (h1 : v < b) (hb : b ≤ 2 ^ 240) : Bd (s * v) ∧ Bd (s * 97 * v) := by
  have e : (2 : Int) ^ 240 * 97 < 2 ^ 250 := by decide
  have e2 : ((2 ^ 250 : Nat) : Int) = 2 ^ 250 := by decide
  unfold Bd
  rcases hs with rfl | rfl <;> constructor <;> omega
theorem ok_number (T : Txt K mg) (D__law_drawn : Dn P w K mg base CX0 1 "_law_drawn" ["purse", "many"] spDrawn) (F : At K mg "_law_number" s__law_number ["purse"]) : Dn P w K mg base CX0 2 "_law_number" ["purse"] spNumber := by
  refine F.ok sc__law_number (fun vs H Q E h => ?_) (fun f cdv A outer s H vs Q E hr h => ?_)
  · obtain ⟨p, c, rfl, _⟩ := h
    rfl
  · obtain ⟨p, c, rfl, hp, hc, q⟩ := h
    refine ⟨_, (pss_cons (ps_set (i := 1) sc__law_number.nd rfl (by first | exact Or.inl rfl | exact Or.inr rfl) (pe_callD D__law_drawn (by first | exact hr | exact hr.mono (by decide)) (pa_cons (pv 0) (pa_cons pe_int pa_nil))))
  (pss_cons (ps_set (i := 2) sc__law_number.nd rfl (by first | exact Or.inl rfl | exact Or.inr rfl) (pe_ix (r := rIxL K) ix_list (pe_lst (pa_cons pe_int (pa_cons (pe_un un_neg pe_int) pa_nil))) (pe_callD D__law_drawn (by first | exact hr | exact hr.mono (by decide)) (pa_cons (pv 0) (pa_cons pe_int pa_nil))) (fun _ _ => rfl)))
  (pss_cons (ps_if (pt_cmpR op_eq (pv 1) pe_int (nomark _)) (pss_one (ps_ret (pe_op op_mul (pv 2) (pe_callD D__law_drawn (by first | exact hr | exact hr.mono (by decide)) (pa_cons (pv 0) (pa_cons pe_int pa_nil)))))) pss_nil)
  (pss_cons (ps_if (pt_cmpR op_eq (pv 1) pe_int (nomark _)) (pss_one (ps_ret (pe_op op_mul (pe_op op_mul (pv 2) pe_int) (pe_callD D__law_drawn (by first | exact hr | exact hr.mono (by decide)) (pa_cons (pv 0) (pa_cons pe_int pa_nil)))))) pss_nil)
  (pss_cons (ps_set (i := 3) sc__law_number.nd rfl (by first | exact Or.inl rfl | exact Or.inr rfl) pe_int)
  (pss_cons (ps_for PassesOwn.never rfl (pi_range1 (by rfl) T.n_range (pa_cons (pe_ix (r := rIxL K) ix_list (pe_lst (pa_cons pe_int (pa_cons pe_int pa_nil))) (pe_op op_sub (pv 1) pe_int) (fun _ _ => rfl)) pa_nil)) (pg_name (i := 4) sc__law_number.nd rfl (by first | exact Or.inl rfl | exact Or.inr rfl))
  (pss_one (ps_set (i := 3) sc__law_number.nd rfl (by first | exact Or.inl rfl | exact Or.inr rfl) (pe_op op_add (pe_op op_mul (pv 3) (pe_op op_pow pe_int pe_int)) (pe_callD D__law_drawn (by first | exact hr | exact hr.mono (by decide)) (pa_cons (pv 0) (pa_cons (pe_op op_pow pe_int pe_int) pa_nil)))))))
  (pss_one (ps_ret (pe_op op_mul (pv 2) (pv 3)))))))))), ?_⟩
    refine ⟨_, rfl, p, c, 4, rfl, hp, by omega, by decide, by decide, fun v H1 v0 v1 hp1 k1 => ?_⟩
    refine ⟨_, rfl, by show 2 ≤ sizeLine; decide, fun l hl => ?_⟩
    refine ⟨_, rfl, p, c + 1, 2, rfl, hp1.same (Same.new hl), by omega, by decide, by decide, fun g H2 g0 g1 hp2 k2 => ?_⟩
    have hL : H2 l = some (.lst [.int 1, .int (-1)]) := k2 _ _ upd_same (hp1.ne hl)
    have kk : Kp p H H2 := (k1.trans (Kp.new hl)).trans k2
    obtain ⟨sg, hsg, esg⟩ : ∃ sg : Int, atI [V.int 1, V.int (-1)] g = some (.int sg) ∧ (sg = 1 ∨ sg = -1) := by
      rcases (by omega : g = 0 ∨ g = 1) with rfl | rfl
      · exact ⟨1, rfl, .inl rfl⟩
      · exact ⟨-1, rfl, .inr rfl⟩
    have csg : -(2 ^ 64) < sg ∧ sg < 2 ^ 64 := by omega
    refine ⟨_, _, _, _, rfl, rfl, SqL.of hL, hsg, ?_⟩
    refine ⟨_, rfl, rfl, _, rfl, iteI (fun e => ?_) fun ne0 => ?_⟩
    · refine ⟨_, rfl, _, rfl, p, c + 2, 200, rfl, hp2.mono (by omega), by omega, by decide, by decide, fun d H3 d0 d1 hp3 k3 => ?_⟩
      refine ⟨_, _, rfl, rfl, .inl csg, ?_⟩
      exact q _ _ (bd_sign esg d0 d1 (by decide)).1 (hp3.mono (by omega)) (kk.trans k3)
    refine ⟨_, rfl, rfl, _, rfl, iteI (fun e => ?_) fun ne1 => ?_⟩
    · refine ⟨_, rfl, _, _, rfl, rfl, .inl csg, _, rfl, p, c + 2, 1000, rfl, hp2.mono (by omega), by omega, by decide, by decide, fun d H3 d0 d1 hp3 k3 => ?_⟩
      refine ⟨_, _, rfl, rfl, .inl (by omega), ?_⟩
      exact q _ _ (bd_sign esg d0 d1 (by decide)).2 (hp3.mono (by omega)) (kk.trans k3)
    refine ⟨by show 2 ≤ sizeLine; decide, fun m hm => ?_⟩
    obtain ⟨n, hn, en⟩ : ∃ n : Int, atI [V.int 1, V.int 4] (v - 2) = some (.int n) ∧ 0 ≤ n ∧ n ≤ 4 := by
      rcases (by omega : v = 2 ∨ v = 3) with rfl | rfl
      · exact ⟨1, rfl, by omega, by omega⟩
      · exact ⟨4, rfl, by omega, by omega⟩
    refine ⟨_, rfl, _, _, rfl, rfl, _, _, _, _, rfl, rfl, SqL.of upd_same, hn, ?_⟩
    refine ⟨_, rfl, by omega, by omega, for_range (lo := 0) (n := n.toNat) (fun i σ H' => ∃ (fd : Int) (j : Option V), σ = [some (.ref p), some (.int v), some (.int sg), some (.int fd), j] ∧ i ≤ 4 ∧ 0 ≤ fd ∧ fd < 1000000000000000 ^ i ∧ Purse H' p (c + 2 + i) ∧ Kp p H H')
      ⟨0, none, rfl, by decide, by decide, by decide, (hp2.same (Same.new hm)).mono (by omega), kk.trans (Kp.new hm)⟩ ?_ ?_⟩
    · rintro i σ H' hi ⟨fd, j, rfl, i4, f0, f1, hp4, k4⟩
      refine ⟨_, rfl, _, _, rfl, rfl, ⟨by decide, by decide, by decide⟩, _, _, rfl, rfl, .inr ⟨by decide, by decide⟩, _, rfl, _, _, rfl, rfl, ⟨by decide, by decide, by decide⟩, p, c + 2 + i, _, rfl, hp4, by omega, by decide, by decide, fun d H5 d0 d1 hp5 k5 => ?_⟩
      refine ⟨_, _, rfl, rfl, _, _, rfl, by omega, ?_, ?_, hp5.mono (by omega), k4.trans k5⟩
      · have e : (10 : Int) ^ (15 : Int).toNat = 1000000000000000 := by decide
        rw [e]
        omega
      · have e : (10 : Int) ^ (15 : Int).toNat = 1000000000000000 := by decide
        rw [e] at d1 ⊢
        rw [Int.pow_succ]
        omega
    · rintro σ H' ⟨fd, j, rfl, i4, f0, f1, hp4, k4⟩
      refine ⟨_, rfl, _, rfl, _, _, rfl, rfl, .inl csg, ?_⟩
      refine q _ _ (bd_sign esg f0 f1 ?_).1 (hp4.mono (by omega)) k4
      rcases (by omega : n.toNat = 0 ∨ n.toNat = 1 ∨ n.toNat = 2 ∨ n.toNat = 3 ∨ n.toNat = 4) with e | e | e | e | e <;> rw [e] <;> decide
theorem quot_back {a b : Int} (h : b % 97 ≠ 0) : ((a * b ^ 95 % 97) * b - a) % 97 = 0 := by
  have e : a * b ^ 95 % 97 * b % 97 = a % 97 := by
    rw [mod_ml, Int.mul_assoc, ← Int.pow_succ, Int.mul_emod, fermat h, Int.mul_one, Int.emod_emod]
  rw [Int.sub_emod, e, Int.sub_self]
  rfl
def spQuot : Sp := fun vs H Q _ => ∃ a b : Int, vs = [.int a, .int b] ∧ Bd a ∧ Bd b ∧ ∀ H', Same H H' → Q (.bl true) H'
theorem ok_quotient (T : Txt K mg) (R_NoRest : Rd P w K mg base "NoRest" ["number"]) (D_over : Dn P w K mg base (L2.CX P w) 3 "over" ["one", "other"] (spOverX K)) (D__law_classes : Dn P w K mg base CX0 1 "_law_classes" ["caught"] (spClasses K "NoRest")) (D__law_same : Dn P w K mg base CX0 2 "_law_same" ["found", "due"] (spSame K 2))
    (D__law_whole : Dn P w K mg base CX0 1 "_law_whole" ["found"] (spWhole K)) (F : At K mg "_law_quotient" s__law_quotient ["one", "other"]) : Dn P w K mg base CX0 4 "_law_quotient" ["one", "other"] spQuot := by
  refine F.ok sc__law_quotient (fun vs H Q E h => ?_) (fun f cdv A outer s H vs Q E hr h => ?_)
  · obtain ⟨a, b, rfl, _⟩ := h
    rfl
  · obtain ⟨a, b, rfl, ha, hb, q⟩ := h
    refine ⟨_, (pss_cons (ps_set (i := 2) sc__law_quotient.nd rfl (by first | exact Or.inl rfl | exact Or.inr rfl) pe_non)
  (pss_cons (ps_set (i := 3) sc__law_quotient.nd rfl (by first | exact Or.inl rfl | exact Or.inr rfl) pe_non)
  (pss_cons (ps_try_keep (i := 4) (j := 3) rfl rfl rfl sc__law_quotient.nd rfl rfl rfl rfl (by decide) (by decide) ⟨rfl, by decide, Or.inl T.g_SherdError⟩ rfl (fun W pn xe tk _ => (pss_one (ps_set (i := 2) sc__law_quotient.nd rfl (by first | exact Or.inl rfl | exact Or.inr rfl) (pe_callX D_over (by first | exact hr | exact hr.mono (by decide)) tk (pa_cons (pv 0) (pa_cons (pv 1) pa_nil)))))))
  (pss_cons (ps_if (pt_cmpR op_eq (pe_op op_mod (pv 1) pe_int) pe_int (nomark _)) (pss_cons (ps_set (i := 5) sc__law_quotient.nd rfl (by first | exact Or.inl rfl | exact Or.inr rfl) (pe_and (pe_cmpR op_isN (pv 2) pe_non (nomark _)) (pe_one (pe_cmpR (r := rEqD K) (op_eqD hr.units) (pe_callD D__law_classes (by first | exact hr | exact hr.mono (by decide)) (pa_cons (pv 3) pa_nil)) (pe_lst (pa_cons pe_str (pa_cons pe_str (pa_cons pe_str pa_nil)))) (nomark _)))))
  (pss_one (ps_ret (pe_and (pv 5) (pe_one (pe_callD D__law_same (by first | exact hr | exact hr.mono (by decide)) (pa_cons (pe_xfH (pv 3)) (pa_cons (pv 1) pa_nil)))))))) pss_nil)
  (pss_one (ps_ret (pe_and (pe_cmpR op_isN (pv 3) pe_non (nomark _)) (pe_and (pe_callD D__law_whole (by first | exact hr | exact hr.mono (by decide)) (pa_cons (pv 2) pa_nil)) (pe_and (pe_chain op_le op_le pe_int (pv 2) pe_int) (pe_one (pe_cmpR op_eq (pe_op op_mod (pe_op op_sub (pe_op op_mul (pv 2) (pv 1)) (pv 0)) pe_int) pe_int (nomark _)))))))))))), ?_⟩
    refine ⟨_, rfl, _, rfl, a, b, rfl, ha, hb, fun h0 => ?_, fun h0 d nd => ⟨R_NoRest.rf.top, fun e ne => ?_⟩⟩
    · have v0 : 0 ≤ a * b ^ 95 % 97 := Int.emod_nonneg _ (by decide)
      have v1 : a * b ^ 95 % 97 < 97 := Int.emod_lt_of_pos _ (by decide)
      have back := quot_back (a := a) h0
      generalize a * b ^ 95 % 97 = v at *
      refine ⟨_, rfl, _, _, rfl, rfl, (by show (0 : Int) < 97; decide), rfl, _, rfl, iteI (fun z => absurd z h0) fun _ => ?_⟩
      refine ⟨_, rfl, rfl, _, rfl, ?_⟩
      refine ⟨_, rfl, _, _, rfl, .int v, _, rfl, ?_⟩
      refine ⟨_, rfl, _, _, rfl, rfl, _, rfl, ?_⟩
      rw [decide_eq_true v0]
      refine ⟨_, _, rfl, rfl, _, rfl, ?_⟩
      rw [decide_eq_true (show v ≤ 96 by omega)]
      refine ⟨_, rfl, _, rfl, _, _, rfl, rfl, .inl ⟨by omega, by omega⟩, _, rfl, _, _, rfl, rfl, _, _, rfl, rfl, (by show (0 : Int) < 97; decide), rfl, ?_⟩
      show Q (.bl (decide (V.int ((v * b - a) % 97) = V.int 0))) H
      rw [back, decide_eq_true rfl]
      exact q _ (Same.refl _)
    · have s1 : Same H (upd (upd H d (.xd [("number", .int b)])) e (exh e (.ref (He.ga K "NoRest")) (some d))) := Same.trans (Same.new nd) (Same.new ne)
      have ed : upd (upd H d (.xd [("number", .int b)])) e (exh e (.ref (He.ga K "NoRest")) (some d)) d = some (.xd [("number", .int b)]) := old upd_same ne
      have ee : upd (upd H d (.xd [("number", .int b)])) e (exh e (.ref (He.ga K "NoRest")) (some d)) e = some (exh e (.ref (He.ga K "NoRest")) (some d)) := upd_same
      generalize upd (upd H d (.xd [("number", .int b)])) e (exh e (.ref (He.ga K "NoRest")) (some d)) = H1 at *
      refine ⟨_, rfl, _, _, rfl, rfl, (by show (0 : Int) < 97; decide), rfl, _, rfl, iteI (fun _ => ?_) fun z => absurd h0 z⟩
      refine ⟨_, rfl, rfl, _, rfl, ?_⟩
      refine ⟨_, rfl, e, some d, rfl, ee, .inr ⟨d, _, rfl, ed⟩, fun r H2 s2 er => ?_⟩
      refine ⟨(by show 3 ≤ sizeLine; decide), fun l nl => ?_⟩
      refine ⟨.list [.str "NoRest", .str "Sherd", .str "Value"], .list [.str "NoRest", .str "Sherd", .str "Value"], .lst (SqL.of (old er nl)) (.cons (.str _) (.cons (.str _) (.cons (.str _) .nil))), .lst (SqL.of upd_same) (.cons (.str _) (.cons (.str _) (.cons (.str _) .nil))), by decide +kernel, by decide +kernel, ?_⟩
      rw [show PyData.eqv (.list [.str "NoRest", .str "Sherd", .str "Value"]) (.list [.str "NoRest", .str "Sherd", .str "Value"]) = true by decide +kernel]
      refine ⟨_, rfl, _, rfl, ?_⟩
      refine ⟨_, rfl, e, He.ga K "NoRest", d, _, _, rfl, old (s2 _ _ ee) nl, old (s2 _ _ ed) nl, R_NoRest.rf.fld, R_NoRest.rf.no _ (List.mem_singleton.mpr rfl), rfl, ?_⟩
      refine ⟨_, rfl, _, _, .int b, rfl, .int b, .int b, rfl, (by rw [PyData.depth]; decide), fun H3 s3 => ?_⟩
      exact q _ (Same.trans (Same.trans (Same.trans s1 s2) (Same.new nl)) s3)
theorem times_size12 (n : Nat) (h : n ≤ 63) : 0 ≤ (if (if (12 : Int) < (n : Int) then (12 : Int) else (n : Int)) > 1 then (if (12 : Int) < (n : Int) then (12 : Int) else (n : Int)) else 1) ∧ (if (if (12 : Int) < (n : Int) then (12 : Int) else (n : Int)) > 1 then (if (12 : Int) < (n : Int) then (12 : Int) else (n : Int)) else 1) ≤ 12 := by
  split <;> split <;> omega
theorem dInts (xs : List Int) (h : xs.length ≤ 1000000) : wide (.list (xs.map PyData.int)) = true ∧ PyData.depth (.list (xs.map PyData.int)) ≤ 1 := by
  constructor
  · rw [wide, wide_ints, List.length_map, decide_eq_true h]; rfl
  · rw [PyData.depth, depth_ints]
    exact Nat.le_refl _
def spLaw (K : PySem.W.Frag) : Sp := fun vs H Q _ => ∃ (a : Addr) (ns : List Int), vs = [.ref a] ∧ SqL K H a (ns.map V.int) ∧ ns.length ≤ 63 ∧ ∀ H', Q (.bl true) H'
theorem ok_law (T : Txt K mg) (D_plus : Dn P w K mg base CX0 1 "plus" ["one", "other"] spPlus) (D_minus : Dn P w K mg base CX0 1 "minus" ["one", "other"] spMinus) (D_times : Dn P w K mg base CX0 1 "times" ["one", "other"] spTimes) (D_power : Dn P w K mg base CX0 2 "power" ["one", "many"] spPower)
    (D__law_purse : Dn P w K mg base CX0 1 "_law_purse" ["script", "k"] (spPurse K)) (D__law_drawn : Dn P w K mg base CX0 1 "_law_drawn" ["purse", "many"] spDrawn) (D__law_number : Dn P w K mg base CX0 2 "_law_number" ["purse"] spNumber)
    (D__law_same : Dn P w K mg base CX0 2 "_law_same" ["found", "due"] (spSame K 2)) (D__law_whole : Dn P w K mg base CX0 1 "_law_whole" ["found"] (spWhole K)) (D__law_quotient : Dn P w K mg base CX0 4 "_law_quotient" ["one", "other"] spQuot)
    {f : Addr} {fd : FuncData} (F : FunD K "law" "law" (defArgs s_law) (defBody s_law) (defScope s_law) [] [] f fd) : FnOk P w K mg base CX0 5 f fd ["script"] (spLaw K) := by
  refine ok0 F sc_law (fun vs H Q E h => ?_) (fun f cdv A outer s H vs Q E hr h => ?_)
  · obtain ⟨a, ns, rfl, _⟩ := h
    rfl
  · obtain ⟨a, ns, rfl, hS, hl, q⟩ := h
    refine ⟨_, (pss_cons (ps_for PassesOwn.never rfl (pi_range1 (by rfl) T.n_range (pa_cons (pe_callB (call_max2 rfl) (by rfl) T.n_max (by decide +kernel) (pa_cons pe_int (pa_cons (pe_callB (call_min2 rfl) (by rfl) T.n_min (by decide +kernel) (pa_cons pe_int (pa_cons (pe_callB (r := rLen K) call_len (by rfl) T.n_len (by decide +kernel) (pa_cons (pv 0) pa_nil)) pa_nil))) pa_nil))) pa_nil)) (pg_name (i := 1) sc_law.nd rfl (by first | exact Or.inl rfl | exact Or.inr rfl))
  (pss_cons (ps_set (i := 2) sc_law.nd rfl (by first | exact Or.inl rfl | exact Or.inr rfl) (pe_callD D__law_purse (by first | exact hr | exact hr.mono (by decide)) (pa_cons (pv 0) (pa_cons (pv 1) pa_nil))))
  (pss_cons (ps_set (i := 3) sc_law.nd rfl (by first | exact Or.inl rfl | exact Or.inr rfl) (pe_callD D__law_drawn (by first | exact hr | exact hr.mono (by decide)) (pa_cons (pv 2) (pa_cons pe_int pa_nil))))
  (pss_cons (ps_set (i := 4) sc_law.nd rfl (by first | exact Or.inl rfl | exact Or.inr rfl) (pe_callD D__law_drawn (by first | exact hr | exact hr.mono (by decide)) (pa_cons (pv 2) (pa_cons (pe_ix (r := rIxL K) ix_list (pe_lst (pa_cons pe_int (pa_cons pe_int (pa_cons pe_int pa_nil)))) (pv 3) (fun _ _ => rfl)) pa_nil))))
  (pss_cons (ps_set (i := 5) sc_law.nd rfl (by first | exact Or.inl rfl | exact Or.inr rfl) (pe_callD D__law_number (by first | exact hr | exact hr.mono (by decide)) (pa_cons (pv 2) pa_nil)))
  (pss_cons (ps_set (i := 6) sc_law.nd rfl (by first | exact Or.inl rfl | exact Or.inr rfl) (pe_callD D__law_number (by first | exact hr | exact hr.mono (by decide)) (pa_cons (pv 2) pa_nil)))
  (pss_cons (ps_set (i := 7) sc_law.nd rfl (by first | exact Or.inl rfl | exact Or.inr rfl) pe_int)
  (pss_cons (ps_for PassesOwn.never rfl (pi_range1 (by rfl) T.n_range (pa_cons (pv 4) pa_nil)) (pg_name (i := 8) sc_law.nd rfl (by first | exact Or.inl rfl | exact Or.inr rfl))
  (pss_one (ps_set (i := 7) sc_law.nd rfl (by first | exact Or.inl rfl | exact Or.inr rfl) (pe_op op_mod (pe_op op_mulW (pv 7) (pv 5)) pe_int))))
  (pss_cons (ps_set (i := 9) sc_law.nd rfl (by first | exact Or.inl rfl | exact Or.inr rfl) (pe_lst (pa_cons (pe_callD D_plus (by first | exact hr | exact hr.mono (by decide)) (pa_cons (pv 5) (pa_cons (pv 6) pa_nil))) (pa_cons (pe_callD D_minus (by first | exact hr | exact hr.mono (by decide)) (pa_cons (pv 5) (pa_cons (pv 6) pa_nil))) (pa_cons (pe_callD D_times (by first | exact hr | exact hr.mono (by decide)) (pa_cons (pv 5) (pa_cons (pv 6) pa_nil))) (pa_cons (pe_callD D_power (by first | exact hr | exact hr.mono (by decide)) (pa_cons (pv 5) (pa_cons (pv 4) pa_nil))) pa_nil))))))
  (pss_cons (ps_if (pt_not (pt_val (pe_callD D__law_same (by first | exact hr | exact hr.mono (by decide)) (pa_cons (pv 9) (pa_cons (pe_lst (pa_cons (pe_op op_mod (pe_op op_add (pv 5) (pv 6)) pe_int) (pa_cons (pe_op op_mod (pe_op op_sub (pv 5) (pv 6)) pe_int) (pa_cons (pe_op op_mod (pe_op op_mulW (pv 5) (pv 6)) pe_int) (pa_cons (pe_op op_mod (pv 7) pe_int) pa_nil))))) pa_nil))))) (pss_one (ps_ret pe_bl)) pss_nil)
  (pss_cons (ps_if (PW.pt (pw_or (pt_not (pt_val (pe_callB (r := rAll K) (cr_all rfl) (by rfl) T.n_all (by decide +kernel) (pa_cons (pe_lc (own := [("number", 10)]) (g := (gName 10)) (by rfl) sc_law.nd (pi_list (pv 9)) (blkOk_by (own := [("number", 10)]) (N := ["script", "k", "purse", "pick", "many", "one", "other", "product", "turn", "came", "number"]) (sc := defScope s_law) (by decide +kernel)) (fun _ _ _ _ _ => (pg_name (i := 10) sc_law.nd rfl (by first | exact Or.inl rfl | exact Or.inr rfl) (by first | exact Or.inr rfl | exact Or.inl rfl))) (fun _ _ _ _ _ => pts_nil) (fun _ _ _ _ _ => (pe_callD D__law_whole (by first | exact hr | exact hr.mono (by decide)) (pa_cons (pv 10) pa_nil)))) pa_nil)))) (pw_or1 (pt_not (pt_val (pe_callD D__law_quotient (by first | exact hr | exact hr.mono (by decide)) (pa_cons (pv 5) (pa_cons (pv 6) pa_nil)))))))) (pss_one (ps_ret pe_bl)) pss_nil)
  (pss_one (ps_if (pt_not (pt_val (pe_callD D__law_quotient (by first | exact hr | exact hr.mono (by decide)) (pa_cons (pv 6) (pa_cons (pv 5) pa_nil))))) (pss_one (ps_ret pe_bl)) pss_nil)))))))))))))
  (pss_one (ps_ret (pe_callD D__law_same (by first | exact hr | exact hr.mono (by decide)) (pa_cons (pe_glob rfl T.g_PRIME (by exact T.v_PRIME)) (pa_cons pe_int pa_nil)))))), ?_⟩
    obtain ⟨z0, z1⟩ := times_size12 (ns.map V.int).length (by rw [List.length_map]; exact hl)
    refine ⟨_, rfl, _, _, rfl, .inl ⟨_, hS, rfl⟩, _, _, rfl, _, _, rfl, _, rfl, by omega, by omega, ?_⟩
    refine for_range (lo := 0) (fun i σ H' => ∃ v1 v2 v3 v4 v5 v6 v7 v8 v9 v10, σ = [some (.ref a), v1, v2, v3, v4, v5, v6, v7, v8, v9, v10] ∧ SqL K H' a (ns.map V.int)) ⟨none, none, none, none, none, none, none, none, none, none, rfl, hS⟩ ?_ ?_
    · rintro i_ σ H0 hi ⟨v1, v2, v3, v4, v5, v6, v7, v8, v9, v10, rfl, hS0⟩
      refine ⟨_, rfl, _, rfl, a, ns, _, rfl, hS0, by omega, by omega, by omega, fun p x y np x0 y0 y1 => ?_⟩
      have hp0 : Purse (upd H0 p (.lst [.int x, .int y, .int 0])) p 0 := ⟨x, y, 0, upd_same, x0, y0, y1, by omega, by omega⟩
      refine ⟨_, rfl, p, 0, 3, rfl, hp0, by omega, by decide, by decide, fun pick H1 p0 p1 hp1 k1 => ?_⟩
      refine ⟨_, rfl, (by show 3 ≤ sizeLine; decide), fun l nl => ?_⟩
      obtain ⟨lim, hlim, li0, li1⟩ : ∃ lim : Int, atI ([.int 8, .int 100, .int 1001] : List V) pick = some (.int lim) ∧ 0 < lim ∧ lim ≤ 1001 := by
        obtain rfl | rfl | rfl : pick = 0 ∨ pick = 1 ∨ pick = 2 := by omega
        · exact ⟨8, rfl, by decide, by decide⟩
        · exact ⟨100, rfl, by decide, by decide⟩
        · exact ⟨1001, rfl, by decide, by decide⟩
      refine ⟨_, rfl, _, _, _, _, rfl, rfl, SqL.of upd_same, hlim, ?_⟩
      have b200 : (1001 : Int) < 2 ^ 200 := by decide
      refine ⟨p, _, lim, rfl, hp1.same (Same.new nl), by omega, li0, by omega, fun many H2 m0 m1 hp2 k2 => ?_⟩
      refine ⟨_, rfl, p, _, rfl, hp2, by omega, fun one H3 d1 hp3 k3 => ?_⟩
      refine ⟨_, rfl, p, _, rfl, hp3, by omega, fun other H4 d2 hp4 k4 => ?_⟩
      have kk : Same H0 H4 := Kp.same (Same.refl _) np ((((Kp.new np).trans k1).trans (Kp.new nl)).trans (k2.trans (k3.trans k4)))
      have hS4 := kk.seq hS0
      refine ⟨_, rfl, _, rfl, by omega, by omega, ?_⟩
      refine for_range (lo := 0) (fun n σ H' => ∃ pr v8 v9 v10, σ = [some (.ref a), some (.int (0 + (i_ : Int))), some (.ref p), some (.int pick), some (.int many), some (.int one), some (.int other), some (.int pr), v8, v9, v10] ∧ H' = H4 ∧ 0 ≤ pr ∧ pr < 97 ∧ pr % 97 = one ^ n % 97) ⟨1, _, _, _, rfl, rfl, by decide, by decide, by rw [Int.pow_zero]⟩ ?_ ?_
      · rintro n σ H' hn ⟨pr, v8, v9, v10, rfl, rfl, q0, q1, qe⟩
        have bq : Bd pr := by
          have h2 : 97 < 2 ^ 250 := by decide
          unfold Bd
          omega
        refine ⟨_, rfl, _, rfl, _, _, rfl, rfl, wide_mul (a := 250) (b := 250) bq d1 (by decide) (by decide) (by decide), _, _, rfl, rfl, (by show (0 : Int) < 97; decide), _, _, _, _, rfl, rfl, Int.emod_nonneg _ (by decide), Int.emod_lt_of_pos _ (by decide), ?_⟩
        rw [Int.emod_emod, Int.pow_succ, Int.mul_emod, qe, ← Int.mul_emod]
      · rintro σ H' ⟨pr, v8, v9, v10, rfl, rfl, q0, q1, qe⟩
        have pos : (0 : Int) < 97 := by decide
        refine ⟨_, rfl, _, rfl, _, _, rfl, _, rfl, _, rfl, _, _, rfl, _, rfl, _, rfl, _, _, rfl, d1, d2, _, rfl, _, rfl, _, _, rfl, d1, m0, (by show 4 ≤ sizeLine; decide), fun c nc => ?_⟩
        have s5 := Same.new (o := .lst [.int ((one + other) % 97), .int ((one - other) % 97), .int ((one * other) % 97), .int (one ^ many.toNat % 97)]) nc
        have ec : upd H' c (.lst [.int ((one + other) % 97), .int ((one - other) % 97), .int ((one * other) % 97), .int (one ^ many.toNat % 97)]) c = some (.lst ([(one + other) % 97, (one - other) % 97, (one * other) % 97, one ^ many.toNat % 97].map V.int)) := upd_same
        generalize upd H' c (.lst [.int ((one + other) % 97), .int ((one - other) % 97), .int ((one * other) % 97), .int (one ^ many.toNat % 97)]) = H5 at *
        refine ⟨_, rfl, _, rfl, _, rfl, _, _, rfl, rfl, _, _, rfl, rfl, pos, _, rfl, _, rfl, _, _, rfl, rfl, _, _, rfl, rfl, pos, _, rfl, _, rfl, _, _, rfl, rfl, wide_mul (a := 250) (b := 250) d1 d2 (by decide) (by decide) (by decide), _, _, rfl, rfl, pos, _, rfl, _, _, rfl, rfl, pos, (by show 4 ≤ sizeLine; decide), fun e ne => ?_⟩
        have s6 := Same.new (o := .lst [.int ((one + other) % 97), .int ((one - other) % 97), .int ((one * other) % 97), .int (pr % 97)]) ne
        have ee : upd H5 e (.lst [.int ((one + other) % 97), .int ((one - other) % 97), .int ((one * other) % 97), .int (pr % 97)]) e = some (.lst ([(one + other) % 97, (one - other) % 97, (one * other) % 97, one ^ many.toNat % 97].map V.int)) := by
          rw [← qe]
          exact upd_same
        replace ec := old (p := e) (o := .lst [.int ((one + other) % 97), .int ((one - other) % 97), .int ((one * other) % 97), .int (pr % 97)]) ec ne
        generalize upd H5 e (.lst [.int ((one + other) % 97), .int ((one - other) % 97), .int ((one * other) % 97), .int (pr % 97)]) = H6 at *
        obtain ⟨w1, w2⟩ := dInts [(one + other) % 97, (one - other) % 97, (one * other) % 97, one ^ many.toNat % 97] (by show 4 ≤ 1000000; decide)
        refine ⟨_, _, _, rfl, dpL (SqL.of ec), dpL (SqL.of ee), w1, w2, fun H7 s7 => ?_⟩
        refine ⟨_, rfl, ?_⟩
        have ec7 := s7 _ _ ec
        refine ⟨_, rfl, _, rfl, ⟨_, SqL.of ec7⟩, fun D nD => ?_⟩
        refine lc_bools walk_list (fun _ => true) nD (by show 4 ≤ sizeLine; decide) (fun H s => s.seq (SqL.of ec7)) ?_ ?_
        · intro i x H8 H9 R R' hi8 s8 y k
          obtain ⟨rfl, ex⟩ := y
          rw [List.getElem?_map] at ex
          obtain ⟨z, _, rfl⟩ := Option.map_eq_some_iff.mp ex
          exact ⟨rfl, _, rfl, _, _, rfl, .int z, k _ (Same.refl _)⟩
        · intro H8 s8 e8
          refine ⟨_, _, rfl, SqL.of e8, ?_⟩
          refine ⟨_, rfl, ?_⟩
          refine ⟨_, rfl, _, rfl, one, other, rfl, d1, d2, fun H9 s9 => ?_⟩
          refine ⟨_, rfl, ?_⟩
          refine ⟨_, rfl, _, rfl, other, one, rfl, d2, d1, fun H10 s10 => ?_⟩
          refine ⟨_, rfl, ?_⟩
          exact ⟨_, _, _, _, _, _, _, _, _, _, rfl, s10.seq (s9.seq (s8.seq (s7.seq (s6.seq (s5.seq hS4)))))⟩
    · rintro σ H' ⟨v1, v2, v3, v4, v5, v6, v7, v8, v9, v10, rfl, hS0⟩
      exact ⟨_, _, .int 97, rfl, .int 97, .int 97, rfl, by decide, fun H' _ => q H'⟩
end
def d_plus : He.DefD := ⟨("plus", none), "plus", "plus", defArgs s_plus, defBody s_plus, defScope s_plus, [], []⟩
def d_minus : He.DefD := ⟨("minus", none), "minus", "minus", defArgs s_minus, defBody s_minus, defScope s_minus, [], []⟩
def d_times : He.DefD := ⟨("times", none), "times", "times", defArgs s_times, defBody s_times, defScope s_times, [], []⟩
def d_power : He.DefD := ⟨("power", none), "power", "power", defArgs s_power, defBody s_power, defScope s_power, [], []⟩
def d_over : He.DefD := ⟨("over", none), "over", "over", defArgs s_over, defBody s_over, defScope s_over, [], []⟩
def d__law_purse : He.DefD := ⟨("_law_purse", none), "_law_purse", "_law_purse", defArgs s__law_purse, defBody s__law_purse, defScope s__law_purse, [], []⟩
def d__law_drawn : He.DefD := ⟨("_law_drawn", none), "_law_drawn", "_law_drawn", defArgs s__law_drawn, defBody s__law_drawn, defScope s__law_drawn, [], []⟩
def d__law_number : He.DefD := ⟨("_law_number", none), "_law_number", "_law_number", defArgs s__law_number, defBody s__law_number, defScope s__law_number, [], []⟩
def d__law_whole : He.DefD := ⟨("_law_whole", none), "_law_whole", "_law_whole", defArgs s__law_whole, defBody s__law_whole, defScope s__law_whole, [], []⟩
def d__law_same : He.DefD := ⟨("_law_same", none), "_law_same", "_law_same", defArgs s__law_same, defBody s__law_same, defScope s__law_same, [], []⟩
def d__law_classes : He.DefD := ⟨("_law_classes", none), "_law_classes", "_law_classes", defArgs s__law_classes, defBody s__law_classes, defScope s__law_classes, [], []⟩
def d__law_quotient : He.DefD := ⟨("_law_quotient", none), "_law_quotient", "_law_quotient", defArgs s__law_quotient, defBody s__law_quotient, defScope s__law_quotient, [], []⟩
def d_law : He.DefD := ⟨("law", none), "law", "law", defArgs s_law, defBody s_law, defScope s_law, [], []⟩
def di_NoRest : He.DefD := ⟨("NoRest", some "__init__"), "__init__", "NoRest.__init__", defArgs si_NoRest, defBody si_NoRest, defScope si_NoRest, [], []⟩
def fn : List He.DefD := [d_plus, d_minus, d_times, d_power, d_over, d__law_purse, d__law_drawn, d__law_number, d__law_whole, d__law_same, d__law_classes, d__law_quotient, d_law, di_NoRest]
def fa : List He.Fa := [.glo "plus", .glo "minus", .glo "times", .glo "power", .glo "over", .glo "_law_purse", .glo "_law_drawn", .glo "_law_number", .glo "_law_whole", .glo "_law_same", .glo "_law_classes", .glo "_law_quotient", .glo "law", .free "len", .free "max", .free "min", .free "range", .free "isinstance", .free "int", .free "bool", .free "tuple", .free "list", .free "all", .free "ValueError", .int "PRIME" 97, .glo "SherdError", .glo "NoRest", .glo "NoShape", .glo "NoPlace", .glo "NoRow", .glo "Hidden", .glo "NoName", .glo "Taken", .glo "NoHouse", .glo "Down", .glo "NoCard", .glo "Dark", .glo "NoBook", .glo "Stale", .glo "NoObject", .glo "NoHour", .glo "NoTicket", .glo "NoHomes", .glo "NotAll", .glo "Lost", .glo "NoWeight", .glo "NoRoom", .glo "NoLevel", .glo "NoMoves", .glo "NoText", .glo "NoOrder", .glo "NotEmpty", .glo "Stopped"]
abbrev R : PySem.W.OpenRow := PySem.W.OpenLaw.row PySem.Challenge.rw_sherdhall_k01_numbers_by_97
def ex (K : PySem.W.Frag) : Bool := rfB K "NoRest" ["number"] && (isAll K "NoRest" [("NoRest", true), ("NoShape", false), ("NoPlace", false), ("NoRow", false), ("Hidden", false), ("NoName", false), ("Taken", false), ("NoHouse", false), ("Down", false), ("NoCard", false), ("Dark", false), ("NoBook", false), ("Stale", false), ("NoObject", false), ("NoHour", false), ("NoTicket", false), ("NoHomes", false), ("NotAll", false), ("Lost", false), ("NoWeight", false), ("NoRoom", false), ("NoLevel", false), ("NoMoves", false), ("NoText", false), ("NoOrder", false), ("NotEmpty", false), ("Stopped", false), ("SherdError", true)])
abbrev hk : PySem.W.Hook := hookB 4 fa fn ex
def ob (s : PySem.W.SharedT) : AlB := obsB 4 fa fn ex (HandSHeadRun.getT s)
theorem ob_eq (s : PySem.W.SharedT) : ob s = hk.obs s.abs := obsB_eq (HandSHeadRun.getT_eq s)
def loose0 : List Str := ["__name__", "SherdError", "NoRest", "NoShape", "NoPlace", "NoRow", "Hidden", "NoName", "Taken", "NoHouse", "Down", "NoCard", "Dark", "NoBook", "Stale", "NoObject", "NoHour", "NoTicket", "NoHomes", "NotAll", "Lost", "NoWeight", "NoRoom", "NoLevel", "NoMoves", "NoText", "NoOrder", "NotEmpty", "Stopped", "plus"]
def loose1 : List Str := ["minus", "times", "power", "over", "_law_purse", "_law_drawn", "_law_number", "_law_whole", "_law_same", "_law_classes", "_law_quotient", "PRIME"]
def loose : List Str := loose0 ++ loose1
theorem run (w : World) : HandSHeadRun.RunEq R (PySem.W.view R.prog [44]) hk ob 15000 loose w := by
  intro os
  kernel_rfl
theorem facts {P : Program} {w : World} {K : PySem.W.Frag} {h : Heap} {mg : Str → Option Value} {f : Addr} (X : K.In h) (G : h.Ns mainGlobals mg) (hfa : mg ("law" : Str) = some (.ref f)) (c : He.SaysD fa fn K) (cx : ex K = true) :
    ∃ fd : FuncData, (∀ (s : Shared) (v : Value), BindsTo s fd ⟨[v], []⟩ [("script", v)]) ∧ ∀ base : Heap, K.In base → base.Ns mainGlobals mg → FnOk P w K mg base CX0 5 f fd ["script"] (spLaw K) := by
  obtain ⟨fd_plus, F_plus⟩ := c.def_ 0 (d := d_plus) rfl
  have A_plus : At K mg "plus" s_plus ["one", "other"] := ⟨_, _, F_plus, He.glo_ok X G (c.fact 0 (f := .glo "plus") rfl), F_plus.bindsN fun _ _ _ _ _ _ us hl => match us, hl with | [_, _], _ => rfl⟩
  obtain ⟨fd_minus, F_minus⟩ := c.def_ 1 (d := d_minus) rfl
  have A_minus : At K mg "minus" s_minus ["one", "other"] := ⟨_, _, F_minus, He.glo_ok X G (c.fact 1 (f := .glo "minus") rfl), F_minus.bindsN fun _ _ _ _ _ _ us hl => match us, hl with | [_, _], _ => rfl⟩
  obtain ⟨fd_times, F_times⟩ := c.def_ 2 (d := d_times) rfl
  have A_times : At K mg "times" s_times ["one", "other"] := ⟨_, _, F_times, He.glo_ok X G (c.fact 2 (f := .glo "times") rfl), F_times.bindsN fun _ _ _ _ _ _ us hl => match us, hl with | [_, _], _ => rfl⟩
  obtain ⟨fd_power, F_power⟩ := c.def_ 3 (d := d_power) rfl
  have A_power : At K mg "power" s_power ["one", "many"] := ⟨_, _, F_power, He.glo_ok X G (c.fact 3 (f := .glo "power") rfl), F_power.bindsN fun _ _ _ _ _ _ us hl => match us, hl with | [_, _], _ => rfl⟩
  obtain ⟨fd_over, F_over⟩ := c.def_ 4 (d := d_over) rfl
  have A_over : At K mg "over" s_over ["one", "other"] := ⟨_, _, F_over, He.glo_ok X G (c.fact 4 (f := .glo "over") rfl), F_over.bindsN fun _ _ _ _ _ _ us hl => match us, hl with | [_, _], _ => rfl⟩
  obtain ⟨fd__law_purse, F__law_purse⟩ := c.def_ 5 (d := d__law_purse) rfl
  have A__law_purse : At K mg "_law_purse" s__law_purse ["script", "k"] := ⟨_, _, F__law_purse, He.glo_ok X G (c.fact 5 (f := .glo "_law_purse") rfl), F__law_purse.bindsN fun _ _ _ _ _ _ us hl => match us, hl with | [_, _], _ => rfl⟩
  obtain ⟨fd__law_drawn, F__law_drawn⟩ := c.def_ 6 (d := d__law_drawn) rfl
  have A__law_drawn : At K mg "_law_drawn" s__law_drawn ["purse", "many"] := ⟨_, _, F__law_drawn, He.glo_ok X G (c.fact 6 (f := .glo "_law_drawn") rfl), F__law_drawn.bindsN fun _ _ _ _ _ _ us hl => match us, hl with | [_, _], _ => rfl⟩
  obtain ⟨fd__law_number, F__law_number⟩ := c.def_ 7 (d := d__law_number) rfl
  have A__law_number : At K mg "_law_number" s__law_number ["purse"] := ⟨_, _, F__law_number, He.glo_ok X G (c.fact 7 (f := .glo "_law_number") rfl), F__law_number.bindsN fun _ _ _ _ _ _ us hl => match us, hl with | [_], _ => rfl⟩
  obtain ⟨fd__law_whole, F__law_whole⟩ := c.def_ 8 (d := d__law_whole) rfl
  have A__law_whole : At K mg "_law_whole" s__law_whole ["found"] := ⟨_, _, F__law_whole, He.glo_ok X G (c.fact 8 (f := .glo "_law_whole") rfl), F__law_whole.bindsN fun _ _ _ _ _ _ us hl => match us, hl with | [_], _ => rfl⟩
  obtain ⟨fd__law_same, F__law_same⟩ := c.def_ 9 (d := d__law_same) rfl
  have A__law_same : At K mg "_law_same" s__law_same ["found", "due"] := ⟨_, _, F__law_same, He.glo_ok X G (c.fact 9 (f := .glo "_law_same") rfl), F__law_same.bindsN fun _ _ _ _ _ _ us hl => match us, hl with | [_, _], _ => rfl⟩
  obtain ⟨fd__law_classes, F__law_classes⟩ := c.def_ 10 (d := d__law_classes) rfl
  have A__law_classes : At K mg "_law_classes" s__law_classes ["caught"] := ⟨_, _, F__law_classes, He.glo_ok X G (c.fact 10 (f := .glo "_law_classes") rfl), F__law_classes.bindsN fun _ _ _ _ _ _ us hl => match us, hl with | [_], _ => rfl⟩
  obtain ⟨fd__law_quotient, F__law_quotient⟩ := c.def_ 11 (d := d__law_quotient) rfl
  have A__law_quotient : At K mg "_law_quotient" s__law_quotient ["one", "other"] := ⟨_, _, F__law_quotient, He.glo_ok X G (c.fact 11 (f := .glo "_law_quotient") rfl), F__law_quotient.bindsN fun _ _ _ _ _ _ us hl => match us, hl with | [_, _], _ => rfl⟩
  obtain ⟨fd_law, F_law⟩ := c.def_ 12 (d := d_law) rfl
  obtain ⟨t_PRIME, g_PRIME⟩ := He.int_ok X G (c.fact 24 (f := .int "PRIME" 97) rfl)
  have T : Txt K mg := ⟨He.free_ok X G (c.fact 13 (f := .free "len") rfl), He.free_ok X G (c.fact 14 (f := .free "max") rfl), He.free_ok X G (c.fact 15 (f := .free "min") rfl), He.free_ok X G (c.fact 16 (f := .free "range") rfl), He.free_ok X G (c.fact 17 (f := .free "isinstance") rfl), He.free_ok X G (c.fact 18 (f := .free "int") rfl), He.free_ok X G (c.fact 19 (f := .free "bool") rfl), He.free_ok X G (c.fact 20 (f := .free "tuple") rfl), He.free_ok X G (c.fact 21 (f := .free "list") rfl), He.free_ok X G (c.fact 22 (f := .free "all") rfl), He.free_ok X G (c.fact 23 (f := .free "ValueError") rfl), _, g_PRIME, ⟨_, rfl⟩, He.glo_ok X G (c.fact 25 (f := .glo "SherdError") rfl), He.glo_ok X G (c.fact 26 (f := .glo "NoRest") rfl), He.glo_ok X G (c.fact 27 (f := .glo "NoShape") rfl), He.glo_ok X G (c.fact 28 (f := .glo "NoPlace") rfl), He.glo_ok X G (c.fact 29 (f := .glo "NoRow") rfl), He.glo_ok X G (c.fact 30 (f := .glo "Hidden") rfl), He.glo_ok X G (c.fact 31 (f := .glo "NoName") rfl), He.glo_ok X G (c.fact 32 (f := .glo "Taken") rfl), He.glo_ok X G (c.fact 33 (f := .glo "NoHouse") rfl), He.glo_ok X G (c.fact 34 (f := .glo "Down") rfl), He.glo_ok X G (c.fact 35 (f := .glo "NoCard") rfl), He.glo_ok X G (c.fact 36 (f := .glo "Dark") rfl), He.glo_ok X G (c.fact 37 (f := .glo "NoBook") rfl), He.glo_ok X G (c.fact 38 (f := .glo "Stale") rfl), He.glo_ok X G (c.fact 39 (f := .glo "NoObject") rfl), He.glo_ok X G (c.fact 40 (f := .glo "NoHour") rfl), He.glo_ok X G (c.fact 41 (f := .glo "NoTicket") rfl), He.glo_ok X G (c.fact 42 (f := .glo "NoHomes") rfl), He.glo_ok X G (c.fact 43 (f := .glo "NotAll") rfl), He.glo_ok X G (c.fact 44 (f := .glo "Lost") rfl), He.glo_ok X G (c.fact 45 (f := .glo "NoWeight") rfl), He.glo_ok X G (c.fact 46 (f := .glo "NoRoom") rfl), He.glo_ok X G (c.fact 47 (f := .glo "NoLevel") rfl), He.glo_ok X G (c.fact 48 (f := .glo "NoMoves") rfl), He.glo_ok X G (c.fact 49 (f := .glo "NoText") rfl), He.glo_ok X G (c.fact 50 (f := .glo "NoOrder") rfl), He.glo_ok X G (c.fact 51 (f := .glo "NotEmpty") rfl), He.glo_ok X G (c.fact 52 (f := .glo "Stopped") rfl), (He.ba cx).2⟩
  have e := hfa.symm.trans (He.glo_ok X G (c.fact 12 (f := .glo "law") rfl))
  cases e
  have b := FunD.bindsA (ps := ["script"]) F_law fun _ _ _ _ _ _ us hl => match us, hl with | [_], _ => rfl
  refine ⟨fd_law, fun s v => b s [v] rfl, fun base _ _ => ?_⟩
  obtain ⟨fi_NoRest, FI_NoRest⟩ := c.def_ 13 (d := di_NoRest) rfl
  have R_NoRest : Rd P w K mg base "NoRest" ["number"] := ini1 (st := si_NoRest) (q := "NoRest.__init__") (rfB_ok (He.ba cx).1 T.g_NoRest) FI_NoRest sci_NoRest (FI_NoRest.bindsN fun _ _ _ _ _ _ us hl => match us, hl with | [_, _], _ => rfl) fun X h1 h2 => (pss_one (ps_ost (pe_var (i := 0) (by rw [h1]; rfl) (.inl (by rw [h2]; rfl))) (pe_var (i := 1) (by rw [h1]; rfl) (.inl (by rw [h2]; rfl)))))
  have D_plus := ok_plus (P := P) (w := w) (base := base) T A_plus
  have D_minus := ok_minus (P := P) (w := w) (base := base) T A_minus
  have D_times := ok_times (P := P) (w := w) (base := base) T A_times
  have D_power := ok_power D_times A_power
  have D_over := ok_overX T R_NoRest D_times D_power A_over
  have D_classes := ok_classes_NoRest (P := P) (w := w) (base := base) T R_NoRest.rf.isx A__law_classes
  have D_whole := ok_lwhole (P := P) (w := w) (base := base) T A__law_whole
  have D_same := ok_same (P := P) (w := w) (base := base) T A__law_same 2
  have D_purse := ok_purse (P := P) (w := w) (base := base) T A__law_purse
  have D_drawn := ok_drawn (P := P) (w := w) (base := base) A__law_drawn
  have D_number := ok_number T D_drawn A__law_number
  have D_quot := ok_quotient T R_NoRest D_over D_classes D_same D_whole A__law_quotient
  exact ok_law T D_plus D_minus D_times D_power D_purse D_drawn D_number D_same D_whole D_quot F_law
end Hx
open PySem PySem.W PySem.Calls PyProof.Rows in
set_option maxRecDepth 100000 in
set_option maxHeartbeats 0 in
theorem PySem.Challenge.cw_sherdhall_k01_numbers_by_97_holds : PySem.Challenge.rw_sherdhall_k01_numbers_by_97.Holds := by
  w_on; o_law
  refine HandSHeadRun.head_any (r := OpenLaw.row PySem.Challenge.rw_sherdhall_k01_numbers_by_97) (q := view (OpenLaw.row PySem.Challenge.rw_sherdhall_k01_numbers_by_97).prog [44]) (H := Hx.hk) (ob := Hx.ob) (M := 15000) (loose := Hx.loose) (d := HandSHeadRun.topDef (OpenLaw.row PySem.Challenge.rw_sherdhall_k01_numbers_by_97).prog 44) (kwd := []) Hx.ob_eq
    (by kernel_rfl) (fun s => by kernel_rfl) Hx.run (by kernel_rfl) (by kernel_rfl) (by kernel_rfl) (by rfl) (by first | assumption | decide +kernel) (by decide +kernel) ⟨rfl, rfl, rfl, rfl, rfl, by decide +kernel⟩ ?hw ?hc
  case hw => w_witness2
  case hc =>
    refine L2.walk_ofE (l := PySem.Challenge.rw_sherdhall_k01_numbers_by_97) (n := 63) (k := 5) (x := "script") (CX := L2.CX0) rfl (by decide) (by kernel_rfl) ⟨rfl, by decide, by decide⟩ ?F (fun _ _ _ _ z => z)
    intro w mg fa h Y G hmg0
    obtain ⟨K, KX, c, cx⟩ := Y
    have hmg : mg ("law" : PySem.Str) = some (.ref fa) := by
      have e : (HandSHeadRun.topDef (OpenLaw.row PySem.Challenge.rw_sherdhall_k01_numbers_by_97).prog 44).name = ("law" : PySem.Str) := by kernel_rfl
      rw [← e]
      exact hmg0
    obtain ⟨fd, hb, hF⟩ := Hx.facts (P := (PySem.Challenge.rw_sherdhall_k01_numbers_by_97).prog) (w := w) KX G hmg c cx
    exact ⟨K, fd, Hx.spLaw K, KX, hb, fun H a ns hl _ hS => ⟨a, ns, rfl, hS, hl, fun _ => rfl⟩, hF⟩
