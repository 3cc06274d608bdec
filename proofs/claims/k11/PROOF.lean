import PyProof.Rows.All
import Wide.All
import OpenK.AllK
import Wide.FinOn
import KE.KStateDown
import HandS.Base
import HandS.Call
import HandS.Ends
import HandS.List
import HandS.Comp
import HandS.Iter
import HandS.More
import HandS.Words
import HandS.WordsList
import HandS.WordsExc
import HandS.Defaults
import HandS.Wide
import HandS.IsInst
import HandS.Walk
import HandS.Star
import HandS.Conv
import HandS.Zip
import HandS.TupAny
import KE.KEqSeq
import KE.KEqDeep
import KE.KRevSl
import HandS.Head0
import HandS.Head1
import HandS.Head2
import HandS.HeadEnd
import HandS.HeadHook1
import HandS.HeadHook2
import HandS.Sort
import HandS.Dict
import HandS.WordsDict
import HandS.Style
import HandS.Finally
import HandS.DictComp
import PySem.Challenge.RW_sherdhall_k11_whole_one_number_changed
set_option Elab.async false
set_option linter.all false
set_option maxRecDepth 100000
set_option maxHeartbeats 4000000
namespace Cm
open PySem PySem.Spec PyProof.Rows L2
/-! ### a def, known by its name -/
def Dn (P : Program) (w : World) (K : PySem.W.Frag) (mg : Str → Option Value) (base : Heap) (CX : CXT) (k : Nat) (x : Str) (ps : List Str) (sp : Sp) : Prop :=
  ∃ (f : Addr) (fd : FuncData), FnOk P w K mg base CX k f fd ps sp ∧ mg x = some (.ref f) ∧ PySem.W.keepIn K (.ref f) = true ∧ Binds K fd ps [] ∧ ∃ oc od osl, K.lookup f = some ⟨oc, od, .func fd, osl⟩
/-- where a def without defaults stands -/
def At (K : PySem.W.Frag) (mg : Str → Option Value) (x : Str) (st : Stmt) (ps : List Str) : Prop :=
  ∃ (f : Addr) (fd : FuncData), FunD K x x (defArgs st) (defBody st) (defScope st) [] [] f fd ∧ mg x = some (.ref f) ∧ Binds K fd ps []
theorem _root_.L2.FunD.look {K : PySem.W.Frag} {x qual : Str} {params : Arguments} {body : List Stmt} {scope : Scope} {dvs : List V} {kws : List (Str × V)} {f : Addr} {fd : FuncData} (F : FunD K x qual params body scope dvs kws f fd) : ∃ oc od osl, K.lookup f = some ⟨oc, od, .func fd, osl⟩ := by
  obtain ⟨oc, od, dV, kV, doc, pm, an, cdv, ct, osl, rfl, lk, _⟩ := F.ex
  exact ⟨_, _, _, lk⟩
section
variable {P : Program} {w : World} {K : PySem.W.Frag} {mg : Str → Option Value} {base : Heap}
theorem ok0 {x : Str} {st : Stmt} {N ps : List Str} {k : Nat} {sp : Sp} {f : Addr} {fd : FuncData} (F : FunD K x x (defArgs st) (defBody st) (defScope st) [] [] f fd) (S : FnScope N ps (defScope st)) (len : ∀ vs H Q E, sp vs H Q E → vs.length = ps.length)
    (hbody : ∀ (f : Addr) (cdv : Value) (A : Around) (outer : List Env) (s : Shared) (H : Hp) (vs : List V) (Q : VK) (E : XK), Room k (A.deeper (envOfC x (defScope st) s.heap.objs.size f cdv)) → sp vs H Q E →
      ∃ t, PSs (cxOf CX0 P w K mg base N x (defScope st) f cdv A outer s H E).nox (defBody st) t ∧ t { nx := fun _ H' => Q .non H', rt := Q } (start N vs) H) : FnOk P w K mg base CX0 (k + 1) f fd ps sp := by
  refine F.ok S len fun cdv A outer s H vs Q E hr h => ?_
  obtain ⟨t, h1, h2⟩ := hbody f cdv A outer s H vs Q E hr h
  exact ⟨t, h1.nox, h2⟩
theorem At.ok {x : Str} {st : Stmt} {N ps : List Str} {k : Nat} {sp : Sp} (F : At K mg x st ps) (S : FnScope N ps (defScope st)) (len : ∀ vs H Q E, sp vs H Q E → vs.length = ps.length)
    (hbody : ∀ (f : Addr) (cdv : Value) (A : Around) (outer : List Env) (s : Shared) (H : Hp) (vs : List V) (Q : VK) (E : XK), Room k (A.deeper (envOfC x (defScope st) s.heap.objs.size f cdv)) → sp vs H Q E →
      ∃ t, PSs (cxOf CX0 P w K mg base N x (defScope st) f cdv A outer s H E).nox (defBody st) t ∧ t { nx := fun _ H' => Q .non H', rt := Q } (start N vs) H) : Dn P w K mg base CX0 (k + 1) x ps sp := by
  obtain ⟨f, fd, F, hm, hb⟩ := F
  refine ⟨f, fd, F.ok S len fun cdv A outer s H vs Q E hr h => ?_, hm, F.kp, hb, F.look⟩
  obtain ⟨t, h1, h2⟩ := hbody f cdv A outer s H vs Q E hr h
  exact ⟨t, h1.nox, h2⟩
end
section
variable {X : Cx} {k : Nat} {x : Str} {ps : List Str} {sp : Sp} {p pos : Pos} {e : Expr} {es : List Expr} {t : TA}
theorem pe_callD (D : Dn X.prog X.w X.K X.mg X.base CX0 k x ps sp) (hr : Room k X.A) (ha : PA X (e :: es) t) (hg : Gl X x := by rfl) (hdb : (x == ("__debug__" : Str)) = false := by decide)
    (he : starEach (e :: es) X.env = (false, eval e X.env) :: starEach es X.env := by rfl) (hpl : (backTo pos (starEach es X.env)).any (·.1) = false := by rfl) :
    PE X (.Call (.Name x p) (e :: es) [] pos) (tCall sp [] E0 t) := by
  obtain ⟨f, fd, F, hm, hk, hb, _⟩ := D
  exact pe_call F hr hg hm hk hb .nil pass0 ha hdb he hpl
end
/-! ### powers of ints of any size -/
def CPowW (i j : Int) : Prop := 0 ≤ j ∧ (Builtin.Int.intBits i : Int) * j ≤ 2 ^ 27
theorem CPowW.mk {i : Int} {n a : Nat} (ha : i.natAbs < 2 ^ a) (h0 : 0 < a) (h : a * n ≤ 100000000) : CPowW i n := by
  refine ⟨Int.natCast_nonneg _, ?_⟩
  have b : Builtin.Int.intBits i ≤ i.natAbs.log2 + 1 := by
    unfold Builtin.Int.intBits
    split <;> omega
  have x := PySem.Flt.log2_lt_of h0 ha
  have c : Builtin.Int.intBits i ≤ a := by omega
  have d : Builtin.Int.intBits i * n ≤ a * n := Nat.mul_le_mul_right _ c
  have e : ((Builtin.Int.intBits i * n : Nat) : Int) ≤ ((100000000 : Nat) : Int) := Int.ofNat_le.mpr (Nat.le_trans d h)
  rw [Int.natCast_mul] at e
  have e2 : ((100000000 : Nat) : Int) ≤ 2 ^ 27 := by decide
  exact Int.le_trans e e2
theorem op_powW {X : Cx} : OpR X (binaryOp .Pow) (rI CPowW fun i j => .int (i ^ j.toNat)) := opI fun _ _ _ _ _ _ _ hc q => pow_int hc.1 hc.2 q
/-! ### tests -/
theorem iteD {c A B : Prop} [Decidable c] (h1 : c → A) (h2 : ¬ c → B) : if decide c = true then A else B := by
  by_cases h : c
  · rw [decide_eq_true h]; exact iteT (h1 h)
  · rw [decide_eq_false h]; exact iteF (h2 h)
theorem iteDn {c A B : Prop} [Decidable c] (h1 : ¬ c → A) (h2 : c → B) : if (!decide c) = true then A else B := by
  by_cases h : c
  · rw [decide_eq_true h]; exact iteF (h2 h)
  · rw [decide_eq_false h]; exact iteT (h1 h)
theorem iteI {x y : Int} {A B : Prop} (h1 : x = y → A) (h2 : ¬ x = y → B) : if decide (V.int x = V.int y) = true then A else B :=
  iteD (fun h => h1 (V.int.inj h)) (fun h => h2 fun e => h (congrArg V.int e))
theorem iteIn {x y : Int} {A B : Prop} (h1 : ¬ x = y → A) (h2 : x = y → B) : if (!decide (V.int x = V.int y)) = true then A else B :=
  iteDn (fun h => h1 fun e => h (congrArg V.int e)) (fun h => h2 (V.int.inj h))
theorem iteB {b : Bool} {A B : Prop} (h1 : b = true → A) (h2 : b = false → B) : if b = true then A else B := by
  cases b with
  | true => exact iteT (h1 rfl)
  | false => exact iteF (h2 rfl)
theorem iteBn {b : Bool} {A B : Prop} (h1 : b = false → A) (h2 : b = true → B) : if (!b) = true then A else B := by
  cases b with
  | true => exact iteF (h2 rfl)
  | false => exact iteT (h1 rfl)
/-! ### heaps -/
/-- all that was tracked, but p, is as it was -/
def Kp (p : Addr) (H H' : Hp) : Prop := ∀ b o, H b = some o → b ≠ p → H' b = some o
theorem Kp.refl (p : Addr) (H : Hp) : Kp p H H := fun _ _ h _ => h
theorem Kp.trans {p : Addr} {H H1 H2 : Hp} (a : Kp p H H1) (b : Kp p H1 H2) : Kp p H H2 := fun c o h n => b c o (a c o h n) n
theorem Kp.of {p : Addr} {H H1 : Hp} (a : Same H H1) : Kp p H H1 := fun c o h _ => a c o h
theorem Kp.new {p a : Addr} {H : Hp} {o : HO} (n : H a = none) : Kp p H (upd H a o) := fun c u h _ => by rw [upd_ne (ne_of_none h n)]; exact h
theorem Kp.put {p : Addr} {H : Hp} {o : HO} : Kp p H (upd H p o) := fun c u h n => by rw [upd_ne n]; exact h
theorem Same.new {a : Addr} {H : Hp} {o : HO} (n : H a = none) : Same H (upd H a o) := fun c u h => by rw [upd_ne (ne_of_none h n)]; exact h
theorem old {H : Hp} {a p : Addr} {o u : HO} (h : H a = some u) (n : H p = none) : upd H p o a = some u := by rw [upd_ne (ne_of_none h n)]; exact h
/-- p was free ahead: what is kept but p is kept -/
theorem Kp.same {p : Addr} {H0 H H' : Hp} (s : Same H0 H) (n : H0 p = none) (k : Kp p H H') : Same H0 H' := fun b o h => k b o (s b o h) (ne_of_none h n)
end Cm
namespace Cm
open PySem PySem.Spec PyProof.Rows L2
theorem at_ints {ns : List Int} {k : Int} (h0 : 0 ≤ k) (h : k < ns.length) : ∃ z, z ∈ ns ∧ ns[k.toNat]? = some z ∧ atI (ns.map V.int) k = some (.int z) := by
  have hk : k.toNat < ns.length := by omega
  refine ⟨ns[k.toNat], List.getElem_mem _, List.getElem?_eq_getElem hk, ?_⟩
  obtain ⟨j, rfl⟩ : ∃ j : Nat, k = (j : Int) := ⟨k.toNat, by omega⟩
  refine atI_nat ?_
  rw [List.getElem?_map, List.getElem?_eq_getElem (by omega)]
  rfl
theorem p10_18 : (10 : Int) ^ (18 : Int).toNat = 1000000000000000000 := by decide
end Cm
namespace Cm
open PySem PySem.Spec PyProof.Rows L2
/-! ### comprehensions that leave what stood -/
section
variable {J : It} {n : Nat} {G : Hp → Prop} {Y : Nat → Hp → V → Hp → Prop}
theorem lc_map (w : Walk J n G Y) {g : TG} {tt : TT} {te : TE} {vs : List Nat} {σ : L2.St} {H1 : Hp} {D : Addr} {Qd : Hp → Prop} (f : Nat → V) (hD : H1 D = none) (hn : n ≤ sizeLine) (hG : ∀ H, Same H1 H → G H)
    (hs : ∀ i x H H' (R : V → Hp → Prop) (R' : Hp → Prop), i < n → Same H1 H → Y i H x H' → (∀ H4, Same H H4 → R (f i) H4) → g x (wipe σ vs) H' fun σ2 H2 => wipe σ2 vs = wipe σ vs ∧ tt σ2 H2 fun b H3 => if b = true then te σ2 H3 R else R' H3)
    (hd : ∀ H, Same H1 H → H D = some (.lst ((List.range n).map f)) → Qd H) :
    ∃ W : Nat → Nat → Hp → Prop, (∃ m, W 0 m (upd H1 D (.lst []))) ∧ ∀ i m H, W i m H →
      (J.stop i H ∧ Qd H) ∨ (J.go i H ∧ ∃ Nx : Hp → Prop, (∀ H', Nx H' → ∃ m', m' < m ∧ W (i + 1) m' H') ∧ ∀ x H', J.yld i H x H' → g x (wipe σ vs) H' fun σ2 H2 => wipe σ2 vs = wipe σ vs ∧ tt σ2 H2 fun b H3 =>
        if b = true then te σ2 H3 fun y H4 => ∃ acc, H4 D = some (.lst acc) ∧ acc.length < sizeLine ∧ Nx (upd H4 D (.lst (acc ++ [y]))) else Nx H3) := by
  refine lc_it w (fun i H => Same H1 H ∧ H D = some (.lst ((List.range i).map f))) ⟨Same.new hD, upd_same⟩ (fun i H _ p => hG H p.1) ?_ (fun H p => hd H p.1 p.2)
  intro i x H H' hi p y
  refine hs i x H H' _ _ hi p.1 y fun H4 s4 => ?_
  refine ⟨_, s4 _ _ p.2, by rw [List.length_map, List.length_range]; omega, fun b o e => ?_, ?_⟩
  · rw [upd_ne (ne_of_none e hD)]
    exact s4 _ _ (p.1 _ _ e)
  · rw [upd_same, List.range_succ, List.map_append]
    rfl
theorem lc_ints (w : Walk J n G Y) {g : TG} {tt : TT} {te : TE} {vs : List Nat} {σ : L2.St} {H1 : Hp} {D : Addr} {Qd : Hp → Prop} (f : Nat → Int) (hD : H1 D = none) (hn : n ≤ sizeLine) (hG : ∀ H, Same H1 H → G H)
    (hs : ∀ i x H H' (R : V → Hp → Prop) (R' : Hp → Prop), i < n → Same H1 H → Y i H x H' → (∀ H4, Same H H4 → R (.int (f i)) H4) → g x (wipe σ vs) H' fun σ2 H2 => wipe σ2 vs = wipe σ vs ∧ tt σ2 H2 fun b H3 => if b = true then te σ2 H3 R else R' H3)
    (hd : ∀ H, Same H1 H → H D = some (.lst (((List.range n).map f).map V.int)) → Qd H) :
    ∃ W : Nat → Nat → Hp → Prop, (∃ m, W 0 m (upd H1 D (.lst []))) ∧ ∀ i m H, W i m H →
      (J.stop i H ∧ Qd H) ∨ (J.go i H ∧ ∃ Nx : Hp → Prop, (∀ H', Nx H' → ∃ m', m' < m ∧ W (i + 1) m' H') ∧ ∀ x H', J.yld i H x H' → g x (wipe σ vs) H' fun σ2 H2 => wipe σ2 vs = wipe σ vs ∧ tt σ2 H2 fun b H3 =>
        if b = true then te σ2 H3 fun y H4 => ∃ acc, H4 D = some (.lst acc) ∧ acc.length < sizeLine ∧ Nx (upd H4 D (.lst (acc ++ [y]))) else Nx H3) :=
  lc_map w (fun i => .int (f i)) hD hn hG hs fun H s e => hd H s (by rw [e, List.map_map]; rfl)
theorem lc_bools (w : Walk J n G Y) {g : TG} {tt : TT} {te : TE} {vs : List Nat} {σ : L2.St} {H1 : Hp} {D : Addr} {Qd : Hp → Prop} (f : Nat → Bool) (hD : H1 D = none) (hn : n ≤ sizeLine) (hG : ∀ H, Same H1 H → G H)
    (hs : ∀ i x H H' (R : V → Hp → Prop) (R' : Hp → Prop), i < n → Same H1 H → Y i H x H' → (∀ H4, Same H H4 → R (.bl (f i)) H4) → g x (wipe σ vs) H' fun σ2 H2 => wipe σ2 vs = wipe σ vs ∧ tt σ2 H2 fun b H3 => if b = true then te σ2 H3 R else R' H3)
    (hd : ∀ H, Same H1 H → H D = some (.lst (((List.range n).map f).map V.bl)) → Qd H) :
    ∃ W : Nat → Nat → Hp → Prop, (∃ m, W 0 m (upd H1 D (.lst []))) ∧ ∀ i m H, W i m H →
      (J.stop i H ∧ Qd H) ∨ (J.go i H ∧ ∃ Nx : Hp → Prop, (∀ H', Nx H' → ∃ m', m' < m ∧ W (i + 1) m' H') ∧ ∀ x H', J.yld i H x H' → g x (wipe σ vs) H' fun σ2 H2 => wipe σ2 vs = wipe σ vs ∧ tt σ2 H2 fun b H3 =>
        if b = true then te σ2 H3 fun y H4 => ∃ acc, H4 D = some (.lst acc) ∧ acc.length < sizeLine ∧ Nx (upd H4 D (.lst (acc ++ [y]))) else Nx H3) :=
  lc_map w (fun i => .bl (f i)) hD hn hG hs fun H s e => hd H s (by rw [e, List.map_map]; rfl)
end
/-! ### plain values and their built-in types -/
inductive Ty (K : PySem.W.Frag) (H : Hp) : V → String → Prop where
  | non : Ty K H .non "NoneType"
  | bl (x : Bool) : Ty K H (.bl x) "bool"
  | int (i : Int) : Ty K H (.int i) "int"
  | str (x : Str) : Ty K H (.str x) "str"
  | lst {a : Addr} {xs : List V} (e : SqL K H a xs) : Ty K H (.ref a) "list"
  | tup {a : Addr} {xs : List V} (e : SqT K H a xs) : Ty K H (.ref a) "tuple"
  | dK {a : Addr} {kvs : List (Key × V)} (e : H a = some (.dK kvs)) : Ty K H (.ref a) "dict"
theorem Ty.x {K : PySem.W.Frag} {H : Hp} {v : V} {n : String} (h : Ty K H v n) : TyX K H v (.type n) := by
  cases h with
  | non => exact .base .non
  | bl x => exact .base (.bl x)
  | int i => exact .base (.int i)
  | str x => exact .base (.str x)
  | lst e =>
    rcases e with (e | ⟨o, e⟩) | ⟨o, its, n, hk, hc, _⟩
    · exact .base (.lst e)
    · exact .base (.frz e)
    · exact .kList hk hc
  | tup e =>
    rcases e with (e | ⟨o, e⟩) | ⟨o, its, n, hk, hc, _⟩
    · exact .base (.tup e)
    · exact .fTuple e
    · exact .kTuple hk hc
  | dK e => exact .base (.dK e)
theorem Same.sqt {K : PySem.W.Frag} {H H' : Hp} {a : Addr} {xs : List V} (e : Same H H') (h : SqT K H a xs) : SqT K H' a xs := by
  rcases h with (h | ⟨o, h⟩) | h
  · exact .inl (.inl (e _ _ h))
  · exact .inl (.inr ⟨o, e _ _ h⟩)
  · exact .inr h
theorem Ty.same {K : PySem.W.Frag} {H H' : Hp} {v : V} {n : String} (s : Same H H') (h : Ty K H v n) : Ty K H' v n := by
  cases h with
  | non => exact .non
  | bl x => exact .bl x
  | int i => exact .int i
  | str x => exact .str x
  | lst e => exact .lst (s.seq e)
  | tup e => exact .tup (Same.sqt s e)
  | dK e => exact .dK (s _ _ e)
theorem Ty.names {K : PySem.W.Frag} {H : Hp} {v : V} {n : String} (h : Ty K H v n) : n ∈ ["NoneType", "bool", "int", "str", "list", "tuple", "dict"] := by
  cases h <;> decide
theorem kit_names {c : String} (hc : c ∈ ["bool", "int", "str", "list", "tuple", "dict"]) {n : String} (h : n ∈ ["NoneType", "bool", "int", "str", "list", "tuple", "dict"]) : kitB n c = some (n == c || (n == "bool" && c == "int")) := by
  have key : ∀ c ∈ ["bool", "int", "str", "list", "tuple", "dict"], ∀ n ∈ ["NoneType", "bool", "int", "str", "list", "tuple", "dict"], kitB n c = some (n == c || (n == "bool" && c == "int")) := by decide +kernel
  exact key c hc n h
theorem Ty.kit {K : PySem.W.Frag} {H : Hp} {v : V} {n : String} (h : Ty K H v n) (c : String) (hc : c ∈ ["bool", "int", "str", "list", "tuple", "dict"] := by decide) : PySem.W.kitOne K (.type n) (.type c) = some (n == c || (n == "bool" && c == "int")) := kit_ty (kit_names hc h.names)
end Cm
namespace Cm
open L2
theorem small1000' {n : Nat} (h : n ≤ 1000000) : n ≤ PySem.sizeLine := Nat.le_trans h (by decide)
end Cm
namespace Cm
open L2
theorem map_get {α : Type} [Inhabited α] {c : α → V} {xs : List α} {i : Nat} {x : V} (h : i < xs.length) (e : (xs.map c)[i]? = some x) : x = c (xs.getD i default) := by
  rw [List.getElem?_map, List.getElem?_eq_getElem h] at e
  simp [List.getD, h]
  exact (Option.some.inj e).symm
theorem getD_in {α : Type} [Inhabited α] {xs : List α} {i : Nat} (h : i < xs.length) : xs.getD i default ∈ xs := by
  simp [List.getD, h]
end Cm
namespace Cm
open PySem PySem.Spec PyProof.Rows L2
/-! ### == of lists and tuples of ints -/
theorem dp_ints {K : PySem.W.Frag} {H : Hp} : ∀ xs : List Int, DpAll K H (xs.map V.int) (xs.map PyData.int)
  | [] => .nil
  | x :: xs => .cons (.int x) (dp_ints xs)
theorem dpL {K : PySem.W.Frag} {H : Hp} {a : Addr} {xs : List Int} (h : SqL K H a (xs.map V.int)) : Dp K H (.ref a) (.list (xs.map PyData.int)) := .lst h (dp_ints xs)
theorem dpT {K : PySem.W.Frag} {H : Hp} {a : Addr} {xs : List Int} (h : SqT K H a (xs.map V.int)) : Dp K H (.ref a) (.tuple (xs.map PyData.int)) := .tup h (dp_ints xs)
theorem shL (ns : List Int) : SeqAt.shaped (.list (ns.map PyData.int)) = true := PySem.W.ke_shaped_ints ns
theorem shT (ns : List Int) : SeqAt.shaped (.tuple (ns.map PyData.int)) = true := by
  have h := shL ns
  unfold SeqAt.shaped at h ⊢
  simp only [PyData.canLay0, PyData.depth] at h ⊢
  exact h
theorem eqvL (xs ys : List Int) : PyData.eqv (.list (xs.map PyData.int)) (.list (ys.map PyData.int)) = decide (xs = ys) := by rw [PyData.eqv, PySem.W.ked_eqvAll]
theorem eqvT (xs ys : List Int) : PyData.eqv (.tuple (xs.map PyData.int)) (.tuple (ys.map PyData.int)) = decide (xs = ys) := by rw [PyData.eqv, PySem.W.ked_eqvAll]
end Cm
namespace Cm
theorem range_map {α β : Type} [Inhabited α] (g : α → β) (xs : List α) : (List.range xs.length).map (fun i => g (xs.getD i default)) = xs.map g := by
  apply List.ext_getElem?
  intro i
  by_cases h : i < xs.length
  · simp [List.getD, h]
  · have h2 : xs.length ≤ i := by omega
    rw [List.getElem?_eq_none (by simpa using h2), List.getElem?_eq_none (by simpa using h2)]
end Cm
namespace Cm
open PySem PySem.Spec PyProof.Rows L2
/-- zip of two tuples, as a walk -/
theorem walk_zipT {K : PySem.W.Frag} {a b : Addr} {xs ys : List V} {n : Nat} (hn : n = min xs.length ys.length) : Walk (RZ.ItzT K a b) n (fun H => SqT K H a xs ∧ SqT K H b ys) (YPair (fun i => xs[i]?) (fun i => ys[i]?)) := by
  subst hn
  refine ⟨fun i _ hi q => ?_, fun _ q => ⟨xs, ys, q.1, q.2, by omega⟩, fun i H v H' _ q y => ?_⟩
  · have h1 : i < xs.length := by omega
    have h2 : i < ys.length := by omega
    exact ⟨xs, ys, xs[i], ys[i], q.1, q.2, by simp [h1], by simp [h2]⟩
  · obtain ⟨T, x, z, h1, h2, h3, h4, h5⟩ := y
    exact ⟨T, x, z, h1, h2, h3, h4 xs q.1, h5 ys q.2⟩
/-- a def that is never called so -/
theorem At.none {P : Program} {w : World} {K : PySem.W.Frag} {mg : Str → Option Value} {base : Heap} {x : Str} {st : Stmt} {ps : List Str} (F : At K mg x st ps) (k : Nat) : Dn P w K mg base CX0 k x ps (fun _ _ _ _ => False) := by
  obtain ⟨f, fd, F, hm, hb⟩ := F
  exact ⟨f, fd, ⟨fun _ _ _ _ h => h.elim, fun _ _ _ _ _ _ _ _ _ _ _ _ _ h => h.elim⟩, hm, F.kp, hb, F.look⟩
end Cm
namespace Cm
open PySem PySem.Spec PyProof.Rows L2
theorem Dn.mono {P : Program} {w : World} {K : PySem.W.Frag} {mg : Str → Option Value} {base : Heap} {j k : Nat} {x : Str} {ps : List Str} {sp : Sp} (D : Dn P w K mg base CX0 j x ps sp) (h : j ≤ k) : Dn P w K mg base CX0 k x ps sp := by
  obtain ⟨f, fd, F, r⟩ := D
  exact ⟨f, fd, F.mono h, r⟩
theorem Dn.imp {P : Program} {w : World} {K : PySem.W.Frag} {mg : Str → Option Value} {base : Heap} {k : Nat} {x : Str} {ps : List Str} {sp sp' : Sp} (D : Dn P w K mg base CX0 k x ps sp) (h : ∀ vs H Q E, sp' vs H Q E → sp vs H Q E) : Dn P w K mg base CX0 k x ps sp' := by
  obtain ⟨f, fd, F, r⟩ := D
  exact ⟨f, fd, F.imp h, r⟩
/-- two promises of one def -/
theorem Dn.or {P : Program} {w : World} {K : PySem.W.Frag} {mg : Str → Option Value} {base : Heap} {k : Nat} {x : Str} {ps : List Str} {sp1 sp2 : Sp} (D : Dn P w K mg base CX0 k x ps sp1) (D' : Dn P w K mg base CX0 k x ps sp2) :
    Dn P w K mg base CX0 k x ps (fun vs H Q E => sp1 vs H Q E ∨ sp2 vs H Q E) := by
  obtain ⟨f, fd, F, hm, hk, hb, oc, od, osl, lk⟩ := D
  obtain ⟨f', fd', F', hm', _, _, oc', od', osl', lk'⟩ := D'
  rw [hm] at hm'
  cases hm'
  rw [lk] at lk'
  cases lk'
  refine ⟨f, fd, ⟨fun vs H Q E h => ?_, fun A outer s H args us vs Q E hr e b v h => ?_⟩, hm, hk, hb, oc, od, osl, lk⟩
  · rcases h with h | h
    · exact F.len _ _ _ _ h
    · exact F'.len _ _ _ _ h
  · rcases h with h | h
    · exact F.run A outer s H args us vs Q E hr e b v h
    · exact F'.run A outer s H args us vs Q E hr e b v h
end Cm
namespace Cm
open PySem PySem.Spec PyProof.Rows L2
section
variable {J : It} {n : Nat} {G : Hp → Prop} {Y : Nat → Hp → V → Hp → Prop}
/-- .. with a test: the values f i for which p holds -/
theorem lc_filt {α : Type} (c : α → V) (w : Walk J n G Y) {g : TG} {tt : TT} {te : TE} {vs : List Nat} {σ : L2.St} {H1 : Hp} {D : Addr} {Qd : Hp → Prop} (f : Nat → α) (p : α → Bool) (hD : H1 D = none) (hn : n ≤ sizeLine) (hG : ∀ H, Same H1 H → G H)
    (hs : ∀ i x H H' (R : V → Hp → Prop) (R' : Hp → Prop), i < n → Same H1 H → Y i H x H' → (∀ H4, Same H H4 → p (f i) = true → R (c (f i)) H4) → (∀ H4, Same H H4 → p (f i) = false → R' H4) → g x (wipe σ vs) H' fun σ2 H2 => wipe σ2 vs = wipe σ vs ∧ tt σ2 H2 fun b H3 => if b = true then te σ2 H3 R else R' H3)
    (hd : ∀ H, Same H1 H → H D = some (.lst ((((List.range n).map f).filter p).map c)) → Qd H) :
    ∃ W : Nat → Nat → Hp → Prop, (∃ m, W 0 m (upd H1 D (.lst []))) ∧ ∀ i m H, W i m H →
      (J.stop i H ∧ Qd H) ∨ (J.go i H ∧ ∃ Nx : Hp → Prop, (∀ H', Nx H' → ∃ m', m' < m ∧ W (i + 1) m' H') ∧ ∀ x H', J.yld i H x H' → g x (wipe σ vs) H' fun σ2 H2 => wipe σ2 vs = wipe σ vs ∧ tt σ2 H2 fun b H3 =>
        if b = true then te σ2 H3 fun y H4 => ∃ acc, H4 D = some (.lst acc) ∧ acc.length < sizeLine ∧ Nx (upd H4 D (.lst (acc ++ [y]))) else Nx H3) := by
  refine lc_it w (fun i H => Same H1 H ∧ H D = some (.lst ((((List.range i).map f).filter p).map c))) ⟨Same.new hD, upd_same⟩ (fun i H _ p => hG H p.1) ?_ (fun H p => hd H p.1 p.2)
  intro i x H H' hi ps y
  have e : ((((List.range (i + 1)).map f).filter p).map c) = ((((List.range i).map f).filter p).map c) ++ (if p (f i) = true then [c (f i)] else []) := by
    rw [List.range_succ, List.map_append, List.filter_append, List.map_append]
    congr 1
    by_cases h : p (f i) = true
    · simp [h]
    · simp [h]
  refine hs i x H H' _ _ hi ps.1 y (fun H4 s4 pt => ?_) fun H4 s4 pf => ?_
  · refine ⟨_, s4 _ _ ps.2, ?_, fun b o e => ?_, ?_⟩
    · have := List.length_filter_le p ((List.range i).map f)
      rw [List.length_map] at this ⊢
      rw [List.length_range] at this
      omega
    · rw [upd_ne (ne_of_none e hD)]
      exact s4 _ _ (ps.1 _ _ e)
    · rw [upd_same, e, if_pos pt]
  · refine ⟨fun b o e => s4 _ _ (ps.1 _ _ e), ?_⟩
    rw [e, if_neg (by rw [pf]; decide), List.append_nil]
    exact s4 _ _ ps.2
end
end Cm
namespace Cm
open PySem PySem.Spec PyProof.Rows L2
/-! ### sum of a tuple of ints -/
section
variable {prog : Program} {w : World} {A : Around} {E : Value → Shared → Prop} {s : Shared} {l : Addr} {xs : Array (Int × Tok)}
theorem sum_tupG {Q : Value → Shared → Prop} (hh : A.handled = none) (hl : s.heap.IsTuple l (intItems xs))
    (h : ∀ h' tk t', (∀ b o, s.heap.get? b = some o → h'.get? b = some o) → Q (.int (preSum (numAt xs) xs.size) t') { s with heap := h', toks := tk }) :
    wpAny (model prog w) A (call (.builtin "sum") [.ref l]) Q E s := by
  have hlt : l < s.heap.objs.size := by obtain ⟨_, e, _⟩ := hl; exact Heap.lt_size e
  refine call_sum_walkG (wpAny_pyIter_tuple hl ?_)
  refine ⟨_, _, _, _, _, _, numAt xs, rfl, Walks.tuple (A := A.in1) hh _ l (Nat.ne_of_lt hlt) (intItems xs), ⟨⟨_, Heap.get?_push_size _ rfl, rfl, rfl⟩, hl.push _⟩, (fun b hb => ?_), (fun _ _ => intItems_at), fun h' tk t' hk => ?_⟩
  · show b < (s.heap.push _).objs.size
    rw [Heap.size_push]
    rcases List.mem_cons.mp hb with rfl | hb
    · exact Nat.lt_succ_self _
    · rcases List.mem_cons.mp hb with rfl | hb
      · exact Nat.lt_succ_of_lt hlt
      · cases hb
  · have := h h' tk t' fun b o e => by
      refine hk b o (fun hm => ?_) (Heap.get?_push_of_some _ e)
      rcases List.mem_cons.mp hm with e1 | hm
      · exact absurd (e1 ▸ Heap.lt_size e) (Nat.lt_irrefl _)
      · cases hm
    simpa [intItems] using this
end
def rSumT (K : PySem.W.Frag) : List V → Hp → VK → Prop := fun vs H Q => ∃ (a : Addr) (ns : List Int), vs = [V.ref a] ∧ SqT K H a (ns.map V.int) ∧ Q (.int ns.sum) H
theorem cr_sumT {X : Cx} (hc : X.calm = true) : CallR X (.builtin "sum") (rSumT X.K) := by
  intro pins s σ H vs us Q I r h
  obtain ⟨a, ns, rfl, hs, q⟩ := h
  obtain ⟨its, rv, hl, _⟩ := I.tuple hs
  rw [Vals.ref1 r]
  have hi := rv.ints
  obtain ⟨xs, e⟩ := hi.allInts.items
  have hn : numsOf (intItems xs).toList = ns := by rw [← e]; exact hi.numsOf
  rw [nums_intItems] at hn
  rw [e] at hl
  refine sum_tupG (I.ok.hd hc) hl fun h' tk t' hk => ?_
  rw [preSum_eq, List.take_of_length_le (by simp), hn]
  exact ⟨.int _, H, I.kept hk, ⟨_, rfl⟩, q⟩
end Cm
namespace Cm
open PySem PySem.Spec PyProof.Rows L2
section
variable {X : Cx} {o e : Expr} {es : List Expr} {to : TE} {t : TA} {name : Str} {apos cpos : Pos} {T id : String} {r : V → List V → Hp → VK → Prop}
theorem pe_bmK (K : PySem.W.Frag) (pa : PlainAttrs T) (slot : Slot T name id) (hty : typeOf (.builtin id) = pure (.type "method_descriptor")) (hm : MtR X id r) (ho : PE X o to) (ha : PA X (e :: es) t)
    (hK : X.K = K := by rfl) (hbase : attributeBase o name X.env (eval o X.env) = eval o X.env := by rfl)
    (hfew : ((backTo cpos (starEach (e :: es) X.env)).all (fun x => !x.1) && (backToKw cpos (keywordEach [] X.env)).all (fun x => x.1.isSome)
      && decide ((e :: es).length + ([] : List Keyword).length + (if ([] : List Keyword).isEmpty then 0 else 1) < 30)) = true := by rfl)
    (hline : (apos.endLine == cpos.line) = true := by rfl) (hs : starEach (e :: es) X.env = (false, eval e X.env) :: starEach es X.env := by rfl) (hplain : (backTo cpos (starEach es X.env)).any (·.1) = false := by rfl) :
    PE X (.Call (.Attribute o name apos) (e :: es) [] cpos) (tBM K T r to t) := by
  subst hK
  exact pe_bm pa slot hty hm ho ha hbase hfew hline hs hplain
end
end Cm
namespace Cm
open PySem PySem.Spec PyProof.Rows L2 HT
/-! ### t[::-1] of a tuple -/
section
variable {prog : Program} {w : World} {A : Around} {E : Value → Shared → Prop} {s : Shared}
theorem rev_adjust (n : Nat) : Builtin.Slice.sliceAdjust none none (-1) (n : Int) = ((n : Int) - 1, -1) := by
  unfold Builtin.Slice.sliceAdjust
  simp
theorem rev_places (n : Nat) : Builtin.Slice.slicePlaces ((n : Int) - 1) (-1) (-1) = n := by
  unfold Builtin.Slice.slicePlaces
  simp
  omega
theorem fm_congr {α β : Type} {f g : α → Option β} : ∀ {l : List α}, (∀ x ∈ l, f x = g x) → l.filterMap f = l.filterMap g
  | [], _ => rfl
  | x :: l, h => by
    rw [List.filterMap_cons, List.filterMap_cons, h x (List.mem_cons_self ..), fm_congr (l := l) fun y hy => h y (List.mem_cons_of_mem _ hy)]
theorem rev_pick (xs : Array Value) : ((List.range xs.size).filterMap fun (m : Nat) => xs[(((xs.size : Nat) : Int) - 1 + (m : Int) * (-1)).toNat]?).toArray = xs.toList.reverse.toArray := by
  have e : (List.range xs.size).filterMap (fun (m : Nat) => xs[(((xs.size : Nat) : Int) - 1 + (m : Int) * (-1)).toNat]?) = ((List.range xs.size).map fun k => xs.size - 1 - k).filterMap (xs[·]?) := by
    rw [List.filterMap_map]
    apply fm_congr
    intro m hm
    have := List.mem_range.mp hm
    show xs[_]? = xs[xs.size - 1 - m]?
    congr 1
    omega
  rw [e, PySem.W.krv_range, List.filterMap_reverse, PySem.W.krv_all]
theorem sliceApplied_rev {sl : Addr} {t : Tok} {n : Nat} {Q : Int × Int × Nat → Shared → Prop} (hs : s.heap.IsSliceOf sl .none .none (.int (-1) t))
    (h : Q ((n : Int) - 1, -1, n) s) : wpAny (model prog w) A (Builtin.Slice.sliceApplied (.ref sl) (pure (n : Int))) Q E s := by
  obtain ⟨os, hos, hcs, hds⟩ := id hs
  unfold Builtin.Slice.sliceApplied Builtin.Slice.sliceFields
  refine wpAny_bind (wpAny_bind (wpAny_field hos hds (x := .none) rfl (wpAny_bind (wpAny_field hos hds (x := .none) rfl (wpAny_bind (wpAny_field hos hds (x := .int (-1) t) rfl (wpAny_pure ?_)))))))
  refine wpAny_bind (slicePart_int ?_)
  show wpAny _ _ (if ((-1 : Int) == 0) = true then _ else _) _ _ s
  rw [if_neg (by decide)]
  refine wpAny_bind (slicePart_none (wpAny_bind (slicePart_none (wpAny_bind (wpAny_pure ?_)))))
  show wpAny _ _ (match Builtin.Slice.sliceAdjust none none (-1) (n : Int) with | (lo, hi) => pure (lo, (-1 : Int), Builtin.Slice.slicePlaces lo hi (-1))) _ _ s
  rw [rev_adjust n]
  show wpAny _ _ (pure ((n : Int) - 1, (-1 : Int), Builtin.Slice.slicePlaces ((n : Int) - 1) (-1) (-1))) _ _ s
  rw [rev_places]
  exact wpAny_pure h
theorem getItem_tuple_rev {t sl : Addr} {items : Array Value} {u : Tok} {Q : Value → Shared → Prop} (ht : IsTup s.heap t items) (hs : s.heap.IsSliceOf sl .none .none (.int (-1) u))
    (h : Q (.ref s.heap.objs.size) { s with heap := s.heap.push { cls := .type "tuple", data := .seq items.toList.reverse.toArray } })
    (hsz : items.size ≤ sizeLine) : wpAny (model prog w) A (getItem (.ref t) (.ref sl)) Q E s := by
  have htake : sizeOk (.seq items.toList.reverse.toArray) := by
    show items.toList.reverse.toArray.size ≤ sizeLine
    rw [List.size_toArray, List.length_reverse, Array.length_toList]
    exact hsz
  obtain ⟨os, hos, hcs, hds⟩ := id hs
  have hTs : s.TypeIs (.ref sl) "slice" := ⟨os, hos, hcs⟩
  unfold getItem
  try with_reducible refine wpAny_holding ?_
  first | refine wpAny_bind (wpAny_pure ?_) | skip
  refine wpAny_bind (wpAny_sequenceKey ht.typeIs (by decide) ?_)
  refine wpAny_bind (wpAny_callSpecial?_slot (name := Str.ofString "__getitem__") ht.typeIs PyProof.Rows.slot_tuple_getitem
    (wpAny_call_entry PyProof.Rows.slot_tuple_getitem ht.typeIs entry_tuple_getitem ?_ (args_tuple_getitem _ _)))
  show wpAny _ _ (Builtin.Tuple.tupleItemsOf (.ref t) >>= _) _ _ s
  refine wpAny_bind (tupleItemsOf_ ht ?_)
  refine wpAny_bind (wpAny_typeOf hTs ?_)
  rw [if_pos (by decide)]
  refine wpAny_bind (sliceApplied_rev hs ?_)
  have hno : ¬ ((((items.size : Nat) : Int) - 1 == 0 && (-1 : Int) == 1 && items.size == items.size) = true) := by
    intro q
    rw [Bool.and_eq_true, Bool.and_eq_true] at q
    exact absurd q.1.2 (by decide)
  show wpAny _ _ (if (((items.size : Nat) : Int) - 1 == 0 && (-1 : Int) == 1 && items.size == items.size) = true then _ else _) _ _ s
  rw [if_neg hno, rev_pick]
  first
    | exact wpAny_bind (m := Builtin.Tuple.tupleExact _) (wpAny_newObj_type (wpAny_pure ⟨_, rfl, wpAny_pure h⟩) htake)
    | exact wpAny_bind (m := Builtin.Tuple.tupleExact _) (wpAny_newObj_type (wpAny_bind (wpAny_pure (wpAny_pure ⟨_, rfl, wpAny_pure h⟩))) htake)
    | exact wpAny_bind (wpAny_bind (m := Builtin.Tuple.tupleExact _) (wpAny_newObj_type (wpAny_pure (wpAny_pure ⟨_, rfl, wpAny_pure h⟩)) htake))
    | exact wpAny_bind (wpAny_bind (m := Builtin.Tuple.tupleExact _) (wpAny_newObj_type (wpAny_pure ⟨_, rfl, wpAny_pure h⟩) htake))
end
def tRevT (K : PySem.W.Frag) (te : TE) : TE := fun σ H Q => te σ H fun x H1 => ∃ a xs, x = .ref a ∧ SqT K H1 a xs ∧ ∀ p, H1 p = none → Q (.ref p) (upd H1 p (.tup xs.reverse))
theorem pe_revT {X : Cx} {e : Expr} {te : TE} {p1 p2 p3 pos : Pos} (he : PE X e te) : PE X (.Subscript e (.Slice none none (some (.UnaryOp .USub (.Constant (.int 1) 0 p1) p2)) p3) pos) (tRevT X.K te) := by
  refine ⟨fun pins s σ H Q I h => ?_⟩
  refine Subscript_ (thn (he.run pins s σ H _ I h) fun v s1 ⟨x, H1, I1, r1, q1⟩ => ?_)
  refine wpAny_Slice ?_
  rw [evalPart_none]
  refine wpAny_pure (wpAny_pure ?_)
  rw [evalPart_some]
  refine thn ((pe_un un_neg pe_int).run pins s1 σ H1 (fun y H2 => y = .int (-1) ∧ H2 = H1) I1 ⟨_, rfl, rfl, rfl⟩) fun u s2 ⟨y, H2, I2, r2, e1, e2⟩ => ?_
  subst e1 e2
  obtain ⟨t, rfl⟩ := r2
  obtain ⟨a, xs, rfl, hx, q⟩ := q1
  cases r1
  have I4 : Inv X pins σ H2 { s2 with heap := s2.heap.push { cls := .type "slice", data := .fields #[.none, .none, .int (-1) t] } } := I2.kept (t' := s2.toks) fun b ob q => Heap.get?_push_of_some _ q
  obtain ⟨its, r, ht, hz⟩ := I4.tuple hx
  show wpAny (model X.prog X.w) X.A (subscriptTail e _ (.ref a) (.ref s2.heap.objs.size)) (EP X pins σ Q) X.xe { s2 with heap := s2.heap.push { cls := .type "slice", data := .fields #[.none, .none, .int (-1) t] } }
  refine tail_any (ops := [.ref a, .ref s2.heap.objs.size]) ht.typeIs PyProof.Rows.slot_tuple_getitem.lookup (getItem_tuple_rev ht (Heap.IsSliceOf.new ..) ?_ (by rw [List.size_toArray, ← r.length]; exact hz)) (by with_unfolding_all rfl)
  refine ⟨.ref _, _, I4.laid (t' := s2.toks) (o := .tup xs.reverse) (fun b ob q => Heap.get?_push_of_some _ q) (Nat.le_refl _) ?_, rfl, q _ (I4.hok.fresh (Nat.le_refl _))⟩
  exact ⟨by rw [List.length_reverse]; exact hz, _, r.reverse, IsTup.new _ _⟩
end Cm
namespace Cm
open PySem PySem.Spec PyProof.Rows L2
section
variable {X : Cx}
theorem _root_.L2.OpR.imp {f : Value → Value → Sem Value} {r r' : R2} (h : OpR X f r) (i : ∀ x y H Q, r' x y H Q → r x y H Q) : OpR X f r' :=
  fun pins s σ H x y v u Q I rx ry q => h pins s σ H x y v u Q I rx ry (i _ _ _ _ q)
/-- t + u, whatever object it is -/
def rCatS (K : PySem.W.Frag) : R2 := fun x y H Q => ∃ a b xs ys, x = .ref a ∧ y = .ref b ∧ SqT K H a xs ∧ SqT K H b ys ∧ xs.length + ys.length ≤ sizeLine ∧ ∀ r H', Same H H' → SqT K H' r (xs ++ ys) → Q (.ref r) H'
theorem op_catS : OpR X (binaryOp .Add) (rCatS X.K) := op_catA.imp fun x y H Q h => by
  obtain ⟨a, b, xs, ys, rfl, rfl, ha, hb, hl, q⟩ := h
  refine ⟨a, b, xs, ys, rfl, rfl, ha, hb, hl, fun e => ?_, fun _ e => ?_, fun _ _ p np => q p _ (Same.new np) (SqT.of upd_same)⟩
  · subst e
    exact q b H (Same.refl _) hb
  · subst e
    exact q a H (Same.refl _) (by rw [List.append_nil]; exact ha)
/-- t[lo:hi], whatever object it is -/
def rSlS (K : PySem.W.Frag) : V → Option Int → Option Int → Hp → VK → Prop := fun x lo hi H Q => ∃ a xs, x = .ref a ∧ SqT K H a xs ∧ ∀ r H', Same H H' → SqT K H' r (cutV xs lo hi) → Q (.ref r) H'
theorem cut_whole {xs : List V} {lo hi : Option Int} (h : HT.sIx xs.length 0 lo = 0 ∧ HT.sIx xs.length xs.length hi = xs.length) : cutV xs lo hi = xs := by
  unfold cutV
  rw [h.1, h.2, List.drop_zero, Nat.sub_zero, List.take_length]
theorem sl_tupS : SlR X (rSlS X.K) := by
  intro pins s σ H x v vl vu lo hi sl Q I rx hs pl pu h
  obtain ⟨a, xs, rfl, ha, q⟩ := h
  refine sl_tupA pins s σ H (.ref a) v vl vu lo hi sl Q I rx hs pl pu ⟨a, xs, rfl, ha, fun e => q a H (Same.refl _) (by rw [cut_whole e]; exact ha), fun _ p np => q p _ (Same.new np) (SqT.of upd_same)⟩
end
end Cm
namespace Cm
open PySem PySem.Spec PyProof.Rows L2
/-! ### defs with one keyword-only parameter and its default -/
/-- a def of n positional parameters and one keyword-only one, by its name; dv the default -/
def DnK (P : Program) (w : World) (K : PySem.W.Frag) (mg : Str → Option Value) (base : Heap) (CX : CXT) (k : Nat) (x : Str) (ps : List Str) (kw : Str) (dv : V) (sp : Sp) : Prop :=
  ∃ (f : Addr) (fd : FuncData), FnOk P w K mg base CX k f fd (ps ++ [kw]) sp ∧ mg x = some (.ref f) ∧ PySem.W.keepIn K (.ref f) = true ∧ KBn K fd (ps ++ [kw]) ps.length [kw] (fun us ws => us ++ ws) (fun vs zs => vs ++ zs) ∧
    (∃ ds, Vals [dv] ds ∧ Binds K fd (ps ++ [kw]) ds) ∧ ∃ oc od osl, K.lookup f = some ⟨oc, od, .func fd, osl⟩
/-- where it stands -/
def AtK (K : PySem.W.Frag) (mg : Str → Option Value) (x : Str) (st : Stmt) (ps : List Str) (kw : Str) (dv : V) : Prop :=
  ∃ (f : Addr) (fd : FuncData), FunD K x x (defArgs st) (defBody st) (defScope st) [] [(kw, dv)] f fd ∧ mg x = some (.ref f) ∧ KBn K fd (ps ++ [kw]) ps.length [kw] (fun us ws => us ++ ws) (fun vs zs => vs ++ zs) ∧ ∃ ds, Vals [dv] ds ∧ Binds K fd (ps ++ [kw]) ds
section
variable {P : Program} {w : World} {K : PySem.W.Frag} {mg : Str → Option Value} {base : Heap}
theorem AtK.ok {x kw : Str} {dv : V} {st : Stmt} {N ps : List Str} {k : Nat} {sp : Sp} (F : AtK K mg x st ps kw dv) (S : FnScope N (ps ++ [kw]) (defScope st)) (len : ∀ vs H Q E, sp vs H Q E → vs.length = (ps ++ [kw]).length)
    (hbody : ∀ (f : Addr) (cdv : Value) (A : Around) (outer : List Env) (s : Shared) (H : Hp) (vs : List V) (Q : VK) (E : XK), Room k (A.deeper (envOfC x (defScope st) s.heap.objs.size f cdv)) → sp vs H Q E →
      ∃ t, PSs (cxOf CX0 P w K mg base N x (defScope st) f cdv A outer s H E).nox (defBody st) t ∧ t { nx := fun _ H' => Q .non H', rt := Q } (start N vs) H) : DnK P w K mg base CX0 (k + 1) x ps kw dv sp := by
  obtain ⟨f, fd, F, hm, hb, hd⟩ := F
  refine ⟨f, fd, F.ok S len fun cdv A outer s H vs Q E hr h => ?_, hm, F.kp, hb, hd, F.look⟩
  obtain ⟨t, h1, h2⟩ := hbody f cdv A outer s H vs Q E hr h
  exact ⟨t, h1.nox, h2⟩
/-- how such a def binds: h0 with the default, h1 with the keyword -/
theorem atK_mk {x kw : Str} {dv : V} {st : Stmt} {ps : List Str} {f : Addr} {fd : FuncData} (F : FunD K x x (defArgs st) (defBody st) (defScope st) [] [(kw, dv)] f fd) (hm : mg x = some (.ref f))
    (h0 : ∀ (D : Addr) (doc pm : Value) (an : Option Addr) (cdv ct : Value) (us ks : List Value), us.length = ps.length → ks.length = 1 →
      KwChain D (([(kw, dv)].map (·.1)).zip ks) (bindArgs (PySem.W.fnOf x x (defArgs st) (defBody st) (defScope st) .none (.ref D) doc pm an cdv ct) ⟨us, []⟩) ((ps ++ [kw]).zip (us ++ ks)))
    (h1 : ∀ (kV doc pm : Value) (an : Option Addr) (cdv ct : Value) (us ws : List Value), us.length = ps.length → ws.length = 1 →
      bindArgs (PySem.W.fnOf x x (defArgs st) (defBody st) (defScope st) .none kV doc pm an cdv ct) ⟨us, [kw].zip ws⟩ = pure ((ps ++ [kw]).zip (us ++ ws))) : AtK K mg x st ps kw dv := by
  refine ⟨f, fd, F, hm, ?_, ?_⟩
  · obtain ⟨oc, od, dV, kV, doc, pm, an, cdv, ct, osl, rfl, lk, hcd, hD, hK⟩ := F.ex
    rcases hD with ⟨_, rfl⟩ | ⟨e, _⟩
    · exact ⟨fun s us ws _ l1 l2 => .of_eq (h1 kV doc pm an cdv ct us ws l1 l2), fun r rz => r.append rz⟩
    · exact absurd rfl e
  · exact F.binds0 (ps := ps ++ [kw]) ps.length (by simp) (by simp) h0
end
section
variable {X : Cx} {k : Nat} {x kw : Str} {dv : V} {ps : List Str} {sp : Sp} {p pos kp : Pos} {e ek : Expr} {es : List Expr} {t : TA} {tk : TE}
/-- f(e, .., kw=ek) -/
def tCallW (n : Nat) (sp : Sp) (t : TA) (tk : TE) : TE := fun σ H Q => t σ H fun vs H1 => tk σ H1 fun z H2 => vs.length = n ∧ [z].length = 1 ∧ sp (vs ++ [z]) H2 Q E0
theorem pe_callW (D : DnK X.prog X.w X.K X.mg X.base CX0 k x ps kw dv sp) (hr : Room k X.A) (ha : PA X (e :: es) t) (hk : PE X ek tk) (hg : Gl X x := by rfl)
    (hall : (backToKw pos (keywordEach [⟨some kw, ek, kp⟩] X.env)).all (·.1.isSome) = true := by rfl) (hks : (backToKw pos (keywordEach [⟨some kw, ek, kp⟩] X.env)).filterMap (·.1) = [kw] := by rfl)
    (hdb : (x == ("__debug__" : Str)) = false := by decide) (he : starEach (e :: es) X.env = (false, eval e X.env) :: starEach es X.env := by rfl)
    (hpl : ((backTo pos (starEach (e :: es) X.env)).any (·.1) || (backToKw pos (keywordEach [⟨some kw, ek, kp⟩] X.env)).any (·.1.isNone)) = false := by rfl) :
    PE X (.Call (.Name x p) (e :: es) [⟨some kw, ek, kp⟩] pos) (tCallW ps.length sp t tk) := by
  obtain ⟨f, fd, F, hm, hkp, hb, _⟩ := D
  have h := pe_callN (p := p) F hr hg hm hkp hb pass0 ha (pk_cons (nm := some kw) (kpos := kp) hk pk_nil) hall hks hdb he hpl
  refine ⟨fun pins s σ H Q I q => h.run pins s σ H Q I ?_⟩
  exact q
theorem pe_callW0 (D : DnK X.prog X.w X.K X.mg X.base CX0 k x [] kw dv sp) (hr : Room k X.A) (hk : PE X ek tk) (hg : Gl X x := by rfl)
    (hall : (backToKw pos (keywordEach [⟨some kw, ek, kp⟩] X.env)).all (·.1.isSome) = true := by rfl) (hks : (backToKw pos (keywordEach [⟨some kw, ek, kp⟩] X.env)).filterMap (·.1) = [kw] := by rfl)
    (hdb : (x == ("__debug__" : Str)) = false := by decide)
    (hpl : ((backTo pos (starEach [] X.env)).any (·.1) || (backToKw pos (keywordEach [⟨some kw, ek, kp⟩] X.env)).any (·.1.isNone)) = false := by rfl) :
    PE X (.Call (.Name x p) [] [⟨some kw, ek, kp⟩] pos) (fun σ H Q => tk σ H fun z H2 => [z].length = 1 ∧ sp [z] H2 Q E0) := by
  obtain ⟨f, fd, F, hm, hkp, hb, _⟩ := D
  refine ⟨fun pins s σ H Q I h => ?_⟩
  refine wpAny_Call_Name_kw (ld_glob I hg hm ?_ hdb)
  refine PySem.W.callWith_KW0 (h₀ := X.base) I.ok.mod.kin hkp hall ?_ hpl
  refine thn ((pk_cons (nm := some kw) (kpos := kp) hk pk_nil).run pos pins s σ H (fun zs H2 => zs.length = 1 ∧ sp zs H2 Q E0) I ?_) fun ws s2 ⟨zs, H2, I2, rz, l2, q2⟩ => ⟨I2.kIn, ?_⟩
  · exact h
  rw [hks]
  exact run_fnN (us := []) (vs := []) F hr hb pass0 I2 .nil rz rfl l2 q2
/-- f() and f(e, ..): the default stands for it -/
theorem pe_callWd0 (D : DnK X.prog X.w X.K X.mg X.base CX0 k x [] kw dv sp) (hr : Room k X.A) (hg : Gl X x := by rfl) (hdb : (x == ("__debug__" : Str)) = false := by decide) :
    PE X (.Call (.Name x p) [] [] pos) (tCall sp [dv] E0 tNil) := by
  obtain ⟨f, fd, F, hm, hkp, _, ⟨ds, hv, hb⟩, _⟩ := D
  exact pe_call0 F hr hg hm hkp hb hv pass0 hdb
theorem pe_callWd (D : DnK X.prog X.w X.K X.mg X.base CX0 k x ps kw dv sp) (hr : Room k X.A) (ha : PA X (e :: es) t) (hg : Gl X x := by rfl) (hdb : (x == ("__debug__" : Str)) = false := by decide)
    (he : starEach (e :: es) X.env = (false, eval e X.env) :: starEach es X.env := by rfl) (hpl : (backTo pos (starEach es X.env)).any (·.1) = false := by rfl) :
    PE X (.Call (.Name x p) (e :: es) [] pos) (tCall sp [dv] E0 t) := by
  obtain ⟨f, fd, F, hm, hkp, _, ⟨ds, hv, hb⟩, _⟩ := D
  exact pe_call F hr hg hm hkp hb hv pass0 ha hdb he hpl
end
end Cm
namespace Cm
open PySem PySem.Spec PyProof.Rows L2
/-! ### the head's facts and one Bool more -/
abbrev AlB : Type := He.AlD × Bool
def obsB (n : Nat) (fa : List He.Fa) (fn : List He.DefD) (ex : PySem.W.Frag → Bool) (g : Addr → Option Obj) : AlB := (He.obsDG n fa fn g, ex (He.frG g (He.asD g n)))
def hookB (n : Nat) (fa : List He.Fa) (fn : List He.DefD) (ex : PySem.W.Frag → Bool) : PySem.W.Hook where
  α := AlB
  obs := fun s => obsB n fa fn ex s.heap.get?
  val := fun _ => (He.valD fn, true)
  says := fun _ h => ∃ K : PySem.W.Frag, K.In h ∧ He.SaysD fa fn K ∧ ex K = true
  of := fun _ _ e => ⟨_, He.frG_in, congrArg (fun z : AlB => z.1) e, congrArg (fun z : AlB => z.2) e⟩
  keeps := fun _ _ _ ⟨K, hK, c⟩ k => ⟨K, PySem.W.Frag.In.keeps hK k, c⟩
theorem obsB_eq {n : Nat} {fa : List He.Fa} {fn : List He.DefD} {ex : PySem.W.Frag → Bool} {g : Addr → Option Obj} {s : Shared} (h : ∀ a, g a = s.heap.get? a) : obsB n fa fn ex g = (hookB n fa fn ex).obs s := by
  have e : g = s.heap.get? := funext h
  rw [e] <;> rfl
end Cm
namespace Cm
open PySem PySem.Spec PyProof.Rows L2
/-! ### a range held by a name, and walked -/
theorem cr_range1 {X : Cx} : CallR X (.type "range") (fun vs H Q => ∃ j, vs = [V.int j] ∧ ∀ p, H p = none → Q (.ref p) (upd H p (.rng 0 j))) := by
  intro pins s σ H vs us Q I r h
  obtain ⟨j, rfl, q⟩ := h
  obtain ⟨u1, rfl, rj⟩ := vals1 r
  obtain ⟨u, rfl⟩ := rj
  refine call_range_1 ⟨.ref s.heap.objs.size, upd H s.heap.objs.size (.rng 0 j), I.laid (fun b o e => Heap.get?_push_of_some _ e) (Nat.le_refl _) ?_, rfl, q _ (I.hok.fresh (Nat.le_refl _))⟩
  exact ⟨_, u, _, Heap.get?_push_size _ rfl⟩
/-- for k in r, r a range that stands in H -/
def iRngV (te : TE) : TI := fun σ H R => te σ H fun x H1 => ∃ (a : Addr) (lo hi : Int), x = .ref a ∧ H1 a = some (.rng lo hi) ∧ (-(2 ^ 62) ≤ lo ∧ lo < 2 ^ 62 ∧ -(2 ^ 62) ≤ hi ∧ hi < 2 ^ 62) ∧ R (Itr lo (hi - lo).toNat) H1
theorem pi_rng {X : Cx} {tg e : Expr} {te : TE} (he : PE X e te) : PI X tg e (iRngV te) := by
  refine ⟨fun pins s σ H R I h => ?_⟩
  refine thn (he.run pins s σ H _ I h) fun v s1 hh => ?_
  obtain ⟨x, H1, I1, r1, a, lo, hi, rfl, ha, ⟨h1, h2, h3, h4⟩, q⟩ := hh
  cases r1
  obtain ⟨t, u, w', hobj⟩ : ∃ t u v, s1.heap.get? a = some { cls := .type "range", data := .fields #[.int lo t, .int hi u, .int 1 v] } := I1.hok a _ ha
  refine wpAny_pyIter_range (show IsRange s1.heap a lo hi 1 t u w' from hobj) (small_one h1 h2 h3 h4) ?_
  refine ⟨s1.heap.objs.size, [s1.heap.objs.size], _, _, H1, rfl, I1.kept (t' := s1.toks) fun b o e => Heap.get?_push_of_some _ e, turn_range _ lo (hi - lo).toNat, ?_, fun b hb => ?_, q⟩
  · have e1 : lo + ((0 : Nat) : Int) * 1 = lo := by simp
    have e2 : (((hi - lo).toNat : Nat) : Int) - ((0 : Nat) : Int) = Builtin.Range.rangeSize lo hi 1 := by rw [rangeSize_one]; split <;> omega
    show IsRangeIter _ _ (lo + ((0 : Nat) : Int) * 1) ((((hi - lo).toNat : Nat) : Int) - ((0 : Nat) : Int)) 1
    rw [e1, e2]
    exact Heap.get?_push_size _ rfl
  · have e : b = s1.heap.objs.size := by simpa using hb
    subst e
    exact I1.fpOk (Nat.le_refl _) (I1.hok.fresh (Nat.le_refl _))
end Cm

set_option Elab.async false
set_option linter.all false
set_option maxRecDepth 100000
set_option maxHeartbeats 4000000
namespace Cm
open PySem PySem.Spec PyProof.Rows L2
theorem hu1 {A : Around} (h : A.units + 64 < cLine) : A.units + 1 < cLine := by omega
theorem Same.low {H H' : Hp} {p : Addr} (s : Same H H') (n : H' p = none) : H p = none := by
  cases h : H p with
  | none => rfl
  | some o => rw [s _ _ h] at n; cases n
/-! ### tests of two parts, what follows said once -/
theorem and_ite {c : Prop} [Decidable c] {b : Bool} {A B X : Prop} (hx : c → (b = true → A) → (b = false → B) → X) (hA : c → b = true → A) (hB : (c → b = false) → B) : if decide c = true then X else B := by
  by_cases h : c
  · rw [decide_eq_true h]
    refine iteT (hx h (hA h) fun e => hB fun _ => e)
  · rw [decide_eq_false h]
    exact iteF (hB fun z => absurd z h)
theorem and_iteI {x y : Int} {b : Bool} {A B X : Prop} (hx : x = y → (b = true → A) → (b = false → B) → X) (hA : x = y → b = true → A) (hB : (x = y → b = false) → B) : if decide (V.int x = V.int y) = true then X else B :=
  and_ite (fun h => hx (V.int.inj h)) (fun h => hA (V.int.inj h)) fun h => hB fun e => h (congrArg V.int e)
/-! ### heaps without one object -/
def cutP (p : Addr) (H : Hp) : Hp := fun a => if a = p then none else H a
theorem cutP_same (p : Addr) (H : Hp) : Same (cutP p H) H := fun b o e => by
  unfold cutP at e
  split at e
  · cases e
  · exact e
theorem cutP_of {p a : Addr} {H : Hp} {o : HO} (e : H a = some o) (n : a ≠ p) : cutP p H a = some o := by
  unfold cutP
  rw [if_neg n]
  exact e
theorem _root_.Cm.Kp.cut {p : Addr} {H H' : Hp} (k : Kp p H H') : Same (cutP p H) (cutP p H') := fun b o e => by
  unfold cutP at e ⊢
  split at e
  · cases e
  · rename_i n
    rw [if_neg n]
    exact k b o e n
theorem Same.cut {p : Addr} {H H' : Hp} (s : Same H H') : Same (cutP p H) (cutP p H') := Kp.cut (Kp.of s)
/-! ### rules whose new object is told by what is known of it -/
section
variable {X : Cx} {es : List Expr} {t : TA} {pos : Pos}
def tTupF (t : TA) : TE := fun σ H Q => t σ H fun xs H1 => xs.length ≤ sizeLine ∧ ∀ p H', H1 p = none → Same H1 H' → H' p = some (.tup xs) → Q (.ref p) H'
def tLstF (t : TA) : TE := fun σ H Q => t σ H fun xs H1 => xs.length ≤ sizeLine ∧ ∀ p H', H1 p = none → Same H1 H' → H' p = some (.lst xs) → Q (.ref p) H'
theorem pe_tupF {x1} (h : PA X es t) : PE X (.Tuple es x1 pos) (tTupF t) := by
  refine ⟨fun pins s σ H Q I hq => ?_⟩
  refine wpAny_Tuple_spliced (thn (h.run pos pins s σ H _ I hq) fun us s1 ⟨xs, H1, I1, r, z, q⟩ => ⟨by rw [← r.length]; exact z, ?_⟩)
  have hf : H1 s1.heap.objs.size = none := I1.hok.fresh (Nat.le_refl _)
  refine ⟨.ref s1.heap.objs.size, upd H1 s1.heap.objs.size (.tup xs), I1.laid (t' := s1.toks) (fun b u e => Heap.get?_push_of_some _ e) (Nat.le_refl _) ?_, rfl, q _ _ hf (Same.new hf) upd_same⟩
  exact ⟨z, us, r, ⟨_, Heap.get?_push_size _ rfl, rfl, _, rfl⟩⟩
theorem pe_lstF (h : PA X es t) : PE X (.List es pos) (tLstF t) := by
  refine ⟨fun pins s σ H Q I hq => ?_⟩
  refine wpAny_List_spliced (thn (h.run pos pins s σ H _ I hq) fun us s1 ⟨xs, H1, I1, r, z, q⟩ => ⟨by rw [← r.length]; exact z, ?_⟩)
  have hf : H1 s1.heap.objs.size = none := I1.hok.fresh (Nat.le_refl _)
  refine ⟨.ref s1.heap.objs.size, upd H1 s1.heap.objs.size (.lst xs), I1.laid (t' := s1.toks) (fun b u e => Heap.get?_push_of_some _ e) (Nat.le_refl _) ?_, rfl, q _ _ hf (Same.new hf) upd_same⟩
  exact ⟨z, us, 0, r, Heap.get?_push_size _ rfl⟩
def rCatF : R2 := fun x y H Q => ∃ l b xs zs, x = .ref l ∧ y = .ref b ∧ H l = some (.lst xs) ∧ H b = some (.lst zs) ∧ xs.length + zs.length ≤ sizeLine ∧ ∀ p H', H p = none → Same H H' → H' p = some (.lst (xs ++ zs)) → Q (.ref p) H'
theorem op_catF : OpR X (binaryOp .Add) rCatF := op_cat.imp fun x y H Q h => by
  obtain ⟨l, b, xs, zs, rfl, rfl, h1, h2, h3, q⟩ := h
  exact ⟨l, b, xs, zs, rfl, rfl, h1, h2, h3, fun p np => q p _ np (Same.new np) upd_same⟩
def rRepF : R2 := fun x y H Q => ∃ l k xs, x = .ref l ∧ y = .int k ∧ H l = some (.lst xs) ∧ -(2 ^ 63) ≤ k ∧ k < 2 ^ 63 ∧ xs.length * k.toNat ≤ sizeLine ∧
  ∀ p H', H p = none → Same H H' → H' p = some (.lst (List.replicate k.toNat xs).flatten) → Q (.ref p) H'
theorem op_repF : OpR X (binaryOp .Mult) rRepF := op_rep.imp fun x y H Q h => by
  obtain ⟨l, k, xs, rfl, rfl, h1, h2, h3, h4, q⟩ := h
  exact ⟨l, k, xs, rfl, rfl, h1, h2, h3, h4, fun p np => q p _ np (Same.new np) upd_same⟩
def rSlLF (K : PySem.W.Frag) : V → Option Int → Option Int → Hp → VK → Prop := fun x lo hi H Q => ∃ a xs, x = .ref a ∧ SqL K H a xs ∧ ∀ p H', H p = none → Same H H' → H' p = some (.lst (cutV xs lo hi)) → Q (.ref p) H'
theorem sl_listF : SlR X (rSlLF X.K) := by
  intro pins s σ H x v vl vu lo hi sl Q I rx hs pl pu h
  obtain ⟨a, xs, rfl, ha, q⟩ := h
  exact sl_list pins s σ H (.ref a) v vl vu lo hi sl Q I rx hs pl pu ⟨a, xs, rfl, ha, fun p np => q p _ np (Same.new np) upd_same⟩
def rListF (K : PySem.W.Frag) : List V → Hp → VK → Prop := fun xs H Q => ∃ p ys, xs = [.ref p] ∧ (SqL K H p ys ∨ SqT K H p ys) ∧ ∀ l H', H l = none → Same H H' → H' l = some (.lst ys) → Q (.ref l) H'
theorem call_listF : CallR X (.type "list") (rListF X.K) := by
  intro pins s σ H xs us Q I r h
  obtain ⟨p, ys, rfl, hq, q⟩ := h
  exact call_list_of pins s σ H [.ref p] us Q I r ⟨p, ys, rfl, hq, fun l nl => q l _ nl (Same.new nl) upd_same⟩
def rTupleF (K : PySem.W.Frag) : List V → Hp → VK → Prop := fun xs H Q => ∃ p ys, xs = [.ref p] ∧ ((SqL K H p ys ∧ ∀ l H', H l = none → Same H H' → H' l = some (.tup ys) → Q (.ref l) H') ∨ (SqT K H p ys ∧ Q (.ref p) H))
theorem call_tupleF : CallR X (.type "tuple") (rTupleF X.K) := by
  intro pins s σ H xs us Q I r h
  obtain ⟨p, ys, rfl, hq⟩ := h
  refine call_tuple_of pins s σ H [.ref p] us Q I r ⟨p, ys, rfl, ?_⟩
  rcases hq with ⟨hq, q⟩ | hq
  · exact .inl ⟨hq, fun l nl => q l _ nl (Same.new nl) upd_same⟩
  · exact .inr hq
def rListDF : List V → Hp → VK → Prop := fun xs H Q => ∃ p kvs, xs = [.ref p] ∧ H p = some (.dK kvs) ∧ ∀ l H', H l = none → Same H H' → H' l = some (.lst (kvs.map fun kv => kV kv.1)) → Q (.ref l) H'
theorem call_listDF (hc : X.calm = true) : CallR X (.type "list") rListDF := by
  intro pins s σ H xs us Q I r h
  obtain ⟨p, kvs, rfl, hq, q⟩ := h
  exact call_list_dK hc pins s σ H [.ref p] us Q I r ⟨p, kvs, rfl, hq, fun l nl => q l _ nl (Same.new nl) upd_same⟩
def tDNewF : TE := fun _ H Q => ∀ p H', H p = none → Same H H' → H' p = some (.dK []) → Q (.ref p) H'
theorem pe_dnewF : PE X (.Dict [] [] pos) tDNewF := ⟨fun pins s σ H Q I h => pe_dnewK.run pins s σ H Q I fun p np => h p _ np (Same.new np) upd_same⟩
/-- != of data, or of two dicts that are one -/
theorem op_neAny (hu : X.A.units + 64 < cLine) : OpR X (compareOp .NotEq) (fun x y H Q => rNeD X.K x y H Q ∨ rNeDA x y H Q) := (op_neD hu).or (op_ne_dictA (by omega))
end
/-! ### defs with one keyword-only parameter without a default -/
def DnN (P : Program) (w : World) (K : PySem.W.Frag) (mg : Str → Option Value) (base : Heap) (CX : CXT) (k : Nat) (x : Str) (ps : List Str) (kw : Str) (sp : Sp) : Prop :=
  ∃ (f : Addr) (fd : FuncData), FnOk P w K mg base CX k f fd (ps ++ [kw]) sp ∧ mg x = some (.ref f) ∧ PySem.W.keepIn K (.ref f) = true ∧ KBn K fd (ps ++ [kw]) ps.length [kw] (fun us ws => us ++ ws) (fun vs zs => vs ++ zs) ∧ ∃ oc od osl, K.lookup f = some ⟨oc, od, .func fd, osl⟩
def AtN (K : PySem.W.Frag) (mg : Str → Option Value) (x : Str) (st : Stmt) (ps : List Str) (kw : Str) : Prop :=
  ∃ (f : Addr) (fd : FuncData), FunD K x x (defArgs st) (defBody st) (defScope st) [] [] f fd ∧ mg x = some (.ref f) ∧ KBn K fd (ps ++ [kw]) ps.length [kw] (fun us ws => us ++ ws) (fun vs zs => vs ++ zs)
section
variable {P : Program} {w : World} {K : PySem.W.Frag} {mg : Str → Option Value} {base : Heap}
theorem AtN.ok {x kw : Str} {st : Stmt} {N ps : List Str} {k : Nat} {sp : Sp} (F : AtN K mg x st ps kw) (S : FnScope N (ps ++ [kw]) (defScope st)) (len : ∀ vs H Q E, sp vs H Q E → vs.length = (ps ++ [kw]).length)
    (hbody : ∀ (f : Addr) (cdv : Value) (A : Around) (outer : List Env) (s : Shared) (H : Hp) (vs : List V) (Q : VK) (E : XK), Room k (A.deeper (envOfC x (defScope st) s.heap.objs.size f cdv)) → sp vs H Q E →
      ∃ t, PSs (cxOf CX0 P w K mg base N x (defScope st) f cdv A outer s H E).nox (defBody st) t ∧ t { nx := fun _ H' => Q .non H', rt := Q } (start N vs) H) : DnN P w K mg base CX0 (k + 1) x ps kw sp := by
  obtain ⟨f, fd, F, hm, hb⟩ := F
  refine ⟨f, fd, F.ok S len fun cdv A outer s H vs Q E hr h => ?_, hm, F.kp, hb, F.look⟩
  obtain ⟨t, h1, h2⟩ := hbody f cdv A outer s H vs Q E hr h
  exact ⟨t, h1.nox, h2⟩
theorem atN_mk {x kw : Str} {st : Stmt} {ps : List Str} {f : Addr} {fd : FuncData} (F : FunD K x x (defArgs st) (defBody st) (defScope st) [] [] f fd) (hm : mg x = some (.ref f))
    (h1 : ∀ (kV doc pm : Value) (an : Option Addr) (cdv ct : Value) (us ws : List Value), us.length = ps.length → ws.length = 1 →
      bindArgs (PySem.W.fnOf x x (defArgs st) (defBody st) (defScope st) .none kV doc pm an cdv ct) ⟨us, [kw].zip ws⟩ = pure ((ps ++ [kw]).zip (us ++ ws))) : AtN K mg x st ps kw := by
  refine ⟨f, fd, F, hm, ?_⟩
  obtain ⟨oc, od, dV, kV, doc, pm, an, cdv, ct, osl, rfl, lk, hcd, hD, hK⟩ := F.ex
  rcases hD with ⟨_, rfl⟩ | ⟨e, _⟩
  · exact ⟨fun s us ws _ l1 l2 => .of_eq (h1 kV doc pm an cdv ct us ws l1 l2), fun r rz => r.append rz⟩
  · exact absurd rfl e
end
section
variable {X : Cx} {k : Nat} {x kw : Str} {ps : List Str} {sp : Sp} {p pos kp : Pos} {e ek : Expr} {es : List Expr} {t : TA} {tk : TE}
theorem pe_callV (D : DnN X.prog X.w X.K X.mg X.base CX0 k x ps kw sp) (hr : Room k X.A) (ha : PA X (e :: es) t) (hk : PE X ek tk) (hg : Gl X x := by rfl)
    (hall : (backToKw pos (keywordEach [⟨some kw, ek, kp⟩] X.env)).all (·.1.isSome) = true := by rfl) (hks : (backToKw pos (keywordEach [⟨some kw, ek, kp⟩] X.env)).filterMap (·.1) = [kw] := by rfl)
    (hdb : (x == ("__debug__" : Str)) = false := by decide) (he : starEach (e :: es) X.env = (false, eval e X.env) :: starEach es X.env := by rfl)
    (hpl : ((backTo pos (starEach (e :: es) X.env)).any (·.1) || (backToKw pos (keywordEach [⟨some kw, ek, kp⟩] X.env)).any (·.1.isNone)) = false := by rfl) :
    PE X (.Call (.Name x p) (e :: es) [⟨some kw, ek, kp⟩] pos) (tCallW ps.length sp t tk) := by
  obtain ⟨f, fd, F, hm, hkp, hb, _⟩ := D
  have h := pe_callN (p := p) F hr hg hm hkp hb pass0 ha (pk_cons (nm := some kw) (kpos := kp) hk pk_nil) hall hks hdb he hpl
  refine ⟨fun pins s σ H Q I q => h.run pins s σ H Q I ?_⟩
  exact q
theorem pe_callV0 (D : DnN X.prog X.w X.K X.mg X.base CX0 k x [] kw sp) (hr : Room k X.A) (hk : PE X ek tk) (hg : Gl X x := by rfl)
    (hall : (backToKw pos (keywordEach [⟨some kw, ek, kp⟩] X.env)).all (·.1.isSome) = true := by rfl) (hks : (backToKw pos (keywordEach [⟨some kw, ek, kp⟩] X.env)).filterMap (·.1) = [kw] := by rfl)
    (hdb : (x == ("__debug__" : Str)) = false := by decide)
    (hpl : ((backTo pos (starEach [] X.env)).any (·.1) || (backToKw pos (keywordEach [⟨some kw, ek, kp⟩] X.env)).any (·.1.isNone)) = false := by rfl) :
    PE X (.Call (.Name x p) [] [⟨some kw, ek, kp⟩] pos) (fun σ H Q => tk σ H fun z H2 => [z].length = 1 ∧ sp [z] H2 Q E0) := by
  obtain ⟨f, fd, F, hm, hkp, hb, _⟩ := D
  refine ⟨fun pins s σ H Q I h => ?_⟩
  refine wpAny_Call_Name_kw (ld_glob I hg hm ?_ hdb)
  refine PySem.W.callWith_KW0 (h₀ := X.base) I.ok.mod.kin hkp hall ?_ hpl
  refine thn ((pk_cons (nm := some kw) (kpos := kp) hk pk_nil).run pos pins s σ H (fun zs H2 => zs.length = 1 ∧ sp zs H2 Q E0) I ?_) fun ws s2 ⟨zs, H2, I2, rz, l2, q2⟩ => ⟨I2.kIn, ?_⟩
  · exact h
  rw [hks]
  exact run_fnN (us := []) (vs := []) F hr hb pass0 I2 .nil rz rfl l2 q2
end
theorem pi_listK {X : Cx} (K : PySem.W.Frag) {tg e : Expr} {te : TE} (he : PE X e te) (hK : X.K = K := by rfl) : PI X tg e (iList K te) := by
  subst hK
  exact pi_list he
end Cm

set_option Elab.async false
set_option linter.all false
set_option maxRecDepth 100000
set_option maxHeartbeats 4000000
namespace Cm
open PySem PySem.Spec PyProof.Rows L2
/-- a list of lists of ints, each a list of its own -/
structure Mat (H : Hp) (r : Addr) (as : List Addr) (rows : List (List Int)) : Prop where
  hd : H r = some (.lst (as.map V.ref))
  nd : (r :: as).Nodup
  len : as.length = rows.length
  get : ∀ (i : Nat) (a : Addr) (row : List Int), as[i]? = some a → rows[i]? = some row → H a = some (.lst (row.map V.int))
theorem Mat.nil {H : Hp} {r : Addr} (h : H r = some (.lst [])) : Mat H r [] [] := ⟨h, by simp, rfl, fun i a row e => by simp at e⟩
theorem Mat.in {H : Hp} {r : Addr} {as : List Addr} {rows : List (List Int)} (M : Mat H r as rows) {a : Addr} (h : a ∈ as) : ∃ o, H a = some o := by
  obtain ⟨i, hi, e⟩ := List.mem_iff_getElem.mp h
  have hi2 : i < rows.length := by rw [← M.len]; exact hi
  exact ⟨_, M.get i a rows[i] (by rw [List.getElem?_eq_getElem hi, e]) (by rw [List.getElem?_eq_getElem hi2])⟩
theorem Mat.same {H H' : Hp} {r : Addr} {as : List Addr} {rows : List (List Int)} (M : Mat H r as rows) (s : Same H H') : Mat H' r as rows := ⟨s _ _ M.hd, M.nd, M.len, fun i a row e1 e2 => s _ _ (M.get i a row e1 e2)⟩
theorem Mat.snoc {H H4 : Hp} {r d : Addr} {as : List Addr} {rows : List (List Int)} {row : List Int} (M : Mat H r as rows) (s : Same H H4) (nd : H d = none) (ed : H4 d = some (.lst (row.map V.int))) :
    Mat (upd H4 r (.lst (as.map V.ref ++ [V.ref d]))) r (as ++ [d]) (rows ++ [row]) := by
  have dr : d ≠ r := fun e => by rw [e] at nd; rw [M.hd] at nd; cases nd
  have da : d ∉ as := fun h => by obtain ⟨o, e⟩ := M.in h; rw [nd] at e; cases e
  have hn := List.nodup_cons.mp M.nd
  refine ⟨by rw [upd_same, List.map_append]; rfl, ?_, by rw [List.length_append, List.length_append, M.len]; rfl, fun i a rw' e1 e2 => ?_⟩
  · refine List.nodup_cons.mpr ⟨fun h => ?_, ?_⟩
    · rcases List.mem_append.mp h with h | h
      · exact hn.1 h
      · exact dr (List.mem_singleton.mp h).symm
    · refine List.nodup_append.mpr ⟨hn.2, by simp, fun x hx y hy e => ?_⟩
      rw [List.mem_singleton.mp hy] at e
      exact da (e ▸ hx)
  · by_cases hi : i < as.length
    · rw [List.getElem?_append_left hi] at e1
      rw [List.getElem?_append_left (by rw [← M.len]; exact hi)] at e2
      have ha : a ∈ as := List.mem_of_getElem? e1
      have : a ≠ r := fun e => hn.1 (e ▸ ha)
      rw [upd_ne this]
      exact s _ _ (M.get i a rw' e1 e2)
    · have hi' : as.length ≤ i := by omega
      rw [List.getElem?_append_right hi'] at e1
      rw [List.getElem?_append_right (by rw [← M.len]; exact hi'), ← M.len] at e2
      have i0 : i - as.length = 0 := by
        cases h : i - as.length with
        | zero => rfl
        | succ n => rw [h] at e1; simp at e1
      rw [i0] at e1 e2
      simp at e1 e2
      rw [← e1, ← e2, upd_ne dr]
      exact ed
theorem Mat.kp {H H' : Hp} {r p : Addr} {as : List Addr} {rows : List (List Int)} (M : Mat H r as rows) (k : Kp p H H') (n : ∀ c ∈ r :: as, c ≠ p) : Mat H' r as rows :=
  ⟨k _ _ M.hd (n _ (List.mem_cons_self ..)), M.nd, M.len, fun i a row e1 e2 => k _ _ (M.get i a row e1 e2) (n _ (List.mem_cons_of_mem _ (List.mem_of_getElem? e1)))⟩
theorem Mat.put {H : Hp} {r : Addr} {as : List Addr} {rows : List (List Int)} (M : Mat H r as rows) {i : Nat} {a : Addr} (e : as[i]? = some a) (row : List Int) : Mat (upd H a (.lst (row.map V.int))) r as (rows.set i row) := by
  have hn := List.nodup_cons.mp M.nd
  have ha : a ∈ as := List.mem_of_getElem? e
  refine ⟨by rw [upd_ne (show r ≠ a from fun z => hn.1 (z ▸ ha))]; exact M.hd, M.nd, by rw [List.length_set]; exact M.len, fun j b rw' e1 e2 => ?_⟩
  by_cases h : j = i
  · subst h
    rw [e] at e1
    cases e1
    have hl : j < rows.length := by rw [← M.len]; exact (List.getElem?_eq_some_iff.mp e).1
    rw [List.getElem?_set_self hl] at e2
    cases e2
    exact upd_same
  · rw [List.getElem?_set_ne (Ne.symm h)] at e2
    have ba : b ≠ a := fun z => by
      rw [z] at e1
      obtain ⟨q1, q2⟩ := List.getElem?_eq_some_iff.mp e1
      obtain ⟨q3, q4⟩ := List.getElem?_eq_some_iff.mp e
      exact h ((List.getElem_inj (h₀ := q1) (h₁ := q3) hn.2).mp (q2.trans q4.symm))
    rw [upd_ne ba]
    exact M.get j b rw' e1 e2
/-! ### comprehensions whose members are new lists of ints -/
section
variable {J : It} {n : Nat} {G : Hp → Prop} {Y : Nat → Hp → V → Hp → Prop}
theorem lc_rows (w : Walk J n G Y) {g : TG} {tt : TT} {te : TE} {vs : List Nat} {σ : L2.St} {H1 : Hp} {D : Addr} {Qd : Hp → Prop} (rows : Nat → List Int) (hD : H1 D = none) (hn : n < sizeLine) (hG : ∀ H, Same H1 H → G H)
    (hs : ∀ i x H H' (R : V → Hp → Prop) (R' : Hp → Prop), i < n → Same H1 H → Y i H x H' → (∀ d H4, Same H H4 → H d = none → H4 d = some (.lst ((rows i).map V.int)) → R (.ref d) H4) → g x (wipe σ vs) H' fun σ2 H2 => wipe σ2 vs = wipe σ vs ∧ tt σ2 H2 fun b H3 => if b = true then te σ2 H3 R else R' H3)
    (hd : ∀ H as, Same H1 H → Mat H D as ((List.range n).map rows) → (∀ b ∈ as, H1 b = none) → Qd H) :
    ∃ W : Nat → Nat → Hp → Prop, (∃ m, W 0 m (upd H1 D (.lst []))) ∧ ∀ i m H, W i m H →
      (J.stop i H ∧ Qd H) ∨ (J.go i H ∧ ∃ Nx : Hp → Prop, (∀ H', Nx H' → ∃ m', m' < m ∧ W (i + 1) m' H') ∧ ∀ x H', J.yld i H x H' → g x (wipe σ vs) H' fun σ2 H2 => wipe σ2 vs = wipe σ vs ∧ tt σ2 H2 fun b H3 =>
        if b = true then te σ2 H3 fun y H4 => ∃ acc, H4 D = some (.lst acc) ∧ acc.length < sizeLine ∧ Nx (upd H4 D (.lst (acc ++ [y]))) else Nx H3) := by
  refine lc_it w (fun i H => Same H1 H ∧ ∃ as, Mat H D as ((List.range i).map rows) ∧ ∀ b ∈ as, H1 b = none) ⟨Same.new hD, [], Mat.nil upd_same, fun _ h => by cases h⟩ (fun i H _ p => hG H p.1) ?_ (fun H ⟨p1, as, p2, p3⟩ => hd H as p1 p2 p3)
  intro i x H H' hi p y
  obtain ⟨p1, as, p2, p3⟩ := p
  refine hs i x H H' _ _ hi p1 y fun d H4 s4 nd ed => ?_
  have al : as.length = i := by rw [p2.len, List.length_map, List.length_range]
  refine ⟨_, s4 _ _ p2.hd, by rw [List.length_map, al]; omega, fun b o e => ?_, as ++ [d], ?_, fun b hb => ?_⟩
  · rw [upd_ne (ne_of_none e hD)]
    exact s4 _ _ (p1 _ _ e)
  · rw [List.range_succ, List.map_append]
    exact p2.snoc s4 nd ed
  · rcases List.mem_append.mp hb with hb | hb
    · exact p3 b hb
    · rw [List.mem_singleton.mp hb]
      exact Same.low p1 nd
end
/-! ### dict comprehensions -/
section
variable {J : It} {n : Nat} {G : Hp → Prop} {Y : Nat → Hp → V → Hp → Prop}
theorem dc_it (w : Walk J n G Y) {g : TG} {tt : TT} {tk tv : TE} {vs : List Nat} {σ : L2.St} {H1 : Hp} {D : Addr} {Qd : Hp → Prop} (Pv : Nat → Hp → Prop) (h0 : Pv 0 (upd H1 D (.dK []))) (hG : ∀ i H, i ≤ n → Pv i H → G H)
    (hs : ∀ i x H H', i < n → Pv i H → Y i H x H' → g x (wipe σ vs) H' fun σ2 H2 => wipe σ2 vs = wipe σ vs ∧ tt σ2 H2 fun b H3 =>
      if b = true then tk σ2 H3 fun y H4 => tv σ2 H4 fun z H5 => ∃ kvs k, y = kV k ∧ H5 D = some (.dK kvs) ∧ kvs.length < sizeLine ∧ Pv (i + 1) (upd H5 D (.dK (putK kvs k z))) else Pv (i + 1) H3) (hd : ∀ H, Pv n H → Qd H) :
    ∃ W : Nat → Nat → Hp → Prop, (∃ m, W 0 m (upd H1 D (.dK []))) ∧ ∀ i m H, W i m H →
      (J.stop i H ∧ Qd H) ∨ (J.go i H ∧ ∃ Nx : Hp → Prop, (∀ H', Nx H' → ∃ m', m' < m ∧ W (i + 1) m' H') ∧ ∀ x H', J.yld i H x H' → g x (wipe σ vs) H' fun σ2 H2 => wipe σ2 vs = wipe σ vs ∧ tt σ2 H2 fun b H3 =>
        if b = true then tk σ2 H3 fun y H4 => tv σ2 H4 fun z H5 => ∃ kvs k, y = kV k ∧ H5 D = some (.dK kvs) ∧ kvs.length < sizeLine ∧ Nx (upd H5 D (.dK (putK kvs k z))) else Nx H3) := by
  refine ⟨fun i m H => m = n - i ∧ i ≤ n ∧ Pv i H, ⟨n, by simp, Nat.zero_le _, h0⟩, ?_⟩
  rintro i m H ⟨rfl, hi, p⟩
  have q := hG i H hi p
  by_cases hlt : i < n
  · refine .inr ⟨w.goes i H hlt q, Pv (i + 1), fun H' p' => ⟨n - (i + 1), by omega, rfl, hlt, p'⟩, fun x H' y => hs i x H H' hlt p (w.yields i H x H' hlt q y)⟩
  · have e : i = n := by omega
    subst e
    exact .inl ⟨w.stops H q, hd H p⟩
/-- of keys that are all unlike, and values that are known -/
theorem dc_map (w : Walk J n G Y) {g : TG} {tt : TT} {tk tv : TE} {vs : List Nat} {σ : L2.St} {H1 : Hp} {D : Addr} {Qd : Hp → Prop} (kf : Nat → Key) (vf : Nat → V) (hk : ∀ i j, i < j → j < n → kf i ≠ kf j) (hD : H1 D = none) (hn : n < sizeLine) (hG : ∀ H, Same H1 H → G H)
    (hs : ∀ i x H H' (R : V → V → Hp → Prop) (R' : Hp → Prop), i < n → Same H1 H → Y i H x H' → (∀ H4, Same H H4 → R (kV (kf i)) (vf i) H4) → g x (wipe σ vs) H' fun σ2 H2 => wipe σ2 vs = wipe σ vs ∧ tt σ2 H2 fun b H3 => if b = true then tk σ2 H3 fun y H4 => tv σ2 H4 (R y) else R' H3)
    (hd : ∀ H, Same H1 H → H D = some (.dK ((List.range n).map fun i => (kf i, vf i))) → Qd H) :
    ∃ W : Nat → Nat → Hp → Prop, (∃ m, W 0 m (upd H1 D (.dK []))) ∧ ∀ i m H, W i m H →
      (J.stop i H ∧ Qd H) ∨ (J.go i H ∧ ∃ Nx : Hp → Prop, (∀ H', Nx H' → ∃ m', m' < m ∧ W (i + 1) m' H') ∧ ∀ x H', J.yld i H x H' → g x (wipe σ vs) H' fun σ2 H2 => wipe σ2 vs = wipe σ vs ∧ tt σ2 H2 fun b H3 =>
        if b = true then tk σ2 H3 fun y H4 => tv σ2 H4 fun z H5 => ∃ kvs k, y = kV k ∧ H5 D = some (.dK kvs) ∧ kvs.length < sizeLine ∧ Nx (upd H5 D (.dK (putK kvs k z))) else Nx H3) := by
  refine dc_it w (fun i H => Same H1 H ∧ H D = some (.dK ((List.range i).map fun i => (kf i, vf i)))) ⟨Same.new hD, upd_same⟩ (fun i H _ p => hG H p.1) ?_ (fun H p => hd H p.1 p.2)
  intro i x H H' hi p y
  refine hs i x H H' (fun y z H5 => ∃ kvs k, y = kV k ∧ H5 D = some (.dK kvs) ∧ kvs.length < sizeLine ∧ (Same H1 (upd H5 D (.dK (putK kvs k z))) ∧ upd H5 D (.dK (putK kvs k z)) D = some (.dK ((List.range (i + 1)).map fun i => (kf i, vf i))))) _ hi p.1 y fun H4 s4 => ?_
  refine ⟨_, _, rfl, s4 _ _ p.2, by rw [List.length_map, List.length_range]; omega, fun b o e => ?_, ?_⟩
  · rw [upd_ne (ne_of_none e hD)]
    exact s4 _ _ (p.1 _ _ e)
  · rw [upd_same, putK_new, List.range_succ, List.map_append]
    · rfl
    · have : ∀ m, m ≤ i → valV ((List.range m).map fun i => (kf i, vf i)) (kf i) = none := fun m => by
        induction m with
        | zero => intro _; rfl
        | succ m ih =>
          intro hm
          rw [List.range_succ, List.map_append]
          show valV (((List.range m).map fun i => (kf i, vf i)) ++ [(kf m, vf m)]) (kf i) = none
          have h0 : valV ((List.range m).map fun i => (kf i, vf i)) (kf m) = none := by
            have : ∀ q, q ≤ m → valV ((List.range q).map fun i => (kf i, vf i)) (kf m) = none := fun q => by
              induction q with
              | zero => intro _; rfl
              | succ q ihq =>
                intro hq
                have e1 : ((List.range (q + 1)).map fun i => (kf i, vf i)) = ((List.range q).map fun i => (kf i, vf i)) ++ [(kf q, vf q)] := by rw [List.range_succ, List.map_append]; rfl
                unfold valV
                rw [e1, List.find?_append]
                have := ihq (by omega)
                unfold valV at this
                rw [Option.map_eq_none_iff] at this
                rw [this]
                simp [hk q m (by omega) (by omega)]
            exact this m (Nat.le_refl _)
          rw [valV_snoc _ _ _ _ h0, if_neg (fun e => hk m i (by omega) hi e.symm)]
          exact ih (by omega)
      exact this i (Nat.le_refl _)
end
theorem valV_none {kvs : List (Key × V)} {k : Key} (h : ∀ p ∈ kvs, p.1 ≠ k) : valV kvs k = none := by
  unfold valV
  rw [Option.map_eq_none_iff, List.find?_eq_none]
  intro p hp
  simpa using h p hp
theorem valV_range {n : Nat} {kf : Nat → Key} {vf : Nat → V} (hk : ∀ i j, i < j → j < n → kf i ≠ kf j) : ∀ {m j : Nat}, m ≤ n → j < m → valV ((List.range m).map fun i => (kf i, vf i)) (kf j) = some (vf j)
  | 0, j, _, h => absurd h (by omega)
  | m + 1, j, hm, hj => by
    have e1 : ((List.range (m + 1)).map fun i => (kf i, vf i)) = ((List.range m).map fun i => (kf i, vf i)) ++ [(kf m, vf m)] := by rw [List.range_succ, List.map_append]; rfl
    rw [e1]
    have h0 : valV ((List.range m).map fun i => (kf i, vf i)) (kf m) = none := valV_none fun p hp => by
      obtain ⟨i, hi, rfl⟩ := List.mem_map.mp hp
      exact hk i m (List.mem_range.mp hi) (by omega)
    rw [valV_snoc _ _ _ _ h0]
    by_cases e : j = m
    · subst e
      rw [if_pos rfl]
    · rw [if_neg (hk j m (by omega) (by omega))]
      exact valV_range hk (by omega) (by omega)
/-! ### a dict of lists of ints, by places from 0 -/
def pairsD (as : List Addr) : List (Key × V) := (List.range as.length).map fun (i : Nat) => (Sum.inl (i : Int), V.ref (as.getD i default))
theorem inl_ne {i j : Nat} (h : i < j) : (Sum.inl (i : Int) : Key) ≠ Sum.inl (j : Int) := fun e => by
  have := Sum.inl.inj e
  omega
theorem pairsD_at {as : List Addr} {i : Nat} {a : Addr} (h : as[i]? = some a) : valV (pairsD as) (Sum.inl (i : Int)) = some (.ref a) := by
  have hi := (List.getElem?_eq_some_iff.mp h).1
  have := valV_range (n := as.length) (kf := fun i => Sum.inl (i : Int)) (vf := fun i => V.ref (as.getD i default)) (fun i j h _ => inl_ne h) (Nat.le_refl _) hi
  unfold pairsD
  rw [this, List.getD_eq_getElem?_getD, h]
  rfl
structure DMat (H : Hp) (r : Addr) (as : List Addr) (rows : List (List Int)) : Prop where
  hd : H r = some (.dK (pairsD as))
  nd : (r :: as).Nodup
  len : as.length = rows.length
  get : ∀ (i : Nat) (a : Addr) (row : List Int), as[i]? = some a → rows[i]? = some row → H a = some (.lst (row.map V.int))
theorem DMat.same {H H' : Hp} {r : Addr} {as : List Addr} {rows : List (List Int)} (M : DMat H r as rows) (s : Same H H') : DMat H' r as rows := ⟨s _ _ M.hd, M.nd, M.len, fun i a row e1 e2 => s _ _ (M.get i a row e1 e2)⟩
theorem DMat.in {H : Hp} {r : Addr} {as : List Addr} {rows : List (List Int)} (M : DMat H r as rows) {a : Addr} (h : a ∈ as) : ∃ o, H a = some o := by
  obtain ⟨i, hi, e⟩ := List.mem_iff_getElem.mp h
  have hi2 : i < rows.length := by rw [← M.len]; exact hi
  exact ⟨_, M.get i a rows[i] (by rw [List.getElem?_eq_getElem hi, e]) (by rw [List.getElem?_eq_getElem hi2])⟩
theorem pairsD_snoc (as : List Addr) (d : Addr) : putK (pairsD as) (Sum.inl (as.length : Int)) (.ref d) = pairsD (as ++ [d]) := by
  rw [putK_new]
  · unfold pairsD
    rw [List.length_append, List.length_singleton, List.range_succ, List.map_append]
    congr 1
    · refine List.map_congr_left fun i hi => ?_
      rw [List.getD_eq_getElem?_getD, List.getD_eq_getElem?_getD, List.getElem?_append_left (List.mem_range.mp hi)]
    · simp [List.getD]
  · refine valV_none fun p hp => ?_
    obtain ⟨i, hi, rfl⟩ := List.mem_map.mp hp
    exact inl_ne (List.mem_range.mp hi)
theorem DMat.snoc {H H4 : Hp} {r d : Addr} {as : List Addr} {rows : List (List Int)} {row : List Int} (M : DMat H r as rows) (s : Same H H4) (nd : H d = none) (ed : H4 d = some (.lst (row.map V.int))) :
    DMat (upd H4 r (.dK (putK (pairsD as) (Sum.inl (as.length : Int)) (.ref d)))) r (as ++ [d]) (rows ++ [row]) := by
  have dr : d ≠ r := fun e => by rw [e] at nd; rw [M.hd] at nd; cases nd
  have da : d ∉ as := fun h => by obtain ⟨o, e⟩ := M.in h; rw [nd] at e; cases e
  have hn := List.nodup_cons.mp M.nd
  refine ⟨by rw [upd_same, pairsD_snoc], ?_, by rw [List.length_append, List.length_append, M.len]; rfl, fun i a rw' e1 e2 => ?_⟩
  · refine List.nodup_cons.mpr ⟨fun h => ?_, ?_⟩
    · rcases List.mem_append.mp h with h | h
      · exact hn.1 h
      · exact dr (List.mem_singleton.mp h).symm
    · refine List.nodup_append.mpr ⟨hn.2, by simp, fun x hx y hy e => ?_⟩
      rw [List.mem_singleton.mp hy] at e
      exact da (e ▸ hx)
  · by_cases hi : i < as.length
    · rw [List.getElem?_append_left hi] at e1
      rw [List.getElem?_append_left (by rw [← M.len]; exact hi)] at e2
      have ha : a ∈ as := List.mem_of_getElem? e1
      have : a ≠ r := fun e => hn.1 (e ▸ ha)
      rw [upd_ne this]
      exact s _ _ (M.get i a rw' e1 e2)
    · have hi' : as.length ≤ i := by omega
      rw [List.getElem?_append_right hi'] at e1
      rw [List.getElem?_append_right (by rw [← M.len]; exact hi'), ← M.len] at e2
      have i0 : i - as.length = 0 := by
        cases h : i - as.length with
        | zero => rfl
        | succ n => rw [h] at e1; simp at e1
      rw [i0] at e1 e2
      simp at e1 e2
      rw [← e1, ← e2, upd_ne dr]
      exact ed
section
variable {J : It} {n : Nat} {G : Hp → Prop} {Y : Nat → Hp → V → Hp → Prop}
theorem dc_rows (w : Walk J n G Y) {g : TG} {tt : TT} {tk tv : TE} {vs : List Nat} {σ : L2.St} {H1 : Hp} {D : Addr} {Qd : Hp → Prop} (rows : Nat → List Int) (hD : H1 D = none) (hn : n < sizeLine) (hG : ∀ H, Same H1 H → G H)
    (hs : ∀ i x H H' (R : V → V → Hp → Prop) (R' : Hp → Prop), i < n → Same H1 H → Y i H x H' → (∀ d H4, Same H H4 → H d = none → H4 d = some (.lst ((rows i).map V.int)) → R (.int i) (.ref d) H4) → g x (wipe σ vs) H' fun σ2 H2 => wipe σ2 vs = wipe σ vs ∧ tt σ2 H2 fun b H3 => if b = true then tk σ2 H3 fun y H4 => tv σ2 H4 (R y) else R' H3)
    (hd : ∀ H as, Same H1 H → DMat H D as ((List.range n).map rows) → (∀ b ∈ as, H1 b = none) → Qd H) :
    ∃ W : Nat → Nat → Hp → Prop, (∃ m, W 0 m (upd H1 D (.dK []))) ∧ ∀ i m H, W i m H →
      (J.stop i H ∧ Qd H) ∨ (J.go i H ∧ ∃ Nx : Hp → Prop, (∀ H', Nx H' → ∃ m', m' < m ∧ W (i + 1) m' H') ∧ ∀ x H', J.yld i H x H' → g x (wipe σ vs) H' fun σ2 H2 => wipe σ2 vs = wipe σ vs ∧ tt σ2 H2 fun b H3 =>
        if b = true then tk σ2 H3 fun y H4 => tv σ2 H4 fun z H5 => ∃ kvs k, y = kV k ∧ H5 D = some (.dK kvs) ∧ kvs.length < sizeLine ∧ Nx (upd H5 D (.dK (putK kvs k z))) else Nx H3) := by
  refine dc_it w (fun i H => Same H1 H ∧ ∃ as, DMat H D as ((List.range i).map rows) ∧ ∀ b ∈ as, H1 b = none) ⟨Same.new hD, [], ⟨(by show upd H1 D (.dK []) D = some (.dK []); exact upd_same), by simp, rfl, fun i a row e => by simp at e⟩, fun _ h => by cases h⟩ (fun i H _ p => hG H p.1) ?_ (fun H ⟨p1, as, p2, p3⟩ => hd H as p1 p2 p3)
  intro i x H H' hi p y
  obtain ⟨p1, as, p2, p3⟩ := p
  refine hs i x H H' (fun y z H5 => ∃ kvs k, y = kV k ∧ H5 D = some (.dK kvs) ∧ kvs.length < sizeLine ∧ (Same H1 (upd H5 D (.dK (putK kvs k z))) ∧ ∃ as, DMat (upd H5 D (.dK (putK kvs k z))) D as ((List.range (i + 1)).map rows) ∧ ∀ b ∈ as, H1 b = none)) _ hi p1 y fun d H4 s4 nd ed => ?_
  have al : as.length = i := by rw [p2.len, List.length_map, List.length_range]
  refine ⟨pairsD as, Sum.inl (as.length : Int), by rw [al]; rfl, s4 _ _ p2.hd, by unfold pairsD; rw [List.length_map, List.length_range, al]; omega, fun b o e => ?_, as ++ [d], ?_, fun b hb => ?_⟩
  · rw [upd_ne (ne_of_none e hD)]
    exact s4 _ _ (p1 _ _ e)
  · rw [List.range_succ, List.map_append]
    exact p2.snoc s4 nd ed
  · rcases List.mem_append.mp hb with hb | hb
    · exact p3 b hb
    · rw [List.mem_singleton.mp hb]
      exact Same.low p1 nd
end
end Cm

set_option Elab.async false
set_option linter.all false
namespace Cm
/-! ### sums, fillings -/
def sm (f : Nat → Int) : Nat → Int
  | 0 => 0
  | n + 1 => sm f n + f n
theorem sm_congr {f g : Nat → Int} : ∀ {n : Nat}, (∀ i, i < n → f i = g i) → sm f n = sm g n
  | 0, _ => rfl
  | n + 1, h => by rw [sm, sm, sm_congr fun i hi => h i (by omega), h n (by omega)]
theorem sm_add (f : Nat → Int) (a : Nat) : ∀ b, sm f (a + b) = sm f a + sm (fun i => f (a + i)) b
  | 0 => by simp [sm]
  | b + 1 => by rw [← Nat.add_assoc, sm, sm_add f a b, sm]; omega
theorem sm_mul (f : Nat → Int) (b : Nat) : ∀ a, sm f (a * b) = sm (fun i => sm (fun j => f (i * b + j)) b) a
  | 0 => by simp [sm]
  | a + 1 => by rw [Nat.succ_mul, sm_add, sm_mul f b a, sm]
theorem sm_zero {f : Nat → Int} : ∀ {n : Nat}, (∀ i, i < n → f i = 0) → sm f n = 0
  | 0, _ => rfl
  | n + 1, h => by rw [sm, sm_zero fun i hi => h i (by omega), h n (by omega)]; rfl
theorem sm_one {f : Nat → Int} {k : Nat} : ∀ {n : Nat}, k < n → (∀ i, i < n → i ≠ k → f i = 0) → sm f n = f k
  | 0, h, _ => absurd h (by omega)
  | n + 1, h, z => by
    by_cases e : k = n
    · subst e
      rw [sm, sm_zero fun i hi => z i (by omega) (by omega)]
      omega
    · rw [sm, sm_one (k := k) (by omega) fun i hi ne => z i (by omega) ne, z n (by omega) (by omega)]
      omega
theorem sm_lin (f g : Nat → Int) (a b : Int) : ∀ n, sm (fun i => a * f i + b * g i) n = a * sm f n + b * sm g n
  | 0 => by simp [sm]
  | n + 1 => by rw [sm, sm_lin f g a b n, sm, sm, Int.mul_add, Int.mul_add]; omega
theorem sm_plus (f g : Nat → Int) : ∀ n, sm (fun i => f i + g i) n = sm f n + sm g n
  | 0 => rfl
  | n + 1 => by rw [sm, sm_plus f g n, sm, sm]; omega
theorem sm_scale (f : Nat → Int) (a : Int) : ∀ n, sm (fun i => a * f i) n = a * sm f n
  | 0 => by simp [sm]
  | n + 1 => by rw [sm, sm_scale f a n, sm, Int.mul_add]
theorem sm_swap (f : Nat → Nat → Int) (n : Nat) : ∀ m, sm (fun i => sm (fun j => f i j) n) m = sm (fun j => sm (fun i => f i j) m) n
  | 0 => (sm_zero fun _ _ => rfl).symm
  | m + 1 => by
    rw [sm, sm_swap f n m, ← sm_plus]
    rfl
/-- the same rest by 97 -/
theorem sm_mod {f g : Nat → Int} : ∀ {n : Nat}, (∀ i, i < n → f i % 97 = g i % 97) → sm f n % 97 = sm g n % 97
  | 0, _ => rfl
  | n + 1, h => by
    have h1 := sm_mod (n := n) fun i hi => h i (by omega)
    have h2 := h n (by omega)
    rw [sm, sm]
    omega
theorem sum_range (f : Nat → Int) : ∀ n, ((List.range n).map f).sum = sm f n
  | 0 => rfl
  | n + 1 => by rw [List.range_succ, List.map_append, List.sum_append, sum_range f n, sm]; simp
theorem zip_map (f g : Nat → Int) : ∀ n, List.zipWith (· * ·) ((List.range n).map f) ((List.range n).map g) = (List.range n).map fun i => f i * g i := by
  intro n
  rw [List.zipWith_map, List.zipWith_self]
theorem list_getD (xs : List Int) : xs = (List.range xs.length).map fun i => xs.getD i 0 := by
  apply List.ext_getElem
  · simp
  · intro i h1 h2
    simp [List.getD, h1]
theorem getD_range (f : Nat → Int) {n i : Nat} (h : i < n) : ((List.range n).map f).getD i 0 = f i := by
  simp [List.getD, h]
/-- what row and numbers give, each with each -/
theorem dot_range (f : Nat → Int) (xs : List Int) {n : Nat} (hl : xs.length = n) : (List.zipWith (· * ·) ((List.range n).map f) xs).sum = sm (fun i => f i * xs.getD i 0) n := by
  subst hl
  conv => lhs; rw [list_getD xs]
  rw [List.length_map, List.length_range, zip_map, sum_range]
/-- data number t lies at place dp Z t -/
def dp (Z t : Nat) : Nat := t / Z * (Z + 1) + t % Z
theorem dp_at {Z i j : Nat} (h : j < Z) : dp Z (i * Z + j) = i * (Z + 1) + j := by
  unfold dp
  have e1 : (i * Z + j) / Z = i := by rw [Nat.mul_comm, Nat.mul_add_div (by omega), Nat.div_eq_of_lt h]; rfl
  have e2 : (i * Z + j) % Z = j := by rw [Nat.mul_comm, Nat.mul_add_mod, Nat.mod_eq_of_lt h]
  rw [e1, e2]
theorem blk_div {Z i j : Nat} (h : j < Z + 1) : (i * (Z + 1) + j) / (Z + 1) = i := by
  rw [Nat.mul_comm, Nat.mul_add_div (by omega), Nat.div_eq_of_lt h]; rfl
theorem blk_mod {Z i j : Nat} (h : j < Z + 1) : (i * (Z + 1) + j) % (Z + 1) = j := by
  rw [Nat.mul_comm, Nat.mul_add_mod, Nat.mod_eq_of_lt h]
theorem blk_lt {G Z i j : Nat} (hi : i < G) (h : j < Z + 1) : i * (Z + 1) + j < G * (Z + 1) := by
  have : (i + 1) * (Z + 1) ≤ G * (Z + 1) := Nat.mul_le_mul_right _ hi
  rw [Nat.succ_mul] at this
  omega
def sgn (i j : Nat) : Int := ([1, 11, 40, 30] : List Int).getD i 0 + (j : Int)
/-- over number n (from 0) of the data numbers d -/
def overS (G Z : Nat) (d : Nat → Int) (n : Nat) : Int := sm (fun i => sm (fun j => sgn i j ^ (n + 1) * d (i * Z + j)) Z) G
/-- the number at place p of the filling of the data numbers d -/
def fillF (G Z : Nat) (d : Nat → Int) (p : Nat) : Int :=
  if p / (Z + 1) < G then (if p % (Z + 1) = Z then sm (fun j => d (p / (Z + 1) * Z + j)) Z % 97 else d (p / (Z + 1) * Z + p % (Z + 1)))
  else overS G Z d (p - G * (Z + 1)) % 97
theorem fill_data {G Z i j : Nat} (d : Nat → Int) (hi : i < G) (hj : j < Z) : fillF G Z d (i * (Z + 1) + j) = d (i * Z + j) := by
  unfold fillF
  rw [blk_div (by omega), blk_mod (by omega), if_pos hi, if_neg (by omega)]
theorem fill_local {G Z i : Nat} (d : Nat → Int) (hi : i < G) : fillF G Z d (i * (Z + 1) + Z) = sm (fun j => d (i * Z + j)) Z % 97 := by
  unfold fillF
  rw [blk_div (by omega), blk_mod (by omega), if_pos hi, if_pos rfl]
theorem fill_over {G Z t : Nat} (d : Nat → Int) : fillF G Z d (G * (Z + 1) + t) = overS G Z d t % 97 := by
  unfold fillF
  have : G ≤ (G * (Z + 1) + t) / (Z + 1) := (Nat.le_div_iff_mul_le (by omega)).mpr (by omega)
  rw [if_neg (by omega)]
  congr 2
  omega
theorem place_cases {G Z M p : Nat} (h : p < G * (Z + 1) + M) : (∃ i j, i < G ∧ j < Z ∧ p = i * (Z + 1) + j) ∨ (∃ i, i < G ∧ p = i * (Z + 1) + Z) ∨ ∃ t, t < M ∧ p = G * (Z + 1) + t := by
  by_cases hp : p < G * (Z + 1)
  · have hi : p / (Z + 1) < G := (Nat.div_lt_iff_lt_mul (by omega)).mpr hp
    have hm : p % (Z + 1) < Z + 1 := Nat.mod_lt _ (by omega)
    have e : p / (Z + 1) * (Z + 1) + p % (Z + 1) = p := by rw [Nat.mul_comm]; exact Nat.div_add_mod p (Z + 1)
    by_cases hz : p % (Z + 1) = Z
    · exact .inr (.inl ⟨p / (Z + 1), hi, by omega⟩)
    · exact .inl ⟨p / (Z + 1), p % (Z + 1), hi, by omega, e.symm⟩
  · exact .inr (.inr ⟨p - G * (Z + 1), by omega, by omega⟩)
/-- x keeps the checks: it is the filling of its own data numbers -/
def Keeps (G Z M : Nat) (x : Nat → Int) : Prop := ∀ p, p < G * (Z + 1) + M → fillF G Z (fun t => x (dp Z t)) p = x p
/-- the checks' sums -/
def locC (Z i : Nat) (x : Nat → Int) : Int := sm (fun j => x (i * (Z + 1) + j)) Z + 96 * x (i * (Z + 1) + Z)
def ovC (G Z n : Nat) (x : Nat → Int) : Int := sm (fun i => sm (fun j => sgn i j ^ (n + 1) * x (i * (Z + 1) + j)) Z) G + 96 * x (G * (Z + 1) + n)
theorem overS_dp (G Z n : Nat) (x : Nat → Int) : overS G Z (fun t => x (dp Z t)) n = sm (fun i => sm (fun j => sgn i j ^ (n + 1) * x (i * (Z + 1) + j)) Z) G := by
  unfold overS
  refine sm_congr fun i hi => sm_congr fun j hj => ?_
  show sgn i j ^ (n + 1) * x (dp Z (i * Z + j)) = _
  rw [dp_at hj]
theorem loc_dp (Z i : Nat) (x : Nat → Int) : sm (fun j => x (dp Z (i * Z + j))) Z = sm (fun j => x (i * (Z + 1) + j)) Z :=
  sm_congr fun j hj => by
    show x (dp Z (i * Z + j)) = _
    rw [dp_at hj]
theorem keeps_iff {G Z M : Nat} {x : Nat → Int} (hx : ∀ p, p < G * (Z + 1) + M → 0 ≤ x p ∧ x p ≤ 96) :
    Keeps G Z M x ↔ (∀ i, i < G → locC Z i x % 97 = 0) ∧ ∀ n, n < M → ovC G Z n x % 97 = 0 := by
  constructor
  · intro k
    refine ⟨fun i hi => ?_, fun n hn => ?_⟩
    · have hp : i * (Z + 1) + Z < G * (Z + 1) + M := by have := blk_lt (Z := Z) (j := Z) hi (by omega); omega
      have h := k _ hp
      rw [fill_local _ hi, loc_dp] at h
      unfold locC
      omega
    · have h := k (G * (Z + 1) + n) (by omega)
      rw [fill_over, overS_dp] at h
      unfold ovC
      omega
  · rintro ⟨h1, h2⟩ p hp
    rcases place_cases hp with ⟨i, j, hi, hj, rfl⟩ | ⟨i, hi, rfl⟩ | ⟨t, ht, rfl⟩
    · rw [fill_data _ hi hj]
      show x (dp Z (i * Z + j)) = _
      rw [dp_at hj]
    · rw [fill_local _ hi, loc_dp]
      have b := hx _ hp
      have c := h1 i hi
      unfold locC at c
      omega
    · rw [fill_over, overS_dp]
      have b := hx _ hp
      have c := h2 t ht
      unfold ovC at c
      omega
theorem sm_chg {f g : Nat → Int} {k : Nat} : ∀ {n : Nat}, k < n → (∀ i, i < n → i ≠ k → f i = g i) → sm f n = sm g n + (f k - g k)
  | 0, h, _ => absurd h (by omega)
  | n + 1, h, z => by
    by_cases e : k = n
    · subst e
      rw [sm, sm, sm_congr fun i hi => z i (by omega) (by omega)]
      omega
    · rw [sm, sm, sm_chg (k := k) (by omega) fun i hi ne => z i (by omega) ne, z n (by omega) (by omega)]
      omega
/-- one number changed: no filling any more -/
theorem keeps_chg {G Z M p : Nat} {x y : Nat → Int} {d : Int} (hp : p < G * (Z + 1) + M) (k : Keeps G Z M x) (hx : ∀ p, p < G * (Z + 1) + M → 0 ≤ x p ∧ x p ≤ 96) (hy : ∀ p, p < G * (Z + 1) + M → 0 ≤ y p ∧ y p ≤ 96)
    (e : ∀ q, q < G * (Z + 1) + M → q ≠ p → y q = x q) (d1 : 1 ≤ d) (d2 : d ≤ 96) (ep : y p = (x p + d) % 97) : ¬ Keeps G Z M y := by
  intro k2
  obtain ⟨a1, a2⟩ := (keeps_iff hx).mp k
  obtain ⟨b1, b2⟩ := (keeps_iff hy).mp k2
  have low : ∀ {i j : Nat}, i < G → j < Z + 1 → i * (Z + 1) + j < G * (Z + 1) + M := fun {i j} hi hj => by have := blk_lt (Z := Z) hi hj; omega
  have ne : ∀ {i j i' j' : Nat}, j < Z + 1 → j' < Z + 1 → ¬ (i = i' ∧ j = j') → i * (Z + 1) + j ≠ i' * (Z + 1) + j' := fun {i j i' j'} h1 h2 h3 h4 => by
    apply h3
    have c1 := congrArg (· / (Z + 1)) h4
    have c2 := congrArg (· % (Z + 1)) h4
    simp only [blk_div h1, blk_div h2, blk_mod h1, blk_mod h2] at c1 c2
    exact ⟨c1, c2⟩
  rcases place_cases hp with ⟨i, j, hi, hj, rfl⟩ | ⟨i, hi, rfl⟩ | ⟨t, ht, rfl⟩
  · have c1 := a1 i hi
    have c2 := b1 i hi
    unfold locC at c1 c2
    rw [sm_chg (f := fun j => y (i * (Z + 1) + j)) (g := fun j => x (i * (Z + 1) + j)) hj fun j' hj' nj => e _ (low hi (by omega)) (ne (by omega) (by omega) fun z => nj z.2)] at c2
    have c3 := e (i * (Z + 1) + Z) (low hi (by omega)) (ne (by omega) (by omega) fun z => by omega)
    have h1 := hx _ hp
    omega
  · have c1 := a1 i hi
    have c2 := b1 i hi
    unfold locC at c1 c2
    rw [sm_congr (f := fun j => y (i * (Z + 1) + j)) (g := fun j => x (i * (Z + 1) + j)) fun j hj => e _ (low hi (by omega)) (ne (by omega) (by omega) fun z => by omega)] at c2
    have h1 := hx _ hp
    omega
  · have c1 := a2 t ht
    have c2 := b2 t ht
    unfold ovC at c1 c2
    rw [sm_congr (f := fun i => sm (fun j => sgn i j ^ (t + 1) * y (i * (Z + 1) + j)) Z) (g := fun i => sm (fun j => sgn i j ^ (t + 1) * x (i * (Z + 1) + j)) Z) fun i hi => sm_congr fun j hj => by rw [e _ (low hi (by omega)) (by have := blk_lt (Z := Z) (j := j) hi (by omega); omega)]] at c2
    have h1 := hx _ hp
    omega
theorem sm_comb (f g : Nat → Int) (c : Int) (n : Nat) : sm (fun i => f i + c * g i) n = sm f n + c * sm g n := by
  rw [sm_plus, sm_scale]
/-- sums of multiples of fillings are fillings -/
theorem keeps_comb {G Z M : Nat} {x y z : Nat → Int} {c : Int} (kx : Keeps G Z M x) (ky : Keeps G Z M y) (hx : ∀ p, p < G * (Z + 1) + M → 0 ≤ x p ∧ x p ≤ 96) (hy : ∀ p, p < G * (Z + 1) + M → 0 ≤ y p ∧ y p ≤ 96)
    (e : ∀ q, q < G * (Z + 1) + M → z q = (x q + c * y q) % 97) : Keeps G Z M z := by
  obtain ⟨a1, a2⟩ := (keeps_iff hx).mp kx
  obtain ⟨b1, b2⟩ := (keeps_iff hy).mp ky
  refine (keeps_iff fun p hp => ?_).mpr ⟨fun i hi => ?_, fun n hn => ?_⟩
  · rw [e p hp]
    omega
  · have low : ∀ {j : Nat}, j < Z + 1 → i * (Z + 1) + j < G * (Z + 1) + M := fun {j} hj => by have := blk_lt (Z := Z) hi hj; omega
    have h1 := sm_mod (f := fun j => z (i * (Z + 1) + j)) (g := fun j => x (i * (Z + 1) + j) + c * y (i * (Z + 1) + j)) (n := Z) fun j hj => by
      show z (i * (Z + 1) + j) % 97 = _
      rw [e _ (low (by omega))]
      omega
    rw [sm_comb] at h1
    have h2 := e _ (low (show Z < Z + 1 by omega))
    have c1 := a1 i hi
    have c2 := b1 i hi
    unfold locC at c1 c2 ⊢
    have c3 : (c * (sm (fun j => y (i * (Z + 1) + j)) Z + 96 * y (i * (Z + 1) + Z))) % 97 = 0 := by rw [Int.mul_emod, c2]; simp
    have c4 : c * (sm (fun j => y (i * (Z + 1) + j)) Z + 96 * y (i * (Z + 1) + Z)) = c * sm (fun j => y (i * (Z + 1) + j)) Z + 96 * (c * y (i * (Z + 1) + Z)) := by rw [Int.mul_add, Int.mul_left_comm]
    omega
  · have h1 := sm_mod (f := fun i => sm (fun j => sgn i j ^ (n + 1) * z (i * (Z + 1) + j)) Z) (g := fun i => sm (fun j => sgn i j ^ (n + 1) * x (i * (Z + 1) + j)) Z + c * sm (fun j => sgn i j ^ (n + 1) * y (i * (Z + 1) + j)) Z) (n := G) fun i hi => by
      show sm _ Z % 97 = (sm _ Z + c * sm _ Z) % 97
      rw [← sm_comb]
      refine sm_mod fun j hj => ?_
      show (sgn i j ^ (n + 1) * z (i * (Z + 1) + j)) % 97 = (sgn i j ^ (n + 1) * x (i * (Z + 1) + j) + c * (sgn i j ^ (n + 1) * y (i * (Z + 1) + j))) % 97
      rw [e _ (by have := blk_lt (Z := Z) (j := j) hi (by omega); omega)]
      rw [Int.mul_emod, Int.emod_emod_of_dvd _ (Int.dvd_refl 97), ← Int.mul_emod, Int.mul_add, Int.mul_left_comm]
    rw [sm_comb] at h1
    have h2 := e (G * (Z + 1) + n) (by omega)
    have c1 := a2 n hn
    have c2 := b2 n hn
    unfold ovC at c1 c2 ⊢
    generalize hA : sm (fun i => sm (fun j => sgn i j ^ (n + 1) * y (i * (Z + 1) + j)) Z) G = A at *
    have c3 : (c * (A + 96 * y (G * (Z + 1) + n))) % 97 = 0 := by rw [Int.mul_emod, c2]; simp
    have c4 : c * (A + 96 * y (G * (Z + 1) + n)) = c * A + 96 * (c * y (G * (Z + 1) + n)) := by rw [Int.mul_add, Int.mul_left_comm]
    omega
theorem keeps_zero (G Z M : Nat) : Keeps G Z M fun _ => 0 := by
  refine (keeps_iff fun p hp => by decide).mpr ⟨fun i hi => ?_, fun n hn => ?_⟩
  · unfold locC
    rw [sm_zero fun _ _ => rfl]
    rfl
  · unfold ovC
    rw [sm_zero fun i _ => sm_zero fun j _ => by rw [Int.mul_zero]]
    rfl
theorem bz_div {Z i j : Nat} (h : j < Z) : (i * Z + j) / Z = i := by rw [Nat.mul_comm, Nat.mul_add_div (by omega), Nat.div_eq_of_lt h]; rfl
theorem bz_mod {Z i j : Nat} (h : j < Z) : (i * Z + j) % Z = j := by rw [Nat.mul_comm, Nat.mul_add_mod, Nat.mod_eq_of_lt h]
theorem bz_lt {G Z i j : Nat} (hi : i < G) (hj : j < Z) : i * Z + j < G * Z := by
  have : (i + 1) * Z ≤ G * Z := Nat.mul_le_mul_right _ hi
  rw [Nat.succ_mul] at this
  omega
theorem t_cases {G Z t : Nat} (h : t < G * Z) : ∃ i j, i < G ∧ j < Z ∧ t = i * Z + j := by
  have hZ : 0 < Z := by
    cases Z with
    | zero => simp at h
    | succ n => omega
  refine ⟨t / Z, t % Z, (Nat.div_lt_iff_lt_mul hZ).mpr h, Nat.mod_lt _ hZ, ?_⟩
  rw [Nat.mul_comm]
  exact (Nat.div_add_mod t Z).symm
/-- the filling whose data number t is 1, all others 0 -/
def unitF (G Z t : Nat) : Nat → Int := fillF G Z fun s => if s = t then 1 else 0
theorem unit_data {G Z i j : Nat} (t : Nat) (hi : i < G) (hj : j < Z) : unitF G Z t (i * (Z + 1) + j) = if i * Z + j = t then 1 else 0 := by
  unfold unitF
  rw [fill_data _ hi hj]
theorem unit_local {G Z i i' j' : Nat} (hi : i < G) (hj' : j' < Z) : unitF G Z (i' * Z + j') (i * (Z + 1) + Z) = if i' = i then 1 else 0 := by
  unfold unitF
  rw [fill_local _ hi]
  by_cases h : i' = i
  · subst h
    rw [sm_one (k := j') hj' fun j hj ne => by rw [if_neg (by omega)], if_pos rfl, if_pos rfl]
    rfl
  · rw [sm_zero fun j hj => ?_, if_neg h]
    · rfl
    · rw [if_neg]
      intro e
      have := congrArg (· / Z) e
      simp only [bz_div hj, bz_div hj'] at this
      exact h this.symm
theorem unit_over {G Z i' j' n : Nat} (hi' : i' < G) (hj' : j' < Z) : unitF G Z (i' * Z + j') (G * (Z + 1) + n) = sgn i' j' ^ (n + 1) % 97 := by
  unfold unitF
  rw [fill_over]
  unfold overS
  rw [sm_one (k := i') hi' fun i hi ne => sm_zero fun j hj => ?_]
  · rw [sm_one (k := j') hj' fun j hj ne => by simp only; rw [if_neg (by omega), Int.mul_zero]]
    simp only
    rw [if_pos trivial, Int.mul_one]
  · simp only
    rw [if_neg, Int.mul_zero]
    intro e
    have := congrArg (· / Z) e
    simp only [bz_div hj, bz_div hj'] at this
    exact ne this
/-- each filling is the sum of its data numbers times the units -/
theorem unit_comb {G Z M p : Nat} {d : Nat → Int} (hd : ∀ t, t < G * Z → 0 ≤ d t ∧ d t ≤ 96) (hp : p < G * (Z + 1) + M) : sm (fun t => d t * unitF G Z t p) (G * Z) % 97 = fillF G Z d p := by
  rcases place_cases hp with ⟨i, j, hi, hj, rfl⟩ | ⟨i, hi, rfl⟩ | ⟨n, hn, rfl⟩
  · rw [fill_data _ hi hj, sm_one (k := i * Z + j) (bz_lt hi hj) fun t ht ne => by rw [unit_data t hi hj, if_neg (by omega), Int.mul_zero], unit_data _ hi hj, if_pos rfl, Int.mul_one]
    have := hd _ (bz_lt hi hj)
    omega
  · rw [fill_local _ hi, sm_mul, sm_one (k := i) hi fun i' hi' ne => sm_zero fun j hj => by rw [unit_local hi hj, if_neg ne, Int.mul_zero]]
    rw [sm_congr fun j hj => by rw [unit_local hi hj, if_pos rfl, Int.mul_one]]
  · rw [fill_over, sm_mul]
    unfold overS
    refine sm_mod fun i hi => ?_
    refine sm_mod fun j hj => ?_
    rw [unit_over hi hj, Int.mul_comm (sgn i j ^ (n + 1)), Int.mul_emod, Int.emod_emod_of_dvd _ (Int.dvd_refl 97), ← Int.mul_emod]
/-- the places that the checks fix, in their order -/
def fx (G Z i : Nat) : Nat := if i < G then i * (Z + 1) + Z else G * (Z + 1) + (i - G)
theorem fx_lt {G Z i j : Nat} (h : i < j) : fx G Z i < fx G Z j := by
  unfold fx
  by_cases h1 : j < G
  · rw [if_pos h1, if_pos (by omega)]
    have : (i + 1) * (Z + 1) ≤ j * (Z + 1) := Nat.mul_le_mul_right _ h
    rw [Nat.succ_mul] at this
    omega
  · rw [if_neg h1]
    by_cases h2 : i < G
    · rw [if_pos h2]
      have := blk_lt (Z := Z) (j := Z) h2 (by omega)
      omega
    · rw [if_neg h2]
      omega
theorem fx_local {G Z i : Nat} (h : i < G) : fx G Z i = i * (Z + 1) + Z := if_pos h
theorem fx_over (G Z n : Nat) : fx G Z (G + n) = G * (Z + 1) + n := by
  unfold fx
  rw [if_neg (by omega)]
  omega
theorem fx_not_data {G Z M i i' j : Nat} (hi : i < G + M) (hi' : i' < G) (hj : j < Z) : fx G Z i ≠ i' * (Z + 1) + j := by
  unfold fx
  have h3 := blk_lt (Z := Z) (j := j) hi' (by omega)
  split
  · intro e
    have c2 := congrArg (· % (Z + 1)) e
    simp only [blk_mod (show Z < Z + 1 by omega), blk_mod (show j < Z + 1 by omega)] at c2
    omega
  · omega
end Cm

set_option Elab.async false
set_option linter.all false
set_option maxRecDepth 100000
set_option maxHeartbeats 4000000
namespace Hx
open PySem PySem.Spec PyProof.Rows L2 Cm
def top (i : Nat) : Stmt := PySem.Challenge.pw_sherdhall_k11_whole_one_number_changed.main.body.getD i (.Pass ⟨0, 0, 0, 0⟩)
abbrev s_is_whole : Stmt := top 7
abbrev s_is_between : Stmt := top 8
abbrev s_is_rest : Stmt := top 9
abbrev s_minus : Stmt := top 10
abbrev s_times : Stmt := top 11
abbrev s_power : Stmt := top 12
abbrev s_sum_of_products : Stmt := top 13
abbrev s_is_shape : Stmt := top 17
abbrev s_check_shape : Stmt := top 18
abbrev s_count : Stmt := top 19
abbrev s_is_place : Stmt := top 20
abbrev s_check_place : Stmt := top 21
abbrev s_kind_of : Stmt := top 22
abbrev s_data_places : Stmt := top 23
abbrev s_mark : Stmt := top 24
abbrev s_local_factor : Stmt := top 25
abbrev s_over_factor : Stmt := top 26
abbrev s_checks : Stmt := top 27
abbrev s_is_filling : Stmt := top 28
abbrev s_units : Stmt := top 30
abbrev s_filled : Stmt := top 31
abbrev s_check_row : Stmt := top 34
abbrev s_cells_for : Stmt := top 35
abbrev s_laid : Stmt := top 36
abbrev s_unlaid : Stmt := top 37
abbrev s_needed : Stmt := top 38
abbrev s__law_purse : Stmt := top 40
abbrev s__law_drawn : Stmt := top 41
abbrev s__law_shape : Stmt := top 42
abbrev s__law_row : Stmt := top 43
abbrev s__law_read_back : Stmt := top 44
abbrev s__law_steps : Stmt := top 45
abbrev s__law_changes : Stmt := top 46
abbrev s_law : Stmt := top 47
structure Txt (K : PySem.W.Frag) (mg : Str → Option Value) where
  n_len : mg "len" = none
  n_max : mg "max" = none
  n_min : mg "min" = none
  n_range : mg "range" = none
  n_isinstance : mg "isinstance" = none
  n_int : mg "int" = none
  n_bool : mg "bool" = none
  n_tuple : mg "tuple" = none
  n_list : mg "list" = none
  n_divmod : mg "divmod" = none
  n_all : mg "all" = none
  n_sum : mg "sum" = none
  n_zip : mg "zip" = none
  n_dict : mg "dict" = none
  n_enumerate : mg "enumerate" = none
  u_PRIME : Value
  g_PRIME : mg "PRIME" = some u_PRIME
  v_PRIME : RelV (.int 97) u_PRIME
  u_MOST : Value
  g_MOST : mg "MOST" = some u_MOST
  v_MOST : RelV (.int 60) u_MOST
  g_PLAIN : mg "PLAIN" = some (.ref (He.ga K "PLAIN"))
  q_PLAIN : ∀ H, SqT K H (He.ga K "PLAIN") [.int 2, .int 3, .int 2]
  g_MARKS : mg "MARKS" = some (.ref (He.ga K "MARKS"))
  q_MARKS : ∀ H, SqT K H (He.ga K "MARKS") [.int 1, .int 11, .int 40, .int 30]
/-! ### numbers by 97 -/
theorem mod_ml (a b : Int) : (a % 97 * b) % 97 = a * b % 97 := by rw [Int.mul_emod, Int.emod_emod, ← Int.mul_emod]
theorem mod_mr (a b : Int) : (a * (b % 97)) % 97 = a * b % 97 := by rw [Int.mul_emod, Int.emod_emod, ← Int.mul_emod]
theorem mod_pw (a : Int) : ∀ n : Nat, (a % 97) ^ n % 97 = a ^ n % 97
  | 0 => by rw [Int.pow_zero, Int.pow_zero]
  | n + 1 => by rw [Int.pow_succ, Int.pow_succ, Int.mul_emod, mod_pw a n, Int.emod_emod, ← Int.mul_emod]
theorem fermat {a : Int} (h : a % 97 ≠ 0) : a ^ 96 % 97 = 1 := by
  rw [← mod_pw]
  have h0 : 0 ≤ a % 97 := Int.emod_nonneg _ (by decide)
  have h1 : a % 97 < 97 := Int.emod_lt_of_pos _ (by decide)
  obtain ⟨n, hn⟩ : ∃ n : Nat, a % 97 = (n : Int) := ⟨(a % 97).toNat, by omega⟩
  rw [hn] at h h0 h1 ⊢
  have key : ∀ n : Fin 97, n.val ≠ 0 → ((n.val : Int)) ^ 96 % 97 = 1 := by decide +kernel
  exact key ⟨n, by omega⟩ (by simp; omega)
/-- a small enough number -/
def Bd (a : Int) : Prop := a.natAbs < 2 ^ 250
theorem Bd.mod (a : Int) : Bd (a % 97) := by
  have h0 : 0 ≤ a % 97 := Int.emod_nonneg _ (by decide)
  have h1 : a % 97 < 97 := Int.emod_lt_of_pos _ (by decide)
  have h2 : 97 < 2 ^ 250 := by decide
  unfold Bd
  omega
section
variable {P : Program} {w : World} {K : PySem.W.Frag} {mg : Str → Option Value} {base : Heap}
theorem sc_is_whole : FnScope ["thing"] ["thing"] (defScope s_is_whole) := ⟨rfl, rfl, rfl, by decide +kernel, rfl, by decide +kernel, by decide +kernel⟩
theorem sc_is_between : FnScope ["thing", "least", "most"] ["thing", "least", "most"] (defScope s_is_between) := ⟨rfl, rfl, rfl, by decide +kernel, rfl, by decide +kernel, by decide +kernel⟩
theorem sc_is_rest : FnScope ["thing"] ["thing"] (defScope s_is_rest) := ⟨rfl, rfl, rfl, by decide +kernel, rfl, by decide +kernel, by decide +kernel⟩
theorem sc_minus : FnScope ["one", "other"] ["one", "other"] (defScope s_minus) := ⟨rfl, rfl, rfl, by decide +kernel, rfl, by decide +kernel, by decide +kernel⟩
theorem sc_times : FnScope ["one", "other"] ["one", "other"] (defScope s_times) := ⟨rfl, rfl, rfl, by decide +kernel, rfl, by decide +kernel, by decide +kernel⟩
theorem sc_power : FnScope ["one", "many", "product", "square", "rest"] ["one", "many"] (defScope s_power) := ⟨rfl, rfl, rfl, by decide +kernel, rfl, by decide +kernel, by decide +kernel⟩
theorem sc_sum_of_products : FnScope ["factors", "numbers", "factor", "number"] ["factors", "numbers"] (defScope s_sum_of_products) := ⟨rfl, rfl, rfl, by decide +kernel, rfl, by decide +kernel, by decide +kernel⟩
theorem sc_is_shape : FnScope ["thing", "groups", "size", "sums"] ["thing"] (defScope s_is_shape) := ⟨rfl, rfl, rfl, by decide +kernel, rfl, by decide +kernel, by decide +kernel⟩
theorem sc_check_shape : FnScope ["shape"] ["shape"] (defScope s_check_shape) := ⟨rfl, rfl, rfl, by decide +kernel, rfl, by decide +kernel, by decide +kernel⟩
theorem sc_count : FnScope ["shape", "groups", "size", "sums"] ["shape"] (defScope s_count) := ⟨rfl, rfl, rfl, by decide +kernel, rfl, by decide +kernel, by decide +kernel⟩
theorem sc_is_place : FnScope ["thing", "shape"] ["thing", "shape"] (defScope s_is_place) := ⟨rfl, rfl, rfl, by decide +kernel, rfl, by decide +kernel, by decide +kernel⟩
theorem sc_check_place : FnScope ["thing", "shape"] ["thing", "shape"] (defScope s_check_place) := ⟨rfl, rfl, rfl, by decide +kernel, rfl, by decide +kernel, by decide +kernel⟩
theorem sc_kind_of : FnScope ["place", "shape", "groups", "size", "_", "group", "at"] ["place", "shape"] (defScope s_kind_of) := ⟨rfl, rfl, rfl, by decide +kernel, rfl, by decide +kernel, by decide +kernel⟩
theorem sc_data_places : FnScope ["shape", "places", "place"] ["shape"] (defScope s_data_places) := ⟨rfl, rfl, rfl, by decide +kernel, rfl, by decide +kernel, by decide +kernel⟩
theorem sc_mark : FnScope ["place", "shape", "kind"] ["place", "shape"] (defScope s_mark) := ⟨rfl, rfl, rfl, by decide +kernel, rfl, by decide +kernel, by decide +kernel⟩
theorem sc_local_factor : FnScope ["place", "group", "shape", "kind"] ["place", "group", "shape"] (defScope s_local_factor) := ⟨rfl, rfl, rfl, by decide +kernel, rfl, by decide +kernel, by decide +kernel⟩
theorem sc_over_factor : FnScope ["place", "number", "shape", "kind"] ["place", "number", "shape"] (defScope s_over_factor) := ⟨rfl, rfl, rfl, by decide +kernel, rfl, by decide +kernel, by decide +kernel⟩
theorem sc_checks : FnScope ["shape", "places", "groups", "_", "sums", "group", "place", "rows", "number"] ["shape"] (defScope s_checks) := ⟨rfl, rfl, rfl, by decide +kernel, rfl, by decide +kernel, by decide +kernel⟩
theorem sc_is_filling : FnScope ["thing", "shape", "rows", "number", "row"] ["thing", "shape"] (defScope s_is_filling) := ⟨rfl, rfl, rfl, by decide +kernel, rfl, by decide +kernel, by decide +kernel⟩
theorem sc_units : FnScope ["shape", "rows", "data", "places", "place", "fixed", "out", "one", "row", "numbers"] ["shape"] (defScope s_units) := ⟨rfl, rfl, rfl, by decide +kernel, rfl, by decide +kernel, by decide +kernel⟩
theorem sc_filled : FnScope ["numbers", "basis", "places", "place", "unit"] ["numbers", "basis"] (defScope s_filled) := ⟨rfl, rfl, rfl, by decide +kernel, rfl, by decide +kernel, by decide +kernel⟩
theorem sc_check_row : FnScope ["thing", "at", "number"] ["thing"] (defScope s_check_row) := ⟨rfl, rfl, rfl, by decide +kernel, rfl, by decide +kernel, by decide +kernel⟩
theorem sc_cells_for : FnScope ["many", "shape", "wide"] ["many", "shape"] (defScope s_cells_for) := ⟨rfl, rfl, rfl, by decide +kernel, rfl, by decide +kernel, by decide +kernel⟩
theorem sc_laid : FnScope ["row", "shape", "basis", "wide", "cells", "numbers", "cell", "fillings", "place", "filling"] ["row", "shape"] (defScope s_laid) := ⟨rfl, rfl, rfl, by decide +kernel, rfl, by decide +kernel, by decide +kernel⟩
theorem sc_unlaid : FnScope ["pieces", "many", "shape", "data", "place", "at"] ["pieces", "many", "shape"] (defScope s_unlaid) := ⟨rfl, rfl, rfl, by decide +kernel, rfl, by decide +kernel, by decide +kernel⟩
theorem sc_needed : FnScope ["first", "behind", "shape", "data", "at", "place"] ["first", "behind", "shape"] (defScope s_needed) := ⟨rfl, rfl, rfl, by decide +kernel, rfl, by decide +kernel, by decide +kernel⟩
theorem sc__law_purse : FnScope ["script", "k", "cell"] ["script", "k"] (defScope s__law_purse) := ⟨rfl, rfl, rfl, by decide +kernel, rfl, by decide +kernel, by decide +kernel⟩
theorem sc__law_drawn : FnScope ["purse", "many", "found", "turn", "mixed"] ["purse", "many"] (defScope s__law_drawn) := ⟨rfl, rfl, rfl, by decide +kernel, rfl, by decide +kernel, by decide +kernel⟩
theorem sc__law_shape : FnScope ["purse", "most", "found", "groups", "size", "sums"] ["purse", "most"] (defScope s__law_shape) := ⟨rfl, rfl, rfl, by decide +kernel, rfl, by decide +kernel, by decide +kernel⟩
theorem sc__law_row : FnScope ["purse", "most", "k"] ["purse", "most"] (defScope s__law_row) := ⟨rfl, rfl, rfl, by decide +kernel, rfl, by decide +kernel, by decide +kernel⟩
theorem sc__law_read_back : FnScope ["row", "mould", "pieces", "at", "place", "alone"] ["row", "mould"] (defScope s__law_read_back) := ⟨rfl, rfl, rfl, by decide +kernel, rfl, by decide +kernel, by decide +kernel⟩
theorem sc__law_steps : FnScope ["mould", "own", "step", "found", "place", "kind", "by"] ["mould", "own", "step"] (defScope s__law_steps) := ⟨rfl, rfl, rfl, by decide +kernel, rfl, by decide +kernel, by decide +kernel⟩
theorem sc__law_changes : FnScope ["mould", "ones", "others", "at", "steps", "place", "cell"] ["mould", "ones", "others", "at", "steps"] (defScope s__law_changes) := ⟨rfl, rfl, rfl, by decide +kernel, rfl, by decide +kernel, by decide +kernel⟩
theorem sc_law : FnScope ["script", "k", "purse", "step", "mould", "row", "spot", "other", "own", "at", "ones"] ["script"] (defScope s_law) := ⟨rfl, rfl, rfl, by decide +kernel, rfl, by decide +kernel, by decide +kernel⟩
end
local macro_rules | `(tactic| walk_at "bd") => `(tactic| first | assumption | exact Bd.mod _ | (unfold Bd; decide))
local macro_rules | `(tactic| walk_at "rd") => `(tactic| repeat (first | refine ⟨_, rfl, ?_⟩ | refine ⟨_, _, rfl, rfl, ?_⟩ | refine ⟨_, _, rfl, ?_⟩ | refine ⟨_, _, _, rfl, ?_⟩ | refine ⟨rfl, ?_⟩ | refine ⟨(by walk_at "bd" : Bd _), ?_⟩))
local macro_rules | `(tactic| walk_at "mem") => `(tactic| first | assumption | exact upd_same | (refine old ?_ ?_ <;> walk_at "mem"))
local macro_rules | `(tactic| walk_at "sq") => `(tactic| first | assumption | (refine SqL.of ?_; walk_at "mem"))
section
variable {P : Program} {w : World} {K : PySem.W.Frag} {mg : Str → Option Value} {base : Heap}
def isInt : V → Bool
  | .int _ => true
  | _ => false
def betw (v : V) (lo hi : Int) : Bool := match v with
  | .int i => decide (lo ≤ i) && decide (i ≤ hi)
  | _ => false
theorem ty_isInt {K : PySem.W.Frag} {H : Hp} {v : V} {n : String} (h : Ty K H v n) : ((n == "int" || (n == "bool" && "int" == "int")) && !(n == "bool" || (n == "bool" && "bool" == "int"))) = isInt v := by
  cases h <;> rfl
def spWhole (K : PySem.W.Frag) : Sp := fun vs H Q _ => ∃ v n, vs = [v] ∧ Ty K H v n ∧ Q (.bl (isInt v)) H
def spBetw (K : PySem.W.Frag) : Sp := fun vs H Q _ => ∃ v n lo hi, vs = [v, .int lo, .int hi] ∧ Ty K H v n ∧ Q (.bl (betw v lo hi)) H
def spRest (K : PySem.W.Frag) : Sp := fun vs H Q _ => ∃ v n, vs = [v] ∧ Ty K H v n ∧ Q (.bl (betw v 0 96)) H
theorem ok_whole (T : Txt K mg) (F : At K mg "is_whole" s_is_whole ["thing"]) : Dn P w K mg base CX0 1 "is_whole" ["thing"] (spWhole K) := by
  refine F.ok sc_is_whole (fun vs H Q E h => ?_) (fun f cdv A outer s H vs Q E hr h => ?_)
  · obtain ⟨v, n, rfl, _⟩ := h
    rfl
  · obtain ⟨v, n, rfl, ty, q⟩ := h
    refine ⟨_, (pss_one (ps_ret (pe_and (pe_callB (r := rIsi K) call_isi (by rfl) T.n_isinstance (by decide +kernel) (pa_cons (pv 0) (pa_cons (pe_bltn (v := .ty "int") (u := .type "int") (by rfl) T.n_int (by decide +kernel) (by exact rfl)) pa_nil))) (pe_one (pe_not (pe_callB (r := rIsi K) call_isi (by rfl) T.n_isinstance (by decide +kernel) (pa_cons (pv 0) (pa_cons (pe_bltn (v := .ty "bool") (u := .type "bool") (by rfl) T.n_bool (by decide +kernel) (by exact rfl)) pa_nil)))))))), ?_⟩
    rw [← ty_isInt ty] at q
    refine ⟨_, rfl, _, _, _, _, _, rfl, .ty "int", ty.x, ty.kit "int", ?_⟩
    refine ⟨_, rfl, iteB (fun h => ?_) fun h => ?_⟩
    · rw [h, Bool.true_and] at q
      exact ⟨_, rfl, _, _, _, _, _, rfl, .ty "bool", ty.x, ty.kit "bool", _, rfl, q⟩
    · rw [h, Bool.false_and] at q
      exact q
theorem ok_between (D_is_whole : Dn P w K mg base CX0 1 "is_whole" ["thing"] (spWhole K)) (F : At K mg "is_between" s_is_between ["thing", "least", "most"]) : Dn P w K mg base CX0 2 "is_between" ["thing", "least", "most"] (spBetw K) := by
  refine F.ok sc_is_between (fun vs H Q E h => ?_) (fun f cdv A outer s H vs Q E hr h => ?_)
  · obtain ⟨v, n, lo, hi, rfl, _⟩ := h
    rfl
  · obtain ⟨v, n, lo, hi, rfl, ty, q⟩ := h
    refine ⟨_, (pss_one (ps_ret (pe_and (pe_callD D_is_whole (by first | exact hr | exact hr.mono (by decide)) (pa_cons (pv 0) pa_nil)) (pe_one (pe_chain op_le op_le (pv 1) (pv 0) (pv 2)))))), ?_⟩
    refine ⟨_, rfl, _, _, rfl, ty, _, rfl, iteB (fun h => ?_) fun h => ?_⟩
    · obtain ⟨i, rfl⟩ : ∃ i, v = .int i := by
        cases v with
        | int i => exact ⟨i, rfl⟩
        | _ => cases h
      refine ⟨_, rfl, _, rfl, _, _, rfl, rfl, _, rfl, iteD (fun h1 => ?_) fun h1 => ?_⟩
      · refine ⟨_, rfl, _, _, rfl, rfl, ?_⟩
        have q' : Q (.bl (decide (lo ≤ i) && decide (i ≤ hi))) H := q
        rw [decide_eq_true h1, Bool.true_and] at q'
        exact q'
      · have q' : Q (.bl (decide (lo ≤ i) && decide (i ≤ hi))) H := q
        rw [decide_eq_false h1, Bool.false_and] at q'
        exact q'
    · have e : betw v lo hi = false := by
        cases v with
        | int i => cases h
        | _ => rfl
      rw [e] at q
      exact q
theorem ok_rest (T : Txt K mg) (D_is_between : Dn P w K mg base CX0 2 "is_between" ["thing", "least", "most"] (spBetw K)) (F : At K mg "is_rest" s_is_rest ["thing"]) : Dn P w K mg base CX0 3 "is_rest" ["thing"] (spRest K) := by
  refine F.ok sc_is_rest (fun vs H Q E h => ?_) (fun f cdv A outer s H vs Q E hr h => ?_)
  · obtain ⟨v, n, rfl, _⟩ := h
    rfl
  · obtain ⟨v, n, rfl, ty, q⟩ := h
    refine ⟨_, (pss_one (ps_ret (pe_callD D_is_between (by first | exact hr | exact hr.mono (by decide)) (pa_cons (pv 0) (pa_cons pe_int (pa_cons (pe_op op_sub (pe_glob rfl T.g_PRIME (by exact T.v_PRIME)) pe_int) pa_nil)))))), ?_⟩
    exact ⟨_, rfl, _, _, rfl, rfl, v, n, _, _, rfl, ty, q⟩
def spPlus : Sp := fun vs H Q _ => ∃ a b : Int, vs = [.int a, .int b] ∧ Q (.int ((a + b) % 97)) H
def spMinus : Sp := fun vs H Q _ => ∃ a b : Int, vs = [.int a, .int b] ∧ Q (.int ((a - b) % 97)) H
def spTimes : Sp := fun vs H Q _ => ∃ a b : Int, vs = [.int a, .int b] ∧ Bd a ∧ Bd b ∧ Q (.int ((a * b) % 97)) H
def spPower : Sp := fun vs H Q _ => ∃ a n : Int, vs = [.int a, .int n] ∧ Bd a ∧ 0 ≤ n ∧ Q (.int (a ^ n.toNat % 97)) H
theorem ok_minus (T : Txt K mg) (F : At K mg "minus" s_minus ["one", "other"]) : Dn P w K mg base CX0 1 "minus" ["one", "other"] spMinus := by
  refine F.ok sc_minus (fun vs H Q E h => ?_) (fun f cdv A outer s H vs Q E hr h => ?_)
  · obtain ⟨a, b, rfl, _⟩ := h
    rfl
  · obtain ⟨a, b, rfl, q⟩ := h
    refine ⟨_, (pss_one (ps_ret (pe_op op_mod (pe_op op_sub (pv 0) (pv 1)) (pe_glob rfl T.g_PRIME (by exact T.v_PRIME))))), ?_⟩
    walk_at "rd"
    exact ⟨by show (0 : Int) < 97; decide, q⟩
theorem ok_times (T : Txt K mg) (F : At K mg "times" s_times ["one", "other"]) : Dn P w K mg base CX0 1 "times" ["one", "other"] spTimes := by
  refine F.ok sc_times (fun vs H Q E h => ?_) (fun f cdv A outer s H vs Q E hr h => ?_)
  · obtain ⟨a, b, rfl, _⟩ := h
    rfl
  · obtain ⟨a, b, rfl, ha, hb, q⟩ := h
    refine ⟨_, (pss_one (ps_ret (pe_op op_mod (pe_op op_mulW (pv 0) (pv 1)) (pe_glob rfl T.g_PRIME (by exact T.v_PRIME))))), ?_⟩
    walk_at "rd"
    refine ⟨wide_mul (a := 250) (b := 250) ha hb (by decide) (by decide) (by decide), ?_⟩
    walk_at "rd"
    exact ⟨by show (0 : Int) < 97; decide, q⟩
theorem pow_step (pr sq : Int) (n : Nat) : (pr * sq % 97 * (sq * sq % 97) ^ n) % 97 = pr * sq ^ (2 * n + 1) % 97 := by
  rw [mod_ml, Int.mul_emod, mod_pw, ← Int.mul_emod, Int.mul_pow, Int.pow_succ, show 2 * n = n + n by omega, Int.pow_add]
  congr 1
  simp only [Int.mul_assoc, Int.mul_comm, Int.mul_left_comm]
theorem pow_step0 (pr sq : Int) (n : Nat) : (pr * (sq * sq % 97) ^ n) % 97 = pr * sq ^ (2 * n) % 97 := by
  rw [Int.mul_emod, mod_pw, ← Int.mul_emod, Int.mul_pow, show 2 * n = n + n by omega, Int.pow_add]
theorem ok_power (D_times : Dn P w K mg base CX0 1 "times" ["one", "other"] spTimes) (F : At K mg "power" s_power ["one", "many"]) : Dn P w K mg base CX0 2 "power" ["one", "many"] spPower := by
  refine F.ok sc_power (fun vs H Q E h => ?_) (fun f cdv A outer s H vs Q E hr h => ?_)
  · obtain ⟨a, b, rfl, _⟩ := h
    rfl
  · obtain ⟨a, n0, rfl, ha, hn, q⟩ := h
    refine ⟨_, (pss_cons (ps_set (i := 2) sc_power.nd rfl (by first | exact Or.inl rfl | exact Or.inr rfl) pe_int)
  (pss_cons (ps_set (i := 3) sc_power.nd rfl (by first | exact Or.inl rfl | exact Or.inr rfl) (pv 0))
  (pss_cons (ps_set (i := 4) sc_power.nd rfl (by first | exact Or.inl rfl | exact Or.inr rfl) (pv 1))
  (pss_cons (ps_while PassesOwn.never (pt_cmpR op_gt (pv 4) pe_int (nomark _))
  (pss_cons (ps_if (pt_cmpR op_eq (pe_op op_mod (pv 4) pe_int) pe_int (nomark _)) (pss_one (ps_set (i := 2) sc_power.nd rfl (by first | exact Or.inl rfl | exact Or.inr rfl) (pe_callD D_times (by first | exact hr | exact hr.mono (by decide)) (pa_cons (pv 2) (pa_cons (pv 3) pa_nil))))) pss_nil)
  (pss_cons (ps_set (i := 3) sc_power.nd rfl (by first | exact Or.inl rfl | exact Or.inr rfl) (pe_callD D_times (by first | exact hr | exact hr.mono (by decide)) (pa_cons (pv 3) (pa_cons (pv 3) pa_nil))))
  (pss_one (ps_set (i := 4) sc_power.nd rfl (by first | exact Or.inl rfl | exact Or.inr rfl) (pe_op op_fdiv (pv 4) pe_int))))))
  (pss_one (ps_ret (pv 2))))))), ?_⟩
    walk_at "rd"
    refine while_by (fun σ H' => ∃ pr sq n : Int, σ = [some (.int a), some (.int n0), some (.int pr), some (.int sq), some (.int n)] ∧ H' = H ∧ 0 ≤ pr ∧ pr < 97 ∧ Bd sq ∧ 0 ≤ n ∧ (pr * sq ^ n.toNat) % 97 = a ^ n0.toNat % 97)
      (fun σ _ => match σ with | [_, _, _, _, some (.int n)] => n.toNat | _ => 0) ⟨1, a, n0, rfl, rfl, by decide, by decide, ha, hn, by rw [Int.one_mul]⟩ ?_
      (fun σ H Q Q' m h => by
        obtain ⟨v, e1, i, j, e2, e3, k, e4, q⟩ := h
        exact ⟨v, e1, i, j, e2, e3, k, e4, m _ _ q⟩)
    rintro σ H' ⟨pr, sq, n, rfl, rfl, p0, p1, hs, hn0, e⟩
    have bp : Bd pr := by
      have h2 : 97 < 2 ^ 250 := by decide
      unfold Bd
      omega
    walk_at "rd"
    refine iteD (fun h => ?_) fun h => ?_
    · walk_at "rd"
      refine ⟨by show (0 : Int) < 2; decide, ?_⟩
      have hh : n / 2 ≥ 0 := by omega
      walk_at "rd"
      refine iteI (fun ho => ?_) fun ho => ?_
      · walk_at "rd"
        refine ⟨⟨by decide, by decide⟩, ⟨_, _, _, rfl, rfl, Int.emod_nonneg _ (by decide), Int.emod_lt_of_pos _ (by decide), Bd.mod _, hh, ?_⟩, ?_⟩
        · rw [pow_step, ← e]
          congr 3
          omega
        · show (n / 2).toNat < n.toNat
          omega
      · walk_at "rd"
        refine ⟨⟨by decide, by decide⟩, ⟨_, _, _, rfl, rfl, p0, p1, Bd.mod _, hh, ?_⟩, ?_⟩
        · rw [pow_step0, ← e]
          congr 3
          omega
        · show (n / 2).toNat < n.toNat
          omega
    · walk_at "rd"
      have en : n = 0 := by omega
      subst en
      have : pr = a ^ n0.toNat % 97 := by
        rw [← e]
        rw [show (0 : Int).toNat = 0 from rfl, Int.pow_zero, Int.mul_one]
        omega
      rw [this]
      exact q
def spOver : Sp := fun vs H Q _ => ∃ a b : Int, vs = [.int a, .int b] ∧ Bd a ∧ Bd b ∧ b % 97 ≠ 0 ∧ Q (.int (a * b ^ 95 % 97)) H
/-- a shape of g groups of s data places, m sums -/
def Mould (K : PySem.W.Frag) (H : Hp) (a : Addr) (g s m : Int) : Prop := SqT K H a [.int g, .int s, .int m] ∧ 1 ≤ g ∧ g ≤ 4 ∧ 1 ≤ s ∧ s ≤ 4 ∧ 0 ≤ m ∧ m ≤ 2
theorem Mould.same {K : PySem.W.Frag} {H H' : Hp} {a : Addr} {g s m : Int} (h : Mould K H a g s m) (e : Same H H') : Mould K H' a g s m := ⟨Same.sqt e h.1, h.2⟩
def manyZ (g s m : Int) : Int := g * (s + 1) + m
theorem many_le {g s m : Int} (g1 : 1 ≤ g) (g4 : g ≤ 4) (s1 : 1 ≤ s) (s4 : s ≤ 4) (m0 : 0 ≤ m) (m2 : m ≤ 2) : 2 ≤ manyZ g s m ∧ manyZ g s m ≤ 22 ∧ 2 ≤ g * (s + 1) ∧ g * (s + 1) ≤ 20 := by
  obtain rfl | rfl | rfl | rfl : g = 1 ∨ g = 2 ∨ g = 3 ∨ g = 4 := by omega
  all_goals (unfold manyZ; omega)
theorem Mould.le {K : PySem.W.Frag} {H : Hp} {a : Addr} {g s m : Int} (h : Mould K H a g s m) : 2 ≤ manyZ g s m ∧ manyZ g s m ≤ 22 ∧ 2 ≤ g * (s + 1) ∧ g * (s + 1) ≤ 20 := many_le h.2.1 h.2.2.1 h.2.2.2.1 h.2.2.2.2.1 h.2.2.2.2.2.1 h.2.2.2.2.2.2
theorem betw_t {i lo hi : Int} (h1 : lo ≤ i) (h2 : i ≤ hi) : betw (.int i) lo hi = true := by
  show (decide (lo ≤ i) && decide (i ≤ hi)) = true
  rw [decide_eq_true h1, decide_eq_true h2]; rfl
def spShape (K : PySem.W.Frag) : Sp := fun vs H Q _ => ∃ a g s m, vs = [.ref a] ∧ Mould K H a g s m ∧ Q (.bl true) H
theorem ok_is_shape (T : Txt K mg) (D_is_between : Dn P w K mg base CX0 2 "is_between" ["thing", "least", "most"] (spBetw K)) (F : At K mg "is_shape" s_is_shape ["thing"]) : Dn P w K mg base CX0 3 "is_shape" ["thing"] (spShape K) := by
  refine F.ok sc_is_shape (fun vs H Q E h => ?_) (fun f cdv A outer s H vs Q E hr h => ?_)
  · obtain ⟨a, g, s, m, rfl, _⟩ := h
    rfl
  · obtain ⟨a, g, z, m, rfl, M, q⟩ := h
    obtain ⟨ha, g1, g4, s1, s4, m0, m2⟩ := id M
    refine ⟨_, (pss_cons (ps_if (PW.pt (pw_or (pt_not (pt_val (pe_callB (r := rIsi K) call_isi (by rfl) T.n_isinstance (by decide +kernel) (pa_cons (pv 0) (pa_cons (pe_bltn (v := .ty "tuple") (u := .type "tuple") (by rfl) T.n_tuple (by decide +kernel) (by exact rfl)) pa_nil))))) (pw_or1 (pt_cmpR op_ne (pe_callB (r := rLen K) call_len (by rfl) T.n_len (by decide +kernel) (pa_cons (pv 0) pa_nil)) pe_int (nomark _))))) (pss_one (ps_ret pe_bl)) pss_nil)
  (pss_cons (ps_asg (pv 0) (pg_tup (by rfl) (pgs_cons (pg_name (i := 1) sc_is_shape.nd rfl (by first | exact Or.inl rfl | exact Or.inr rfl)) (pgs_cons (pg_name (i := 2) sc_is_shape.nd rfl (by first | exact Or.inl rfl | exact Or.inr rfl)) (pgs_cons (pg_name (i := 3) sc_is_shape.nd rfl (by first | exact Or.inl rfl | exact Or.inr rfl)) pgs_nil)))))
  (pss_one (ps_ret (pe_and (pe_callD D_is_between (by first | exact hr | exact hr.mono (by decide)) (pa_cons (pv 1) (pa_cons pe_int (pa_cons pe_int pa_nil)))) (pe_and (pe_callD D_is_between (by first | exact hr | exact hr.mono (by decide)) (pa_cons (pv 2) (pa_cons pe_int (pa_cons pe_int pa_nil)))) (pe_one (pe_callD D_is_between (by first | exact hr | exact hr.mono (by decide)) (pa_cons (pv 3) (pa_cons pe_int (pa_cons pe_int pa_nil))))))))))), ?_⟩
    have ty : Ty K H (.ref a) "tuple" := .tup ha
    refine ⟨_, rfl, _, _, _, _, _, rfl, .ty "tuple", ty.x, ty.kit "tuple", _, rfl, _, rfl, _, _, rfl, .inr ⟨_, ha, rfl⟩, rfl, _, rfl, iteIn (fun z => absurd rfl z) fun _ => ?_⟩
    refine ⟨_, rfl, _, _, rfl, ha, rfl, _, _, rfl, _, _, rfl, _, _, rfl, rfl, ?_⟩
    refine ⟨_, rfl, _, _, _, _, rfl, .int g, ?_⟩
    rw [betw_t g1 g4]
    refine ⟨_, rfl, _, rfl, _, _, _, _, rfl, .int z, ?_⟩
    rw [betw_t s1 s4]
    refine ⟨_, rfl, _, rfl, _, _, _, _, rfl, .int m, ?_⟩
    rw [betw_t m0 m2]
    exact q
def spChk (K : PySem.W.Frag) : Sp := fun vs H Q _ => ∃ a g s m, vs = [.ref a] ∧ Mould K H a g s m ∧ Q .non H
theorem ok_check_shape (D_is_shape : Dn P w K mg base CX0 3 "is_shape" ["thing"] (spShape K)) (F : At K mg "check_shape" s_check_shape ["shape"]) : Dn P w K mg base CX0 4 "check_shape" ["shape"] (spChk K) := by
  refine F.ok sc_check_shape (fun vs H Q E h => ?_) (fun f cdv A outer s H vs Q E hr h => ?_)
  · obtain ⟨a, g, s, m, rfl, _⟩ := h
    rfl
  · obtain ⟨a, g, z, m, rfl, M, q⟩ := h
    refine ⟨_, (pss_one (ps_if (pt_not (pt_val (pe_callD D_is_shape (by first | exact hr | exact hr.mono (by decide)) (pa_cons (pv 0) pa_nil)))) (pss_one ps_never) pss_nil)), ?_⟩
    exact ⟨_, rfl, a, g, z, m, rfl, M, _, rfl, q⟩
def spCount (K : PySem.W.Frag) : Sp := fun vs H Q _ => ∃ a g s m, vs = [.ref a] ∧ Mould K H a g s m ∧ Q (.int (manyZ g s m)) H
theorem ok_count (D_check_shape : Dn P w K mg base CX0 4 "check_shape" ["shape"] (spChk K)) {dv : V} (F : AtK K mg "count" s_count [] "shape" dv) : DnK P w K mg base CX0 5 "count" [] "shape" dv (spCount K) := by
  refine F.ok sc_count (fun vs H Q E h => ?_) (fun f cdv A outer s H vs Q E hr h => ?_)
  · obtain ⟨a, g, s, m, rfl, _⟩ := h
    rfl
  · obtain ⟨a, g, z, m, rfl, M, q⟩ := h
    obtain ⟨ha, g1, g4, s1, s4, m0, m2⟩ := id M
    refine ⟨_, (pss_cons (ps_expr (pe_callD D_check_shape (by first | exact hr | exact hr.mono (by decide)) (pa_cons (pv 0) pa_nil)))
  (pss_cons (ps_asg (pv 0) (pg_tup (by rfl) (pgs_cons (pg_name (i := 1) sc_count.nd rfl (by first | exact Or.inl rfl | exact Or.inr rfl)) (pgs_cons (pg_name (i := 2) sc_count.nd rfl (by first | exact Or.inl rfl | exact Or.inr rfl)) (pgs_cons (pg_name (i := 3) sc_count.nd rfl (by first | exact Or.inl rfl | exact Or.inr rfl)) pgs_nil)))))
  (pss_one (ps_ret (pe_op op_add (pe_op op_mul (pv 1) (pe_op op_add (pv 2) pe_int)) (pv 3)))))), ?_⟩
    refine ⟨_, rfl, a, g, z, m, rfl, M, ?_⟩
    refine ⟨_, rfl, _, _, rfl, ha, rfl, _, _, rfl, _, _, rfl, _, _, rfl, rfl, ?_⟩
    exact ⟨_, rfl, _, rfl, _, _, rfl, rfl, _, _, rfl, rfl, .inl ⟨by omega, by omega⟩, _, rfl, _, _, rfl, rfl, q⟩
def spPlace (K : PySem.W.Frag) : Sp := fun vs H Q _ => ∃ (v : V) (n : String) (a : Addr) (g s m : Int), vs = [v, .ref a] ∧ Ty K H v n ∧ Mould K H a g s m ∧ Q (.bl (betw v 0 (manyZ g s m - 1))) H
theorem ok_is_place (D_is_between : Dn P w K mg base CX0 2 "is_between" ["thing", "least", "most"] (spBetw K)) {dv : V} (D_count : DnK P w K mg base CX0 5 "count" [] "shape" dv (spCount K)) (F : AtK K mg "is_place" s_is_place ["thing"] "shape" dv) : DnK P w K mg base CX0 6 "is_place" ["thing"] "shape" dv (spPlace K) := by
  refine F.ok sc_is_place (fun vs H Q E h => ?_) (fun f cdv A outer s H vs Q E hr h => ?_)
  · obtain ⟨v, n, a, g, s, m, rfl, _⟩ := h
    rfl
  · obtain ⟨v, n, a, g, z, m, rfl, ty, M, q⟩ := h
    refine ⟨_, (pss_one (ps_ret (pe_callD D_is_between (by first | exact hr | exact hr.mono (by decide)) (pa_cons (pv 0) (pa_cons pe_int (pa_cons (pe_op op_sub (pe_callW0 D_count (by first | exact hr | exact hr.mono (by decide)) (pv 1)) pe_int) pa_nil)))))), ?_⟩
    refine ⟨_, rfl, _, rfl, rfl, a, g, z, m, rfl, M, _, _, rfl, rfl, ?_⟩
    exact ⟨v, n, _, _, rfl, ty, q⟩
def spChkP (K : PySem.W.Frag) : Sp := fun vs H Q _ => ∃ (p : Int) (a : Addr) (g s m : Int), vs = [.int p, .ref a] ∧ Mould K H a g s m ∧ 0 ≤ p ∧ p < manyZ g s m ∧ Q .non H
theorem ok_check_place {dv : V} (D_is_place : DnK P w K mg base CX0 6 "is_place" ["thing"] "shape" dv (spPlace K)) (F : At K mg "check_place" s_check_place ["thing", "shape"]) : Dn P w K mg base CX0 7 "check_place" ["thing", "shape"] (spChkP K) := by
  refine F.ok sc_check_place (fun vs H Q E h => ?_) (fun f cdv A outer s H vs Q E hr h => ?_)
  · obtain ⟨p, a, g, s, m, rfl, _⟩ := h
    rfl
  · obtain ⟨p, a, g, z, m, rfl, M, p0, p1, q⟩ := h
    refine ⟨_, (pss_one (ps_if (pt_not (pt_val (pe_callW D_is_place (by first | exact hr | exact hr.mono (by decide)) (pa_cons (pv 0) pa_nil) (pv 1)))) (pss_one ps_never) pss_nil)), ?_⟩
    refine ⟨_, rfl, _, rfl, rfl, rfl, .int p, "int", a, g, z, m, rfl, .int p, M, ?_⟩
    rw [betw_t p0 (by omega)]
    exact ⟨_, rfl, q⟩
/-- what a place is -/
def kindV (g s p : Int) : List V := if p / (s + 1) ≥ g then [.str "over", .int (p - g * (s + 1) + 1)] else if p % (s + 1) = s then [.str "local", .int (p / (s + 1))] else [.str "data", .int (p / (s + 1)), .int (p % (s + 1))]
def spKind (K : PySem.W.Frag) : Sp := fun vs H Q _ => ∃ (p : Int) (a : Addr) (g s m : Int), vs = [.int p, .ref a] ∧ Mould K H a g s m ∧ 0 ≤ p ∧ p < manyZ g s m ∧ ∀ r H', Same H H' → H' r = some (.tup (kindV g s p)) → Q (.ref r) H'
theorem ok_kind_of (T : Txt K mg) (D_check_place : Dn P w K mg base CX0 7 "check_place" ["thing", "shape"] (spChkP K)) {dv : V} (F : AtK K mg "kind_of" s_kind_of ["place"] "shape" dv) : DnK P w K mg base CX0 8 "kind_of" ["place"] "shape" dv (spKind K) := by
  refine F.ok sc_kind_of (fun vs H Q E h => ?_) (fun f cdv A outer s H vs Q E hr h => ?_)
  · obtain ⟨p, a, g, s, m, rfl, _⟩ := h
    rfl
  · obtain ⟨p, a, g, z, m, rfl, M, p0, p1, q⟩ := h
    obtain ⟨ha, g1, g4, s1, s4, m0, m2⟩ := id M
    refine ⟨_, (pss_cons (ps_expr (pe_callD D_check_place (by first | exact hr | exact hr.mono (by decide)) (pa_cons (pv 0) (pa_cons (pv 1) pa_nil))))
  (pss_cons (ps_asg (pv 1) (pg_tup (by rfl) (pgs_cons (pg_name (i := 2) sc_kind_of.nd rfl (by first | exact Or.inl rfl | exact Or.inr rfl)) (pgs_cons (pg_name (i := 3) sc_kind_of.nd rfl (by first | exact Or.inl rfl | exact Or.inr rfl)) (pgs_cons (pg_name (i := 4) sc_kind_of.nd rfl (by first | exact Or.inl rfl | exact Or.inr rfl)) pgs_nil)))))
  (pss_cons (ps_asg (pe_callB call_divmod (by rfl) T.n_divmod (by decide +kernel) (pa_cons (pv 0) (pa_cons (pe_op op_add (pv 3) pe_int) pa_nil))) (pg_tup (by rfl) (pgs_cons (pg_name (i := 5) sc_kind_of.nd rfl (by first | exact Or.inl rfl | exact Or.inr rfl)) (pgs_cons (pg_name (i := 6) sc_kind_of.nd rfl (by first | exact Or.inl rfl | exact Or.inr rfl)) pgs_nil))))
  (pss_cons (ps_if (pt_cmpR op_ge (pv 5) (pv 2) (nomark _)) (pss_one (ps_ret (pe_tup (pa_cons pe_str (pa_cons (pe_op op_add (pe_op op_sub (pv 0) (pe_op op_mul (pv 2) (pe_op op_add (pv 3) pe_int))) pe_int) pa_nil))))) pss_nil)
  (pss_cons (ps_if (pt_cmpR op_eq (pv 6) (pv 3) (nomark _)) (pss_one (ps_ret (pe_tup (pa_cons pe_str (pa_cons (pv 5) pa_nil))))) pss_nil)
  (pss_one (ps_ret (pe_tup (pa_cons pe_str (pa_cons (pv 5) (pa_cons (pv 6) pa_nil))))))))))), ?_⟩
    refine ⟨_, rfl, _, rfl, p, a, g, z, m, rfl, M, p0, p1, ?_⟩
    refine ⟨_, rfl, _, _, rfl, ha, rfl, _, _, rfl, _, _, rfl, _, _, rfl, rfl, ?_⟩
    refine ⟨_, rfl, _, rfl, _, _, rfl, rfl, _, _, rfl, ⟨?_, ?_⟩, fun r nr => ?_⟩
    · omega
    · omega
    have s1' := Same.new (o := .tup [.int (p / (z + 1)), .int (p % (z + 1))]) nr
    refine ⟨_, _, rfl, SqT.of upd_same, rfl, _, _, rfl, _, _, rfl, rfl, ?_⟩
    refine ⟨_, rfl, _, rfl, _, _, rfl, rfl, _, rfl, iteD (fun h1 => ?_) fun h1 => ?_⟩
    · have e : kindV g z p = [.str "over", .int (p - g * (z + 1) + 1)] := if_pos h1
      refine ⟨_, rfl, _, rfl, _, rfl, _, _, rfl, rfl, _, _, rfl, rfl, .inl ⟨by omega, by omega⟩, _, _, rfl, rfl, _, _, rfl, rfl, (by show 2 ≤ sizeLine; decide), fun t nt => ?_⟩
      exact q t _ (Same.trans s1' (Same.new nt)) (by rw [e]; exact upd_same)
    refine ⟨_, rfl, _, rfl, rfl, _, rfl, iteI (fun h2 => ?_) fun h2 => ?_⟩
    · have e : kindV g z p = [.str "local", .int (p / (z + 1))] := by unfold kindV; rw [if_neg h1, if_pos h2]
      refine ⟨_, rfl, (by show 2 ≤ sizeLine; decide), fun t nt => ?_⟩
      exact q t _ (Same.trans s1' (Same.new nt)) (by rw [e]; exact upd_same)
    · have e : kindV g z p = [.str "data", .int (p / (z + 1)), .int (p % (z + 1))] := by unfold kindV; rw [if_neg h1, if_neg h2]
      refine ⟨_, rfl, _, rfl, (by show 3 ≤ sizeLine; decide), fun t nt => ?_⟩
      exact q t _ (Same.trans s1' (Same.new nt)) (by rw [e]; exact upd_same)
theorem eqK2 (u v : Str) (a b : Int) : PyData.eqv (.tuple [.str u, .int a]) (.tuple [.str v, .int b]) = (u == v && a == b) := by
  simp [PyData.eqv, PyData.eqvAll]
theorem eqK3 (u v : Str) (a b c : Int) : PyData.eqv (.tuple [.str u, .int a, .int c]) (.tuple [.str v, .int b]) = false := by
  simp [PyData.eqv, PyData.eqvAll]
theorem shKo (a : Int) : SeqAt.shaped (.tuple [.str "over", .int a]) = true := by
  simp only [SeqAt.shaped, PyData.canLay0, PyData.canLayAll0, PyData.depth, PyData.depthAll]
  have h1 : PyData.strOk (Str.ofString "over") = true := by decide +kernel
  rw [h1]
  rfl
theorem shKl (a : Int) : SeqAt.shaped (.tuple [.str "local", .int a]) = true := by
  simp only [SeqAt.shaped, PyData.canLay0, PyData.canLayAll0, PyData.depth, PyData.depthAll]
  have h1 : PyData.strOk (Str.ofString "local") = true := by decide +kernel
  rw [h1]
  rfl
theorem shKd (a b : Int) : SeqAt.shaped (.tuple [.str "data", .int a, .int b]) = true := by
  simp only [SeqAt.shaped, PyData.canLay0, PyData.canLayAll0, PyData.depth, PyData.depthAll]
  have h1 : PyData.strOk (Str.ofString "data") = true := by decide +kernel
  rw [h1]
  rfl
def markZ (s p : Int) : Int := ([1, 11, 40, 30] : List Int).getD (p / (s + 1)).toNat 0 + p % (s + 1)
/-- a data place -/
def isData (g s p : Int) : Bool := decide (p / (s + 1) < g) && decide (p % (s + 1) ≠ s)
theorem kind_data {g s p : Int} (h : isData g s p = true) : kindV g s p = [.str "data", .int (p / (s + 1)), .int (p % (s + 1))] := by
  unfold isData at h
  simp only [Bool.and_eq_true, decide_eq_true_eq] at h
  unfold kindV
  rw [if_neg (by omega), if_neg h.2]
def localZ (g s p gr : Int) : Int := if p / (s + 1) ≥ g then 0 else if p / (s + 1) = gr then (if p % (s + 1) = s then 96 else 1) else 0
def overZ (g s p n : Int) : Int := if p / (s + 1) ≥ g then (if p - g * (s + 1) + 1 = n then 96 else 0) else if p % (s + 1) = s then 0 else markZ s p ^ n.toNat % 97
def spMark (K : PySem.W.Frag) : Sp := fun vs H Q _ => ∃ (p : Int) (a : Addr) (g s m : Int), vs = [.int p, .ref a] ∧ Mould K H a g s m ∧ 0 ≤ p ∧ p < manyZ g s m ∧ isData g s p = true ∧ ∀ H', Same H H' → Q (.int (markZ s p)) H'
theorem ok_mark (T : Txt K mg) {dv : V} (D_kind_of : DnK P w K mg base CX0 8 "kind_of" ["place"] "shape" dv (spKind K)) (F : AtK K mg "mark" s_mark ["place"] "shape" dv) : DnK P w K mg base CX0 9 "mark" ["place"] "shape" dv (spMark K) := by
  refine F.ok sc_mark (fun vs H Q E h => ?_) (fun f cdv A outer s H vs Q E hr h => ?_)
  · obtain ⟨p, a, g, s, m, rfl, _⟩ := h
    rfl
  · obtain ⟨p, a, g, z, m, rfl, M, p0, p1, hd, q⟩ := h
    obtain ⟨ha, g1, g4, s1, s4, m0, m2⟩ := id M
    refine ⟨_, (pss_cons (ps_set (i := 2) sc_mark.nd rfl (by first | exact Or.inl rfl | exact Or.inr rfl) (pe_callW D_kind_of (by first | exact hr | exact hr.mono (by decide)) (pa_cons (pv 0) pa_nil) (pv 1)))
  (pss_cons (ps_if (pt_cmpR op_ne (pe_ix (r := rIxT K) ix_tup (pv 2) pe_int (fun _ _ => rfl)) pe_str (nomark _)) (pss_one ps_never) pss_nil)
  (pss_one (ps_ret (pe_op op_add (pe_ix (r := rIxT K) ix_tup (pe_glob (v := .ref (He.ga K "MARKS")) rfl T.g_MARKS (by exact rfl)) (pe_ix (r := rIxT K) ix_tup (pv 2) pe_int (fun _ _ => rfl)) (fun _ _ => rfl)) (pe_ix (r := rIxT K) ix_tup (pv 2) pe_int (fun _ _ => rfl))))))), ?_⟩
    refine ⟨_, rfl, _, rfl, rfl, rfl, p, a, g, z, m, rfl, M, p0, p1, fun r H1 s1' er => ?_⟩
    rw [kind_data hd] at er
    refine ⟨_, rfl, _, _, _, _, rfl, rfl, SqT.of er, rfl, rfl, _, rfl, iteDn (fun z => absurd rfl z) fun _ => ?_⟩
    unfold isData at hd
    simp only [Bool.and_eq_true, decide_eq_true_eq] at hd
    have k0 : 0 ≤ p / (z + 1) := Int.ediv_nonneg p0 (by omega)
    have hm : atI ([.int 1, .int 11, .int 40, .int 30] : List V) (p / (z + 1)) = some (.int (([1, 11, 40, 30] : List Int).getD (p / (z + 1)).toNat 0)) := by
      obtain h | h | h | h : p / (z + 1) = 0 ∨ p / (z + 1) = 1 ∨ p / (z + 1) = 2 ∨ p / (z + 1) = 3 := by omega
      all_goals (rw [h]; rfl)
    refine ⟨_, rfl, _, _, _, _, rfl, rfl, SqT.of er, rfl, _, _, _, _, rfl, rfl, T.q_MARKS _, hm, ?_⟩
    exact ⟨_, rfl, _, _, _, _, rfl, rfl, SqT.of er, rfl, _, _, rfl, rfl, q _ s1'⟩
def spLocal (K : PySem.W.Frag) : Sp := fun vs H Q _ => ∃ (p gr : Int) (a : Addr) (g s m : Int), vs = [.int p, .int gr, .ref a] ∧ Mould K H a g s m ∧ 0 ≤ p ∧ p < manyZ g s m ∧ ∀ H', Same H H' → Q (.int (localZ g s p gr)) H'
theorem ok_local (T : Txt K mg) {dv : V} (D_kind_of : DnK P w K mg base CX0 8 "kind_of" ["place"] "shape" dv (spKind K)) (F : At K mg "local_factor" s_local_factor ["place", "group", "shape"]) : Dn P w K mg base CX0 9 "local_factor" ["place", "group", "shape"] (spLocal K) := by
  refine F.ok sc_local_factor (fun vs H Q E h => ?_) (fun f cdv A outer s H vs Q E hr h => ?_)
  · obtain ⟨p, gr, a, g, s, m, rfl, _⟩ := h
    rfl
  · obtain ⟨p, gr, a, g, z, m, rfl, M, p0, p1, q⟩ := h
    refine ⟨_, (pss_cons (ps_set (i := 3) sc_local_factor.nd rfl (by first | exact Or.inl rfl | exact Or.inr rfl) (pe_callW D_kind_of (by first | exact hr | exact hr.mono (by decide)) (pa_cons (pv 0) pa_nil) (pv 2)))
  (pss_cons (ps_if (pt_cmpR (r := rEqD K) (op_eqD hr.units) (pv 3) (pe_tup (pa_cons pe_str (pa_cons (pv 1) pa_nil))) (nomark _)) (pss_one (ps_ret (pe_op op_sub (pe_glob rfl T.g_PRIME (by exact T.v_PRIME)) pe_int))) pss_nil)
  (pss_cons (ps_if (PW.pt (pw_and (pt_cmpR op_eq (pe_ix (r := rIxT K) ix_tup (pv 3) pe_int (fun _ _ => rfl)) pe_str (nomark _)) (pw_and1 (pt_cmpR op_eq (pe_ix (r := rIxT K) ix_tup (pv 3) pe_int (fun _ _ => rfl)) (pv 1) (nomark _))))) (pss_one (ps_ret pe_int)) pss_nil)
  (pss_one (ps_ret pe_int))))), ?_⟩
    refine ⟨_, rfl, _, rfl, rfl, rfl, p, a, g, z, m, rfl, M, p0, p1, fun r H1 s1' er => ?_⟩
    refine ⟨_, rfl, _, rfl, (by show 2 ≤ sizeLine; decide), fun t nt => ?_⟩
    have s2 := Same.trans s1' (Same.new (o := .tup [.str "local", .int gr]) nt)
    have er2 : upd H1 t (.tup [.str "local", .int gr]) r = some (.tup (kindV g z p)) := old er nt
    have et2 : upd H1 t (.tup [.str "local", .int gr]) t = some (.tup [.str "local", .int gr]) := upd_same
    generalize upd H1 t (.tup [.str "local", .int gr]) = H2 at *
    unfold kindV at er2
    unfold localZ at q
    by_cases h1 : p / (z + 1) ≥ g
    · rw [if_pos h1] at er2 q
      refine ⟨_, _, .tup (SqT.of er2) (.cons (.str _) (.cons (.int _) .nil)), .tup (SqT.of et2) (.cons (.str _) (.cons (.int _) .nil)), shKo _, shKl _, ?_⟩
      rw [eqK2]
      refine ⟨_, rfl, ?_⟩
      refine ⟨_, rfl, _, _, _, _, rfl, rfl, SqT.of er2, rfl, rfl, _, rfl, iteD (fun z => absurd z (by decide)) fun _ => ?_⟩
      exact q _ s2
    rw [if_neg h1] at er2 q
    by_cases h2 : p % (z + 1) = z
    · rw [if_pos h2] at er2 q
      refine ⟨_, _, .tup (SqT.of er2) (.cons (.str _) (.cons (.int _) .nil)), .tup (SqT.of et2) (.cons (.str _) (.cons (.int _) .nil)), shKl _, shKl _, ?_⟩
      rw [eqK2]
      by_cases h3 : p / (z + 1) = gr
      · rw [if_pos h3] at q
        refine ⟨_, rfl, ?_⟩
        rw [show (Str.ofString "local" == Str.ofString "local" && p / (z + 1) == gr) = true by rw [h3]; simp]
        refine iteT ⟨_, _, rfl, rfl, ?_⟩
        exact q _ s2
      · rw [if_neg h3] at q
        refine ⟨_, rfl, ?_⟩
        rw [show (Str.ofString "local" == Str.ofString "local" && p / (z + 1) == gr) = false by simp [h3]]
        refine iteF ⟨_, rfl, _, _, _, _, rfl, rfl, SqT.of er2, rfl, rfl, _, rfl, iteD (fun z => absurd z (by decide)) fun _ => ?_⟩
        exact q _ s2
    · rw [if_neg h2] at er2
      refine ⟨_, _, .tup (SqT.of er2) (.cons (.str _) (.cons (.int _) (.cons (.int _) .nil))), .tup (SqT.of et2) (.cons (.str _) (.cons (.int _) .nil)), shKd _ _, shKl _, ?_⟩
      rw [eqK3]
      refine ⟨_, rfl, ?_⟩
      refine ⟨_, rfl, _, _, _, _, rfl, rfl, SqT.of er2, rfl, rfl, _, rfl, iteD (fun _ => ?_) fun z => absurd rfl z⟩
      refine ⟨_, rfl, _, _, _, _, rfl, rfl, SqT.of er2, rfl, _, rfl, rfl, _, rfl, iteI (fun h3 => ?_) fun h3 => ?_⟩
      · rw [if_pos h3, if_neg h2] at q
        exact q _ s2
      · rw [if_neg h3] at q
        exact q _ s2
def spOverF (K : PySem.W.Frag) : Sp := fun vs H Q _ => ∃ (p n : Int) (a : Addr) (g s m : Int), vs = [.int p, .int n, .ref a] ∧ Mould K H a g s m ∧ 0 ≤ p ∧ p < manyZ g s m ∧ 0 ≤ n ∧ ∀ H', Same H H' → Q (.int (overZ g s p n)) H'
theorem ok_over_factor (T : Txt K mg) {dv : V} (D_power : Dn P w K mg base CX0 2 "power" ["one", "many"] spPower) (D_kind_of : DnK P w K mg base CX0 8 "kind_of" ["place"] "shape" dv (spKind K)) (D_mark : DnK P w K mg base CX0 9 "mark" ["place"] "shape" dv (spMark K)) (F : At K mg "over_factor" s_over_factor ["place", "number", "shape"]) : Dn P w K mg base CX0 10 "over_factor" ["place", "number", "shape"] (spOverF K) := by
  refine F.ok sc_over_factor (fun vs H Q E h => ?_) (fun f cdv A outer s H vs Q E hr h => ?_)
  · obtain ⟨p, n, a, g, s, m, rfl, _⟩ := h
    rfl
  · obtain ⟨p, gr, a, g, z, m, rfl, M, p0, p1, n0, q⟩ := h
    obtain ⟨ha, g1, g4, s1, s4, m0, m2⟩ := id M
    refine ⟨_, (pss_cons (ps_set (i := 3) sc_over_factor.nd rfl (by first | exact Or.inl rfl | exact Or.inr rfl) (pe_callW D_kind_of (by first | exact hr | exact hr.mono (by decide)) (pa_cons (pv 0) pa_nil) (pv 2)))
  (pss_cons (ps_if (pt_cmpR (r := rEqD K) (op_eqD hr.units) (pv 3) (pe_tup (pa_cons pe_str (pa_cons (pv 1) pa_nil))) (nomark _)) (pss_one (ps_ret (pe_op op_sub (pe_glob rfl T.g_PRIME (by exact T.v_PRIME)) pe_int))) pss_nil)
  (pss_cons (ps_if (pt_cmpR op_eq (pe_ix (r := rIxT K) ix_tup (pv 3) pe_int (fun _ _ => rfl)) pe_str (nomark _)) (pss_one (ps_ret (pe_callD D_power (by first | exact hr | exact hr.mono (by decide)) (pa_cons (pe_callW D_mark (by first | exact hr | exact hr.mono (by decide)) (pa_cons (pv 0) pa_nil) (pv 2)) (pa_cons (pv 1) pa_nil))))) pss_nil)
  (pss_one (ps_ret pe_int))))), ?_⟩
    refine ⟨_, rfl, _, rfl, rfl, rfl, p, a, g, z, m, rfl, M, p0, p1, fun r H1 s1' er => ?_⟩
    refine ⟨_, rfl, _, rfl, (by show 2 ≤ sizeLine; decide), fun t nt => ?_⟩
    have s2 := Same.trans s1' (Same.new (o := .tup [.str "over", .int gr]) nt)
    have er2 : upd H1 t (.tup [.str "over", .int gr]) r = some (.tup (kindV g z p)) := old er nt
    have et2 : upd H1 t (.tup [.str "over", .int gr]) t = some (.tup [.str "over", .int gr]) := upd_same
    generalize upd H1 t (.tup [.str "over", .int gr]) = H2 at *
    unfold kindV at er2
    unfold overZ at q
    by_cases h1 : p / (z + 1) ≥ g
    · rw [if_pos h1] at er2 q
      refine ⟨_, _, .tup (SqT.of er2) (.cons (.str _) (.cons (.int _) .nil)), .tup (SqT.of et2) (.cons (.str _) (.cons (.int _) .nil)), shKo _, shKo _, ?_⟩
      rw [eqK2]
      by_cases h3 : p - g * (z + 1) + 1 = gr
      · rw [if_pos h3] at q
        refine ⟨_, rfl, ?_⟩
        rw [show (Str.ofString "over" == Str.ofString "over" && p - g * (z + 1) + 1 == gr) = true by rw [h3]; simp]
        refine iteT ⟨_, _, rfl, rfl, ?_⟩
        exact q _ s2
      · rw [if_neg h3] at q
        refine ⟨_, rfl, ?_⟩
        rw [show (Str.ofString "over" == Str.ofString "over" && p - g * (z + 1) + 1 == gr) = false by simp [h3]]
        refine iteF ⟨_, rfl, _, _, _, _, rfl, rfl, SqT.of er2, rfl, rfl, _, rfl, iteD (fun z => absurd z (by decide)) fun _ => ?_⟩
        exact q _ s2
    rw [if_neg h1] at er2 q
    by_cases h2 : p % (z + 1) = z
    · rw [if_pos h2] at er2 q
      refine ⟨_, _, .tup (SqT.of er2) (.cons (.str _) (.cons (.int _) .nil)), .tup (SqT.of et2) (.cons (.str _) (.cons (.int _) .nil)), shKl _, shKo _, ?_⟩
      rw [eqK2]
      refine ⟨_, rfl, ?_⟩
      refine ⟨_, rfl, _, _, _, _, rfl, rfl, SqT.of er2, rfl, rfl, _, rfl, iteD (fun z => absurd z (by decide)) fun _ => ?_⟩
      exact q _ s2
    · rw [if_neg h2] at er2 q
      refine ⟨_, _, .tup (SqT.of er2) (.cons (.str _) (.cons (.int _) (.cons (.int _) .nil))), .tup (SqT.of et2) (.cons (.str _) (.cons (.int _) .nil)), shKd _ _, shKo _, ?_⟩
      rw [eqK3]
      refine ⟨_, rfl, ?_⟩
      refine ⟨_, rfl, _, _, _, _, rfl, rfl, SqT.of er2, rfl, rfl, _, rfl, iteD (fun _ => ?_) fun z => absurd rfl z⟩
      have hd : isData g z p = true := by
        unfold isData
        rw [decide_eq_true (by omega), decide_eq_true h2]
        rfl
      refine ⟨_, rfl, _, rfl, rfl, rfl, p, a, g, z, m, rfl, M.same s2, p0, p1, hd, fun H3 s3 => ?_⟩
      refine ⟨_, rfl, _, _, rfl, ?_, n0, q _ (Same.trans s2 s3)⟩
      have k0 : 0 ≤ p % (z + 1) := Int.emod_nonneg _ (by omega)
      have k1 : p % (z + 1) < z + 1 := Int.emod_lt_of_pos _ (by omega)
      have k2 : ∀ i : Nat, 0 ≤ ([1, 11, 40, 30] : List Int).getD i 0 ∧ ([1, 11, 40, 30] : List Int).getD i 0 ≤ 40
        | 0 | 1 | 2 | 3 => by decide
        | n + 4 => ⟨Int.le_refl 0, by show (0 : Int) ≤ 40; decide⟩
      have := k2 (p / (z + 1)).toNat
      have h9 : 100 < 2 ^ 250 := by decide
      unfold Bd markZ
      omega
def rowL (g s m : Int) (i : Nat) : List Int := (List.range (manyZ g s m).toNat).map fun (p : Nat) => localZ g s p i
def rowO (g s m : Int) (n : Nat) : List Int := (List.range (manyZ g s m).toNat).map fun (p : Nat) => overZ g s p (1 + n)
def checksM (g s m : Int) : List (List Int) := (List.range g.toNat).map (rowL g s m) ++ (List.range m.toNat).map (rowO g s m)
def spChecks (K : PySem.W.Frag) : Sp := fun vs H Q _ => ∃ (a : Addr) (g s m : Int), vs = [.ref a] ∧ Mould K H a g s m ∧ ∀ r as H', Same H H' → Mat H' r as (checksM g s m) → (∀ b ∈ r :: as, H b = none) → Q (.ref r) H'
theorem ok_checks (T : Txt K mg) {dv : V} (D_count : DnK P w K mg base CX0 5 "count" [] "shape" dv (spCount K)) (D_local_factor : Dn P w K mg base CX0 9 "local_factor" ["place", "group", "shape"] (spLocal K)) (D_over_factor : Dn P w K mg base CX0 10 "over_factor" ["place", "number", "shape"] (spOverF K)) (F : AtK K mg "checks" s_checks [] "shape" dv) : DnK P w K mg base CX0 11 "checks" [] "shape" dv (spChecks K) := by
  refine F.ok sc_checks (fun vs H Q E h => ?_) (fun f cdv A outer s H vs Q E hr h => ?_)
  · obtain ⟨a, g, s, m, rfl, _⟩ := h
    rfl
  · obtain ⟨a, g, z, m, rfl, M, q⟩ := h
    obtain ⟨ha, g1, g4, s1, s4, m0, m2⟩ := id M
    obtain ⟨l1, l2, l3, l4⟩ := M.le
    refine ⟨_, (pss_cons (ps_set (i := 1) sc_checks.nd rfl (by first | exact Or.inl rfl | exact Or.inr rfl) (pe_callTy cr_range1 (by rfl) T.n_range (by decide +kernel) (pa_cons (pe_callW0 D_count (by first | exact hr | exact hr.mono (by decide)) (pv 0)) pa_nil)))
  (pss_cons (ps_asg (pv 0) (pg_tup (by rfl) (pgs_cons (pg_name (i := 2) sc_checks.nd rfl (by first | exact Or.inl rfl | exact Or.inr rfl)) (pgs_cons (pg_name (i := 3) sc_checks.nd rfl (by first | exact Or.inl rfl | exact Or.inr rfl)) (pgs_cons (pg_name (i := 4) sc_checks.nd rfl (by first | exact Or.inl rfl | exact Or.inr rfl)) pgs_nil)))))
  (pss_cons (ps_setLc (i := 7) (own := [("group", 5)]) (g := (gName 5)) (by rfl) sc_checks.nd rfl rfl (sw_true rfl rfl rfl (by decide +kernel)) (pi_range1 (by rfl) T.n_range (pa_cons (pv 2) pa_nil)) (blkOk_by (own := [("group", 5)]) (N := ["shape", "places", "groups", "_", "sums", "group", "place", "rows", "number"]) (sc := defScope s_checks) (by decide +kernel)) (fun _ _ _ _ _ => (pg_name (i := 5) sc_checks.nd rfl (by first | exact Or.inl rfl | exact Or.inr rfl) (by first | exact Or.inr rfl | exact Or.inl rfl))) (fun _ _ _ _ _ => pts_nil) (fun _ _ _ _ _ => (pe_lc (own := [("place", 6)]) (g := (gName 6)) (by rfl) sc_checks.nd (pi_rng (pv 1)) (blkOk_by (own := [("place", 6)]) (by kernel_rfl)) (fun _ _ _ _ _ => (pg_name (i := 6) sc_checks.nd rfl (by first | exact Or.inl rfl | exact Or.inr rfl) (by first | exact Or.inr rfl | exact Or.inl rfl))) (fun _ _ _ _ _ => pts_nil) (fun _ _ _ _ _ => (pe_callD D_local_factor (by first | exact hr | exact hr.mono (by decide)) (pa_cons (pv 6) (pa_cons (pv 5) (pa_cons (pv 0) pa_nil))))))))
  (pss_cons (ps_for PassesOwn.never rfl (pi_range2 (by rfl) T.n_range (pa_cons pe_int (pa_cons (pe_op op_add (pv 4) pe_int) pa_nil))) (pg_name (i := 8) sc_checks.nd rfl (by first | exact Or.inl rfl | exact Or.inr rfl))
  (pss_one (ps_expr (pe_bmK K PySem.F.plainAttrs_list PySem.F.slot_list_append PySem.F.type_list_append mt_append (pv 7) (pa_cons (pe_lc (own := [("place", 6)]) (g := (gName 6)) (by rfl) sc_checks.nd (pi_rng (pv 1)) (blkOk_by (own := [("place", 6)]) (N := ["shape", "places", "groups", "_", "sums", "group", "place", "rows", "number"]) (sc := defScope s_checks) (by decide +kernel)) (fun _ _ _ _ _ => (pg_name (i := 6) sc_checks.nd rfl (by first | exact Or.inl rfl | exact Or.inr rfl) (by first | exact Or.inr rfl | exact Or.inl rfl))) (fun _ _ _ _ _ => pts_nil) (fun _ _ _ _ _ => (pe_callD D_over_factor (by first | exact hr | exact hr.mono (by decide)) (pa_cons (pv 6) (pa_cons (pv 8) (pa_cons (pv 0) pa_nil)))))) pa_nil)))))
  (pss_one (ps_ret (pv 7))))))), ?_⟩
    refine ⟨_, rfl, rfl, a, g, z, m, rfl, M, _, rfl, fun r nr => ?_⟩
    have sr := Same.new (o := .rng 0 (manyZ g z m)) nr
    have er : upd H r (.rng 0 (manyZ g z m)) r = some (.rng 0 (manyZ g z m)) := upd_same
    have M1 := M.same sr
    generalize upd H r (.rng 0 (manyZ g z m)) = H1 at *
    refine ⟨_, rfl, _, _, rfl, M1.1, rfl, _, _, rfl, _, _, rfl, _, _, rfl, rfl, ?_⟩
    refine ⟨_, rfl, _, rfl, by omega, by omega, fun D nD => ?_⟩
    refine lc_it walk_range (fun i H' => Same H1 H' ∧ ∃ as, Mat H' D as ((List.range i).map (rowL g z m)) ∧ ∀ b ∈ as, H1 b = none) ⟨Same.new nD, [], Mat.nil upd_same, fun _ h => by cases h⟩ (fun _ _ _ _ => trivial) ?_ ?_
    · intro i x H' H2 hi p y
      obtain ⟨rfl, rfl⟩ := y
      obtain ⟨p1, as, p2, p3⟩ := p
      refine ⟨rfl, _, rfl, r, 0, _, rfl, p1 _ _ er, ⟨by omega, by omega, by omega, by omega⟩, fun d nd => ?_⟩
      refine lc_ints walk_range (fun j => localZ g z (0 + (j : Int)) (0 + (i : Int))) nd (small1000' (by omega)) (fun _ _ => trivial) ?_ ?_
      · intro j x H4 H5 R R' hj s4 y k
        obtain ⟨rfl, rfl⟩ := y
        exact ⟨rfl, _, rfl, _, rfl, _, rfl, _, _, a, g, z, m, rfl, (M1.same p1).same s4, by omega, by omega, k⟩
      · intro H4 s4 e4
        have e5 : (List.range (manyZ g z m - 0).toNat).map (fun (j : Nat) => localZ g z (0 + (j : Int)) (0 + (i : Int))) = rowL g z m i := by
          unfold rowL
          simp only [Int.sub_zero, Int.zero_add]
        rw [e5] at e4
        refine ⟨_, s4 _ _ p2.hd, ?_, ?_, as ++ [d], ?_, ?_⟩
        · rw [List.length_map, p2.len, List.length_map, List.length_range]
          exact Nat.lt_of_lt_of_le (m := 1000000) (by omega) (by decide)
        · intro b o e
          rw [upd_ne (ne_of_none e nD)]
          exact s4 _ _ (p1 _ _ e)
        · rw [List.range_succ, List.map_append]
          exact p2.snoc s4 nd e4
        · intro b hb
          rcases List.mem_append.mp hb with hb | hb
          · exact p3 b hb
          · rw [List.mem_singleton.mp hb]
            cases h : H1 d with
            | none => rfl
            | some o => rw [p1 _ _ h] at nd; cases nd
    · intro H2 p
      obtain ⟨p1, as, p2, p3⟩ := p
      refine ⟨_, rfl, _, _, rfl, rfl, _, _, rfl, ⟨by omega, by omega, by omega, by omega⟩, ?_⟩
      refine for_range (fun i σ H' => ∃ v5 v6 v8, σ = [some (.ref a), some (.ref r), some (.int g), some (.int z), some (.int m), v5, v6, some (.ref D), v8] ∧ Same H1 H' ∧ ∃ as, Mat H' D as ((List.range g.toNat).map (rowL g z m) ++ (List.range i).map (rowO g z m)) ∧ ∀ b ∈ as, H1 b = none) ⟨none, none, none, rfl, p1, as, by rw [List.range_zero, List.map_nil, List.append_nil]; exact p2, p3⟩ ?_ ?_
      · rintro i σ H3 hi ⟨v5, v6, v8, rfl, p1, as, p2, p3⟩
        refine ⟨_, rfl, .inl ⟨rfl, _, SqL.of p2.hd⟩, ?_⟩
        refine ⟨_, rfl, r, 0, _, rfl, p1 _ _ er, ⟨by omega, by omega, by omega, by omega⟩, fun d nd => ?_⟩
        refine lc_ints walk_range (fun j => overZ g z (0 + (j : Int)) (1 + (i : Int))) nd (small1000' (by omega)) (fun _ _ => trivial) ?_ ?_
        · intro j x H4 H5 R R' hj s4 y k
          obtain ⟨rfl, rfl⟩ := y
          exact ⟨rfl, _, rfl, _, rfl, _, rfl, _, _, a, g, z, m, rfl, (M1.same p1).same s4, by omega, by omega, by omega, k⟩
        · intro H4 s4 e4
          have e5 : (List.range (manyZ g z m - 0).toNat).map (fun (j : Nat) => overZ g z (0 + (j : Int)) (1 + (i : Int))) = rowO g z m i := by
            unfold rowO
            simp only [Int.sub_zero, Int.zero_add]
          rw [e5] at e4
          refine ⟨_, _, _, rfl, rfl, s4 _ _ p2.hd, ?_, v5, v6, _, rfl, fun b o e => ?_, as ++ [d], ?_, ?_⟩
          · rw [List.length_map, p2.len, List.length_append, List.length_map, List.length_range, List.length_map, List.length_range]
            exact Nat.lt_of_lt_of_le (m := 1000000) (by omega) (by decide)
          · rw [upd_ne (ne_of_none e nD)]
            exact s4 _ _ (p1 _ _ e)
          · rw [List.range_succ, List.map_append, ← List.append_assoc]
            exact p2.snoc s4 nd e4
          · intro b hb
            rcases List.mem_append.mp hb with hb | hb
            · exact p3 b hb
            · rw [List.mem_singleton.mp hb]
              cases h : H1 d with
              | none => rfl
              | some o => rw [p1 _ _ h] at nd; cases nd
      · rintro σ H3 ⟨v5, v6, v8, rfl, p1, as, p2, p3⟩
        refine ⟨_, rfl, q D as H3 (Same.trans sr p1) ?_ ?_⟩
        · rw [show (m + 1 - 1).toNat = m.toNat by omega] at p2
          exact p2
        · have low : ∀ b, H1 b = none → H b = none := fun b n => by
            cases h : H b with
            | none => rfl
            | some o => rw [sr _ _ h] at n; cases n
          intro b hb
          rcases List.mem_cons.mp hb with rfl | hb
          · exact low _ nD
          · exact low _ (p3 b hb)
theorem cdiv (p Z : Nat) : ((p : Int) / ((Z : Int) + 1)) = ((p / (Z + 1) : Nat) : Int) := by rw [Int.natCast_ediv]; rfl
theorem cmod (p Z : Nat) : ((p : Int) % ((Z : Int) + 1)) = ((p % (Z + 1) : Nat) : Int) := by rw [Int.natCast_emod]; rfl
theorem many_nat (G Z M : Nat) : (manyZ G Z M).toNat = G * (Z + 1) + M := by
  unfold manyZ
  have e : (G : Int) * ((Z : Int) + 1) = ((G * (Z + 1) : Nat) : Int) := by rw [Int.natCast_mul]; rfl
  rw [e]
  omega
theorem local_at {G Z i i' j : Nat} (hi : i < G) (hj : j < Z + 1) : localZ G Z ((i * (Z + 1) + j : Nat) : Int) i' = if i = i' then (if j = Z then 96 else 1) else 0 := by
  unfold localZ
  rw [cdiv, cmod, blk_div hj, blk_mod hj, if_neg (by omega)]
  by_cases h : i = i'
  · rw [if_pos (by omega), if_pos h]
    by_cases h2 : j = Z
    · rw [if_pos (by omega), if_pos h2]
    · rw [if_neg (by omega), if_neg h2]
  · rw [if_neg (by omega), if_neg h]
theorem over_div (G Z t : Nat) : G ≤ (G * (Z + 1) + t) / (Z + 1) := (Nat.le_div_iff_mul_le (by omega)).mpr (by omega)
theorem local_over (G Z i' t : Nat) : localZ G Z ((G * (Z + 1) + t : Nat) : Int) i' = 0 := by
  unfold localZ
  have := over_div G Z t
  rw [cdiv, if_pos (by omega)]
theorem over_at {G Z i j : Nat} (n : Nat) (hi : i < G) (hj : j < Z + 1) : overZ G Z ((i * (Z + 1) + j : Nat) : Int) ((1 : Int) + n) = if j = Z then 0 else sgn i j ^ (n + 1) % 97 := by
  unfold overZ
  rw [cdiv, if_neg (by rw [blk_div hj]; omega), cmod, blk_mod hj]
  by_cases h2 : j = Z
  · rw [if_pos (by omega), if_pos h2]
  · rw [if_neg (by omega), if_neg h2]
    unfold markZ
    rw [cdiv, cmod, blk_div hj, blk_mod hj]
    have e : ((1 : Int) + n).toNat = n + 1 := by omega
    rw [e]
    rfl
theorem over_over (G Z n t : Nat) : overZ G Z ((G * (Z + 1) + t : Nat) : Int) ((1 : Int) + n) = if t = n then 96 else 0 := by
  unfold overZ
  have := over_div G Z t
  rw [cdiv, if_pos (by omega)]
  have e : (((G * (Z + 1) + t : Nat) : Int) - (G : Int) * ((Z : Int) + 1) + 1 = 1 + (n : Int)) ↔ t = n := by
    have e : (G : Int) * ((Z : Int) + 1) = ((G * (Z + 1) : Nat) : Int) := by rw [Int.natCast_mul]; rfl
    rw [e]
    omega
  by_cases h : t = n
  · rw [if_pos (e.mpr h), if_pos h]
  · rw [if_neg (fun z => h (e.mp z)), if_neg h]
theorem rowL_dot {G Z M i : Nat} (hi : i < G) {xs : List Int} (hl : xs.length = G * (Z + 1) + M) : (List.zipWith (· * ·) (rowL G Z M i) xs).sum = locC Z i (fun p => xs.getD p 0) := by
  unfold rowL
  rw [many_nat, dot_range _ _ hl, sm_add, sm_zero (f := fun i_1 => localZ (↑G) (↑Z) (↑(G * (Z + 1) + i_1)) ↑i * xs.getD (G * (Z + 1) + i_1) 0) fun t _ => by rw [local_over]; simp, sm_mul, sm_one (k := i) hi]
  · unfold locC
    rw [sm]
    rw [sm_congr (g := fun j => xs.getD (i * (Z + 1) + j) 0) fun j hj => by rw [local_at hi (by omega), if_pos rfl, if_neg (by omega)]; omega]
    rw [local_at hi (by omega), if_pos rfl, if_pos rfl, Int.add_zero]
  · intro i2 h2 ne
    exact sm_zero fun j hj => by rw [local_at h2 hj, if_neg ne]; simp
theorem sgn_mod {a b c : Int} : (a % 97 * b) % 97 = (a * b) % 97 := by
  rw [Int.mul_emod, Int.emod_emod_of_dvd _ (Int.dvd_refl 97), ← Int.mul_emod]
theorem rowO_dot {G Z M n : Nat} (hn : n < M) {xs : List Int} (hl : xs.length = G * (Z + 1) + M) : (List.zipWith (· * ·) (rowO G Z M n) xs).sum % 97 = ovC G Z n (fun p => xs.getD p 0) % 97 := by
  unfold rowO
  rw [many_nat, dot_range _ _ hl, sm_add]
  rw [sm_one (f := fun i_1 => overZ (↑G) (↑Z) (↑(G * (Z + 1) + i_1)) (1 + ↑n) * xs.getD (G * (Z + 1) + i_1) 0) (k := n) hn fun t _ ne => by rw [over_over, if_neg ne]; simp]
  rw [over_over, if_pos rfl, sm_mul]
  show _ = (sm (fun i => sm (fun j => sgn i j ^ (n + 1) * xs.getD (i * (Z + 1) + j) 0) Z) G + 96 * xs.getD (G * (Z + 1) + n) 0) % 97
  have h := sm_mod (f := fun i => sm (fun j => overZ (↑G) (↑Z) (↑(i * (Z + 1) + j)) (1 + ↑n) * xs.getD (i * (Z + 1) + j) 0) (Z + 1)) (g := fun i => sm (fun j => sgn i j ^ (n + 1) * xs.getD (i * (Z + 1) + j) 0) Z) (n := G) ?_
  · omega
  · intro i hi
    show sm _ (Z + 1) % 97 = _
    rw [sm]
    rw [show overZ (↑G) (↑Z) (↑(i * (Z + 1) + Z)) (1 + ↑n) * xs.getD (i * (Z + 1) + Z) 0 = 0 by rw [over_at n hi (by omega), if_pos rfl]; simp, Int.add_zero]
    refine sm_mod fun j hj => ?_
    rw [over_at n hi (by omega), if_neg (by omega)]
    exact sgn_mod (c := 0)
theorem checks_keep {G Z M : Nat} {xs : List Int} (hl : xs.length = G * (Z + 1) + M) (hx : ∀ x ∈ xs, 0 ≤ x ∧ x ≤ 96) :
    (∀ row ∈ checksM G Z M, (List.zipWith (· * ·) row xs).sum % 97 = 0) ↔ Keeps G Z M (fun p => xs.getD p 0) := by
  rw [keeps_iff fun p hp => by
    have h : p < xs.length := by omega
    rw [List.getD_eq_getElem?_getD, List.getElem?_eq_getElem h]
    exact hx _ (List.getElem_mem h)]
  unfold checksM
  simp only [List.mem_append, List.mem_map, List.mem_range, Int.toNat_natCast]
  constructor
  · intro h
    exact ⟨fun i hi => by rw [← rowL_dot (M := M) hi hl]; exact h _ (.inl ⟨i, hi, rfl⟩), fun n hn => by rw [← rowO_dot hn hl]; exact h _ (.inr ⟨n, hn, rfl⟩)⟩
  · rintro ⟨h1, h2⟩ row (⟨i, hi, rfl⟩ | ⟨n, hn, rfl⟩)
    · rw [rowL_dot hi hl]
      exact h1 i hi
    · rw [rowO_dot hn hl]
      exact h2 n hn
/-- the filling of the data numbers ds, as a list -/
def fillL (G Z M : Nat) (ds : List Int) : List Int := (List.range (G * (Z + 1) + M)).map (fillF G Z fun t => ds.getD t 0)
/-- the data numbers of xs -/
def dataL (G Z : Nat) (xs : List Int) : List Int := (List.range (G * Z)).map fun t => xs.getD (dp Z t) 0
theorem fill_congr {G Z M p : Nat} {d e : Nat → Int} (h : ∀ t, t < G * Z → d t = e t) (hp : p < G * (Z + 1) + M) : fillF G Z d p = fillF G Z e p := by
  have low : ∀ {i j : Nat}, i < G → j < Z → i * Z + j < G * Z := fun {i j} hi hj => by
    have : (i + 1) * Z ≤ G * Z := Nat.mul_le_mul_right _ hi
    rw [Nat.succ_mul] at this
    omega
  rcases place_cases hp with ⟨i, j, hi, hj, rfl⟩ | ⟨i, hi, rfl⟩ | ⟨t, ht, rfl⟩
  · rw [fill_data _ hi hj, fill_data _ hi hj, h _ (low hi hj)]
  · rw [fill_local _ hi, fill_local _ hi, sm_congr fun j hj => h _ (low hi hj)]
  · rw [fill_over, fill_over]
    unfold overS
    rw [sm_congr fun i hi => sm_congr fun j hj => by rw [h _ (low hi hj)]]
theorem keeps_list {G Z M : Nat} {xs : List Int} (hl : xs.length = G * (Z + 1) + M) : fillL G Z M (dataL G Z xs) = xs ↔ Keeps G Z M (fun p => xs.getD p 0) := by
  have e : fillL G Z M (dataL G Z xs) = (List.range (G * (Z + 1) + M)).map (fillF G Z fun t => xs.getD (dp Z t) 0) := by
    unfold fillL
    refine List.map_congr_left fun p hp => ?_
    refine fill_congr (M := M) (fun t ht => ?_) (List.mem_range.mp hp)
    unfold dataL
    exact getD_range _ ht
  rw [e]
  constructor
  · intro h p hp
    have := congrArg (fun l : List Int => l.getD p 0) h
    simp only [getD_range _ hp] at this
    exact this
  · intro h
    conv => rhs; rw [list_getD xs]
    rw [hl]
    exact List.map_congr_left fun p hp => h p (List.mem_range.mp hp)
/-- the products of both, each with each, added up -/
def dot (fs ns : List Int) : Int := (List.zipWith (· * ·) fs ns).sum
def spSop (K : PySem.W.Frag) : Sp := fun vs H Q _ => ∃ (a b : Addr) (fs ns : List Int), vs = [.ref a, .ref b] ∧ SqL K H a (fs.map V.int) ∧ SqL K H b (ns.map V.int) ∧ fs.length ≤ 100000 ∧ (∀ f ∈ fs, -(2 ^ 64) < f ∧ f < 2 ^ 64) ∧
  ∀ H', Same H H' → Q (.int (dot fs ns % 97)) H'
theorem zip_range {α β γ : Type} [Inhabited α] [Inhabited β] (f : α → β → γ) (xs : List α) (ys : List β) : (List.range (min xs.length ys.length)).map (fun i => f (xs.getD i default) (ys.getD i default)) = List.zipWith f xs ys := by
  apply List.ext_getElem?
  intro i
  rw [List.getElem?_map, List.getElem?_zipWith]
  by_cases h : i < min xs.length ys.length
  · rw [List.getElem?_range h]
    have h1 : i < xs.length := by omega
    have h2 : i < ys.length := by omega
    simp [List.getD, h1, h2]
  · have e : (List.range (min xs.length ys.length))[i]? = none := by rw [List.getElem?_eq_none_iff, List.length_range]; omega
    rw [e]
    by_cases h1 : i < xs.length
    · have h2 : ys[i]? = none := by rw [List.getElem?_eq_none_iff]; omega
      rw [h2]
      cases xs[i]? <;> rfl
    · have h2 : xs[i]? = none := by rw [List.getElem?_eq_none_iff]; omega
      rw [h2]
      rfl
theorem ok_sop (T : Txt K mg) (F : At K mg "sum_of_products" s_sum_of_products ["factors", "numbers"]) : Dn P w K mg base CX0 1 "sum_of_products" ["factors", "numbers"] (spSop K) := by
  refine F.ok sc_sum_of_products (fun vs H Q E h => ?_) (fun f cdv A outer s H vs Q E hr h => ?_)
  · obtain ⟨a, b, fs, ns, rfl, _⟩ := h
    rfl
  · obtain ⟨a, b, fs, ns, rfl, ha, hb, hl, hf, q⟩ := h
    refine ⟨_, (pss_one (ps_ret (pe_op op_mod (pe_callB (r := rSum K) (cr_sum rfl) (by rfl) T.n_sum (by decide +kernel) (pa_cons (pe_lc (own := [("factor", 2), ("number", 3)]) (g := (gTup K 2 (gCons (gName 2) (gCons (gName 3) gNil)))) (by rfl) sc_sum_of_products.nd (pi_zip (by rfl) T.n_zip (pa_cons (pv 0) (pa_cons (pv 1) pa_nil))) (blkOk_by (own := [("factor", 2), ("number", 3)]) (N := ["factors", "numbers", "factor", "number"]) (sc := defScope s_sum_of_products) (by decide +kernel)) (fun _ _ _ _ _ => (pg_tup rfl (pgs_cons (pg_name (i := 2) sc_sum_of_products.nd rfl (by first | exact Or.inl rfl | exact Or.inr rfl) (by first | exact Or.inr rfl | exact Or.inl rfl)) (pgs_cons (pg_name (i := 3) sc_sum_of_products.nd rfl (by first | exact Or.inl rfl | exact Or.inr rfl) (by first | exact Or.inr rfl | exact Or.inl rfl)) pgs_nil)))) (fun _ _ _ _ _ => pts_nil) (fun _ _ _ _ _ => (pe_op op_mul (pv 2) (pv 3)))) pa_nil)) (pe_glob rfl T.g_PRIME (by exact T.v_PRIME))))), ?_⟩
    refine ⟨_, rfl, _, rfl, _, _, _, _, rfl, ha, hb, fun D nD => lc_ints (walk_zip rfl) (fun i => fs.getD i default * ns.getD i default) nD ?_ (fun H' s => ⟨s.seq ha, s.seq hb⟩) ?_ ?_⟩
    · rw [List.length_map, List.length_map]
      exact small1000' (by omega)
    · intro i x H1 H2 R R' hi s1 y k
      obtain ⟨t, x1, x2, rfl, nt, rfl, e1, e2⟩ := y
      have z1 : i < fs.length := by simp at hi; omega
      have z2 : i < ns.length := by simp at hi; omega
      obtain rfl := map_get z1 e1
      obtain rfl := map_get z2 e2
      refine ⟨_, _, rfl, SqT.of upd_same, rfl, _, _, rfl, _, _, rfl, rfl, rfl, _, rfl, _, rfl, _, _, rfl, rfl, .inl (hf _ (getD_in z1)), k _ (Same.new nt)⟩
    · intro H1 s1 e1
      refine ⟨_, _, rfl, SqL.of e1, ?_⟩
      refine ⟨_, _, rfl, rfl, (by show (0 : Int) < 97; decide), ?_⟩
      have z := q H1 s1
      unfold dot at z
      rw [← zip_range] at z
      simpa using z
def toI : V → Int
  | .int i => i
  | _ => 0
/-- whether xs is a filling -/
def fillB (G Z M : Nat) (xs : List V) : Bool := decide (xs.length = G * (Z + 1) + M) && (xs.all (fun x => betw x 0 96) && decide (fillL G Z M (dataL G Z (xs.map toI)) = xs.map toI))
theorem all_range {α : Type} (f : α → Bool) (d : α) (xs : List α) : ((List.range xs.length).map fun i => f (xs.getD i d)).all id = xs.all f := by
  rw [Bool.eq_iff_iff, List.all_eq_true, List.all_eq_true]
  constructor
  · intro h x hx
    obtain ⟨i, hi, e⟩ := List.mem_iff_getElem.mp hx
    have := h (f (xs.getD i d)) (List.mem_map.mpr ⟨i, List.mem_range.mpr hi, rfl⟩)
    simpa [List.getD, hi, e] using this
  · intro h b hb
    obtain ⟨i, hi, rfl⟩ := List.mem_map.mp hb
    have hi := List.mem_range.mp hi
    have := h xs[i] (List.getElem_mem hi)
    simpa [List.getD, hi] using this
theorem all_ints : ∀ {xs : List V}, (∀ x ∈ xs, betw x 0 96 = true) → xs = (xs.map toI).map V.int ∧ ∀ i ∈ xs.map toI, 0 ≤ i ∧ i ≤ 96
  | [], _ => ⟨rfl, fun _ h => by cases h⟩
  | x :: xs, h => by
    obtain ⟨h1, h2⟩ := all_ints (xs := xs) fun y hy => h y (List.mem_cons_of_mem _ hy)
    have hx := h x (List.mem_cons_self ..)
    cases x with
    | int i =>
      refine ⟨by rw [List.map_cons, List.map_cons, ← h1]; rfl, fun j hj => ?_⟩
      rcases List.mem_cons.mp hj with rfl | hj
      · have hx : (decide (0 ≤ j) && decide (j ≤ 96)) = true := hx
        rw [Bool.and_eq_true, decide_eq_true_eq, decide_eq_true_eq] at hx
        exact hx
      · exact h2 j hj
    | _ => cases hx
theorem local_bd (g z p i : Int) : 0 ≤ localZ g z p i ∧ localZ g z p i ≤ 96 := by
  unfold localZ
  split <;> (try split) <;> (try split) <;> decide
theorem over_bd (g z p n : Int) : 0 ≤ overZ g z p n ∧ overZ g z p n ≤ 96 := by
  unfold overZ
  split
  · split <;> decide
  · split
    · decide
    · omega
theorem checks_bd {g z m : Int} {row : List Int} (h : row ∈ checksM g z m) : ∀ f ∈ row, 0 ≤ f ∧ f ≤ 96 := by
  intro f hf
  unfold checksM at h
  rcases List.mem_append.mp h with h | h
  · obtain ⟨i, _, rfl⟩ := List.mem_map.mp h
    obtain ⟨p, _, rfl⟩ := List.mem_map.mp hf
    exact local_bd ..
  · obtain ⟨i, _, rfl⟩ := List.mem_map.mp h
    obtain ⟨p, _, rfl⟩ := List.mem_map.mp hf
    exact over_bd ..
theorem checks_row {g z m : Int} {row : List Int} (h : row ∈ checksM g z m) : row.length = (manyZ g z m).toNat := by
  unfold checksM at h
  rcases List.mem_append.mp h with h | h
  · obtain ⟨i, _, rfl⟩ := List.mem_map.mp h
    unfold rowL
    rw [List.length_map, List.length_range]
  · obtain ⟨i, _, rfl⟩ := List.mem_map.mp h
    unfold rowO
    rw [List.length_map, List.length_range]
theorem checks_len (g z m : Int) : (checksM g z m).length = g.toNat + m.toNat := by
  unfold checksM
  rw [List.length_append, List.length_map, List.length_map, List.length_range, List.length_range]
theorem Mould.nat {K : PySem.W.Frag} {H : Hp} {a : Addr} {g z m : Int} (M : Mould K H a g z m) : ∃ G Z N : Nat, g = G ∧ z = Z ∧ m = N := by
  obtain ⟨_, g1, g4, z1, z4, m0, m2⟩ := M
  exact ⟨g.toNat, z.toNat, m.toNat, by omega, by omega, by omega⟩
def spFilling (K : PySem.W.Frag) : Sp := fun vs H Q _ => ∃ (v : V) (n : String) (a : Addr) (g s m : Int), vs = [v, .ref a] ∧ Ty K H v n ∧ Mould K H a g s m ∧
  ((n ≠ "list" ∧ ∀ H', Same H H' → Q (.bl false) H') ∨ ∃ b xs, v = .ref b ∧ SqL K H b xs ∧ xs.length ≤ 1000 ∧ (∀ x ∈ xs, ∃ n, Ty K H x n) ∧ ∀ H', Same H H' → Q (.bl (fillB g.toNat s.toNat m.toNat xs)) H')
theorem ok_filling (T : Txt K mg) {dv : V} (D_count : DnK P w K mg base CX0 5 "count" [] "shape" dv (spCount K)) (D_checks : DnK P w K mg base CX0 11 "checks" [] "shape" dv (spChecks K)) (D_is_rest : Dn P w K mg base CX0 3 "is_rest" ["thing"] (spRest K)) (D_sum_of_products : Dn P w K mg base CX0 1 "sum_of_products" ["factors", "numbers"] (spSop K))
    (F : AtK K mg "is_filling" s_is_filling ["thing"] "shape" dv) : DnK P w K mg base CX0 12 "is_filling" ["thing"] "shape" dv (spFilling K) := by
  refine F.ok sc_is_filling (fun vs H Q E h => ?_) (fun f cdv A outer s H vs Q E hr h => ?_)
  · obtain ⟨v, n, a, g, s, m, rfl, _⟩ := h
    rfl
  · obtain ⟨v, n, a, g, z, m, rfl, ty, M, q⟩ := h
    refine ⟨_, (pss_cons (ps_set (i := 2) sc_is_filling.nd rfl (by first | exact Or.inl rfl | exact Or.inr rfl) (pe_callW0 D_checks (by first | exact hr | exact hr.mono (by decide)) (pv 1)))
  (pss_cons (ps_if (PW.pt (pw_or (pt_not (pt_val (pe_callB (r := rIsi K) call_isi (by rfl) T.n_isinstance (by decide +kernel) (pa_cons (pv 0) (pa_cons (pe_bltn (v := .ty "list") (u := .type "list") (by rfl) T.n_list (by decide +kernel) (by exact rfl)) pa_nil))))) (pw_or1 (pt_cmpR op_ne (pe_callB (r := rLen K) call_len (by rfl) T.n_len (by decide +kernel) (pa_cons (pv 0) pa_nil)) (pe_callW0 D_count (by first | exact hr | exact hr.mono (by decide)) (pv 1)) (nomark _))))) (pss_one (ps_ret pe_bl)) pss_nil)
  (pss_cons (ps_if (pt_not (pt_val (pe_callB (r := rAll K) (cr_all rfl) (by rfl) T.n_all (by decide +kernel) (pa_cons (pe_lc (own := [("number", 3)]) (g := (gName 3)) (by rfl) sc_is_filling.nd (pi_list (pv 0)) (blkOk_by (own := [("number", 3)]) (N := ["thing", "shape", "rows", "number", "row"]) (sc := defScope s_is_filling) (by decide +kernel)) (fun _ _ _ _ _ => (pg_name (i := 3) sc_is_filling.nd rfl (by first | exact Or.inl rfl | exact Or.inr rfl) (by first | exact Or.inr rfl | exact Or.inl rfl))) (fun _ _ _ _ _ => pts_nil) (fun _ _ _ _ _ => (pe_callD D_is_rest (by first | exact hr | exact hr.mono (by decide)) (pa_cons (pv 3) pa_nil)))) pa_nil)))) (pss_one (ps_ret pe_bl)) pss_nil)
  (pss_one (ps_ret (pe_callB (r := rAll K) (cr_all rfl) (by rfl) T.n_all (by decide +kernel) (pa_cons (pe_lc (own := [("row", 4)]) (g := (gName 4)) (by rfl) sc_is_filling.nd (pi_list (pv 2)) (blkOk_by (own := [("row", 4)]) (N := ["thing", "shape", "rows", "number", "row"]) (sc := defScope s_is_filling) (by decide +kernel)) (fun _ _ _ _ _ => (pg_name (i := 4) sc_is_filling.nd rfl (by first | exact Or.inl rfl | exact Or.inr rfl) (by first | exact Or.inr rfl | exact Or.inl rfl))) (fun _ _ _ _ _ => pts_nil) (fun _ _ _ _ _ => (pe_cmpR op_eq (pe_callD D_sum_of_products (by first | exact hr | exact hr.mono (by decide)) (pa_cons (pv 4) (pa_cons (pv 0) pa_nil))) pe_int (nomark _)))) pa_nil))))))), ?_⟩
    refine ⟨_, rfl, rfl, a, g, z, m, rfl, M, fun r as H1 s1 MF fF => ?_⟩
    have ty1 := ty.same s1
    rcases q with ⟨ne, q⟩ | ⟨b, xs, rfl, hb, hl, hm, q⟩
    · have e : (n == "list" || (n == "bool" && "list" == "int")) = false := by simp [ne]
      refine ⟨_, rfl, _, _, _, _, _, rfl, .ty "list", ty1.x, ty1.kit "list", _, rfl, ?_⟩
      rw [e]
      exact q _ s1
    · have tl : Ty K H1 (.ref b) "list" := .lst (s1.seq hb)
      have hb1 := s1.seq hb
      obtain ⟨G, Z, N, rfl, rfl, rfl⟩ := M.nat
      obtain ⟨l1, l2, l3, l4⟩ := M.le
      simp only [Int.toNat_natCast] at q
      refine ⟨_, rfl, _, _, _, _, _, rfl, .ty "list", tl.x, tl.kit "list", _, rfl, ?_⟩
      have mz : manyZ (G : Int) Z N = ((G * (Z + 1) + N : Nat) : Int) := by have := many_nat G Z N; omega
      refine ⟨_, rfl, _, _, rfl, .inl ⟨_, hb1, rfl⟩, _, rfl, rfl, a, G, Z, N, rfl, M.same s1, rfl, _, rfl, iteIn (fun h1 => ?_) fun h1 => ?_⟩
      · have e : fillB G Z N xs = false := by
          unfold fillB
          rw [decide_eq_false (by omega)]
          rfl
        rw [e] at q
        exact q _ s1
      have hl2 : xs.length = G * (Z + 1) + N := by omega
      refine ⟨_, rfl, _, rfl, ⟨_, hb1⟩, fun D nD => ?_⟩
      refine lc_bools walk_list (fun i => betw (xs.getD i .non) 0 96) nD (small1000' (by omega)) (fun H' s => s.seq hb1) ?_ ?_
      · intro i x H2 H3 R R' hi s2 y k
        obtain ⟨rfl, ex⟩ := y
        have ex2 : xs.getD i .non = x := by rw [List.getD_eq_getElem?_getD, ex]; rfl
        obtain ⟨n2, t2⟩ := hm x (List.mem_of_getElem? ex)
        rw [ex2] at k
        exact ⟨rfl, _, rfl, _, _, rfl, (t2.same s1).same s2, k _ (Same.refl _)⟩
      intro H2 s2 e2
      have MF2 := MF.same s2
      have hb2 := s2.seq hb1
      have s02 := Same.trans s1 s2
      refine ⟨_, _, rfl, SqL.of e2, ?_⟩
      rw [all_range (fun x => betw x 0 96)]
      refine ⟨_, rfl, iteBn (fun h2 => ?_) fun h2 => ?_⟩
      · have e : fillB G Z N xs = false := by
          unfold fillB
          rw [h2, Bool.false_and, Bool.and_false]
        rw [e] at q
        exact q _ s02
      obtain ⟨i1, i2⟩ := all_ints (List.all_eq_true.mp h2)
      have li : (xs.map toI).length = G * (Z + 1) + N := by rw [List.length_map, hl2]
      have rl : as.length = (checksM G Z N).length := MF.len
      have rl2 : as.length ≤ 6 := by rw [rl, checks_len]; obtain ⟨_, g1, g4, z1, z4, m0, m2⟩ := M; omega
      refine ⟨_, rfl, _, rfl, ⟨_, SqL.of MF2.hd⟩, fun D3 nD3 => ?_⟩
      refine lc_bools walk_list (fun i => decide (dot ((checksM G Z N).getD i []) (xs.map toI) % 97 = 0)) nD3 (by rw [List.length_map]; exact small1000' (by omega)) (fun H' s => s.seq (SqL.of MF2.hd)) ?_ ?_
      · intro i x H3 H4 R R' hi s3 y k
        obtain ⟨rfl, ex⟩ := y
        rw [List.length_map] at hi
        rw [List.getElem?_map] at ex
        obtain ⟨c, ec, rfl⟩ := Option.map_eq_some_iff.mp ex
        have hi2 : i < (checksM G Z N).length := by omega
        have er : (checksM G Z N).getD i [] = (checksM G Z N)[i] := by simp [List.getD, hi2]
        rw [er] at k
        have hin : (checksM (G : Int) Z N)[i] ∈ checksM (G : Int) Z N := List.getElem_mem _
        have hrow := MF2.get i c _ ec (List.getElem?_eq_getElem hi2)
        refine ⟨rfl, _, rfl, _, rfl, c, b, _, xs.map toI, rfl, SqL.of (s3 _ _ hrow), by rw [← i1]; exact s3.seq hb2, by rw [checks_row hin, many_nat]; omega, fun f hf => ?_, fun H5 s5 => ?_⟩
        · have := checks_bd hin f hf
          omega
        · refine ⟨rfl, ?_⟩
          have k5 := k H5 s5
          have ev : decide (V.int (dot (checksM (G : Int) Z N)[i] (xs.map toI) % 97) = V.int 0) = decide (dot (checksM (G : Int) Z N)[i] (xs.map toI) % 97 = 0) := by simp
          rw [ev]
          exact k5
      intro H4 s4 e4
      refine ⟨_, _, rfl, SqL.of e4, ?_⟩
      rw [List.length_map, rl, all_range (fun row => decide (dot row (xs.map toI) % 97 = 0))]
      have ef : ((checksM (G : Int) Z N).all fun row => decide (dot row (xs.map toI) % 97 = 0)) = fillB G Z N xs := by
        unfold fillB
        rw [h2, decide_eq_true hl2, Bool.true_and, Bool.true_and, Bool.eq_iff_iff, List.all_eq_true, decide_eq_true_eq, keeps_list li, ← checks_keep li i2]
        simp only [decide_eq_true_eq]
        rfl
      rw [ef]
      exact q _ (Same.trans s02 s4)
-- F
theorem dat_listM {G Z N : Nat} (hG : G ≤ 4) (hZ : Z ≤ 4) (hN : N ≤ 2) : ((List.range (G * (Z + 1) + N)).filter fun i : Nat => isData (G : Int) Z (i : Int)) = (List.range (G * Z)).map (dp Z) := by
  have key : ∀ G : Fin 5, ∀ Z : Fin 5, ∀ N : Fin 3, ((List.range (G.val * (Z.val + 1) + N.val)).filter fun i : Nat => isData (G.val : Int) (Z.val : Int) (i : Int)) = (List.range (G.val * Z.val)).map (dp Z.val) := by decide +kernel
  exact key ⟨G, by omega⟩ ⟨Z, by omega⟩ ⟨N, by omega⟩
def placesL (G Z : Nat) : List Int := (List.range (G * Z)).map fun t => ((dp Z t : Nat) : Int)
def spPlaces (K : PySem.W.Frag) : Sp := fun vs H Q _ => ∃ (a : Addr) (g s m : Int), vs = [.ref a] ∧ Mould K H a g s m ∧ ∀ r H', Same H H' → H r = none → H' r = some (.lst ((placesL g.toNat s.toNat).map V.int)) → Q (.ref r) H'
theorem kind_head {g s p : Int} : ∃ w r, kindV g s p = .str w :: r ∧ (w = "data" ↔ isData g s p = true) := by
  unfold kindV isData
  by_cases h1 : p / (s + 1) ≥ g
  · rw [if_pos h1, decide_eq_false (by omega)]
    exact ⟨_, _, rfl, by rw [Bool.false_and]; decide⟩
  · rw [if_neg h1, decide_eq_true (by omega)]
    by_cases h2 : p % (s + 1) = s
    · rw [if_pos h2, decide_eq_false (by simpa using h2)]
      exact ⟨_, _, rfl, by decide⟩
    · rw [if_neg h2, decide_eq_true h2]
      exact ⟨_, _, rfl, by decide⟩
theorem ok_places (T : Txt K mg) {dv : V} (D_count : DnK P w K mg base CX0 5 "count" [] "shape" dv (spCount K)) (D_kind_of : DnK P w K mg base CX0 8 "kind_of" ["place"] "shape" dv (spKind K)) (F : AtK K mg "data_places" s_data_places [] "shape" dv) : DnK P w K mg base CX0 9 "data_places" [] "shape" dv (spPlaces K) := by
  refine F.ok sc_data_places (fun vs H Q E h => ?_) (fun f cdv A outer s H vs Q E hr h => ?_)
  · obtain ⟨a, g, s, m, rfl, _⟩ := h
    rfl
  · obtain ⟨a, g, z, m, rfl, M, q⟩ := h
    obtain ⟨G, Z, N, rfl, rfl, rfl⟩ := M.nat
    obtain ⟨ha, g1, g4, z1, z4, m0, m2⟩ := id M
    obtain ⟨l1, l2, l3, l4⟩ := M.le
    have mz : manyZ (G : Int) Z N = ((G * (Z + 1) + N : Nat) : Int) := by have := many_nat G Z N; omega
    refine ⟨_, (pss_cons (ps_set (i := 1) sc_data_places.nd rfl (by first | exact Or.inl rfl | exact Or.inr rfl) (pe_callTy cr_range1 (by rfl) T.n_range (by decide +kernel) (pa_cons (pe_callW0 D_count (by first | exact hr | exact hr.mono (by decide)) (pv 0)) pa_nil)))
  (pss_one (ps_ret (pe_lc (own := [("place", 2)]) (g := (gName 2)) (by rfl) sc_data_places.nd (pi_rng (pv 1)) (blkOk_by (own := [("place", 2)]) (N := ["shape", "places", "place"]) (sc := defScope s_data_places) (by decide +kernel)) (fun _ _ _ _ _ => (pg_name (i := 2) sc_data_places.nd rfl (by first | exact Or.inl rfl | exact Or.inr rfl) (by first | exact Or.inr rfl | exact Or.inl rfl))) (fun _ _ _ _ _ => (pts_one (pt_cmpR op_eq (pe_ix (r := rIxT K) ix_tup (pe_callW D_kind_of (by first | exact hr | exact hr.mono (by decide)) (pa_cons (pv 2) pa_nil) (pv 0)) pe_int (fun _ _ => rfl)) pe_str (nomark _)))) (fun _ _ _ _ _ => (pv 2)))))), ?_⟩
    refine ⟨_, rfl, rfl, a, G, Z, N, rfl, M, _, rfl, fun r nr => ?_⟩
    have sr := Same.new (o := .rng 0 (manyZ G Z N)) nr
    have er : upd H r (.rng 0 (manyZ G Z N)) r = some (.rng 0 (manyZ G Z N)) := upd_same
    have M1 := M.same sr
    generalize upd H r (.rng 0 (manyZ G Z N)) = H1 at *
    refine ⟨_, rfl, r, 0, _, rfl, er, ⟨by omega, by omega, by omega, by omega⟩, fun D nD => ?_⟩
    refine lc_filt (fun i : Nat => V.int i) walk_range (fun i => i) (fun i => isData G Z i) nD (small1000' (by omega)) (fun _ _ => trivial) ?_ ?_
    · intro i x H2 H3 R R' hi s2 y k1 k2
      obtain ⟨rfl, rfl⟩ := y
      refine ⟨rfl, _, rfl, _, rfl, rfl, rfl, _, a, G, Z, N, rfl, M1.same s2, by omega, by omega, fun t H4 s4 et => ?_⟩
      rw [Int.zero_add] at et
      obtain ⟨w, rr, ek, iw⟩ := kind_head (g := (G : Int)) (s := (Z : Int)) (p := (i : Int))
      rw [ek] at et
      have i0 : V.int (0 + (i : Int)) = V.int (i : Int) := by rw [Int.zero_add]
      refine ⟨_, _, _, .str w, rfl, rfl, SqT.of et, at_of (j := 0) rfl rfl, rfl, _, rfl, iteD (fun h => ?_) fun h => ?_⟩
      · refine ⟨_, rfl, ?_⟩
        show R (V.int (0 + (i : Int))) H4
        rw [i0]
        exact k1 H4 s4 (iw.mp (V.str.inj h))
      · refine k2 H4 s4 ?_
        cases hd : isData G Z i with
        | false => rfl
        | true => exact absurd (congrArg V.str (iw.mpr hd)) h
    · intro H2 s2 e2
      have e3 : (manyZ (G : Int) Z N - 0).toNat = G * (Z + 1) + N := by omega
      rw [List.map_id', e3, dat_listM (by omega) (by omega) (by omega), List.map_map] at e2
      refine q D H2 (Same.trans sr s2) (Same.low sr nD) ?_
      rw [e2, Int.toNat_natCast, Int.toNat_natCast]
      unfold placesL
      rw [List.map_map]
      rfl
theorem in_places {G Z N p : Nat} (hG : G ≤ 4) (hZ : Z ≤ 4) (hN : N ≤ 2) (hp : p < G * (Z + 1) + N) : inV (.int p) ((placesL G Z).map V.int) = isData G Z p := by
  have e := dat_listM hG hZ hN
  unfold inV placesL
  rw [Bool.eq_iff_iff, List.any_eq_true]
  constructor
  · rintro ⟨v, hv, h⟩
    simp only [List.mem_map] at hv
    obtain ⟨q, ⟨t, ht, rfl⟩, rfl⟩ := hv
    have hm : dp Z t ∈ (List.range (G * Z)).map (dp Z) := List.mem_map_of_mem ht
    rw [← e, List.mem_filter] at hm
    have h : (((dp Z t : Nat) : Int) == (p : Int)) = true := h
    rw [beq_iff_eq] at h
    rw [show p = dp Z t by omega]
    exact hm.2
  · intro h
    have hm : p ∈ (List.range (G * (Z + 1) + N)).filter fun i : Nat => isData (G : Int) Z (i : Int) := List.mem_filter.mpr ⟨List.mem_range.mpr hp, h⟩
    rw [e] at hm
    obtain ⟨t, ht, rfl⟩ := List.mem_map.mp hm
    refine ⟨_, List.mem_map_of_mem (List.mem_map_of_mem ht), ?_⟩
    show (((dp Z t : Nat) : Int) == ((dp Z t : Nat) : Int)) = true
    rw [beq_iff_eq]
theorem flat_ints (xs : List Int) : (xs.map V.int).all flatV = true := by
  rw [List.all_eq_true]
  intro v hv
  obtain ⟨x, _, rfl⟩ := List.mem_map.mp hv
  rfl
-- F
theorem range_blk (F : Nat → Int) (i Z : Nat) : (List.range ((i + 1) * (Z + 1))).map F = ((List.range (i * (Z + 1))).map F ++ (List.range Z).map fun j => F (i * (Z + 1) + j)) ++ [F (i * (Z + 1) + Z)] := by
  rw [Nat.succ_mul, List.range_add, List.map_append, List.range_succ]
  simp [Function.comp_def]
theorem cut_ints {ds : List Int} {lo n : Nat} {a b : Int} (ha : a = lo) (hb : b = ((lo + n : Nat) : Int)) (h : lo + n ≤ ds.length) : cutV (ds.map V.int) (some a) (some b) = ((List.range n).map fun j => ds.getD (lo + j) 0).map V.int := by
  subst ha hb
  unfold cutV
  have e1 : HT.sIx (ds.map V.int).length 0 (some (lo : Int)) = lo := by
    unfold HT.sIx
    rw [List.length_map]
    simp only
    split <;> omega
  have e2 : HT.sIx (ds.map V.int).length (ds.map V.int).length (some ((lo + n : Nat) : Int)) = lo + n := by
    unfold HT.sIx
    rw [List.length_map]
    simp only
    split <;> omega
  rw [e1, e2]
  apply List.ext_getElem
  · simp
    omega
  · intro i h1 h2
    have hi : i < n := by simpa using h2
    have h3 : lo + i < ds.length := by omega
    simp [List.getD, h3]
/-- what an over sum has behind i groups and j numbers -/
def ovI (Z : Nat) (d : Nat → Int) (n i : Nat) : Int := sm (fun i => sm (fun j => sgn i j ^ (n + 1) * d (i * Z + j)) Z) i
def ovJ (Z : Nat) (d : Nat → Int) (n i j : Nat) : Int := ovI Z d n i + sm (fun j => sgn i j ^ (n + 1) * d (i * Z + j)) j
theorem sgn_at (i : Nat) (h : i < 4) : atI ([.int 1, .int 11, .int 40, .int 30] : List V) (0 + (i : Int)) = some (.int (([1, 11, 40, 30] : List Int).getD i 0)) := by
  obtain rfl | rfl | rfl | rfl : i = 0 ∨ i = 1 ∨ i = 2 ∨ i = 3 := by omega
  all_goals rfl
theorem sgn_bd {i j : Nat} (h : j < 5) : 0 ≤ sgn i j ∧ sgn i j ≤ 50 := by
  unfold sgn
  have k2 : ∀ i : Nat, 0 ≤ ([1, 11, 40, 30] : List Int).getD i 0 ∧ ([1, 11, 40, 30] : List Int).getD i 0 ≤ 40
    | 0 | 1 | 2 | 3 => by decide
    | n + 4 => ⟨Int.le_refl 0, by show (0 : Int) ≤ 40; decide⟩
  have := k2 i
  omega
def spFilled (K : PySem.W.Frag) : Sp := fun vs H Q _ => ∃ (a b : Addr) (g s m : Int) (ds : List Int), vs = [.ref a, .ref b] ∧ Mould K H a g s m ∧ SqL K H b (ds.map V.int) ∧ ds.length = g.toNat * s.toNat ∧
  ∀ r H', Same H H' → H r = none → H' r = some (.lst ((fillL g.toNat s.toNat m.toNat ds).map V.int)) → Q (.ref r) H'
theorem fill_bd {G Z N : Nat} {ds : List Int} (hl : ds.length = G * Z) (hd : ∀ d ∈ ds, 0 ≤ d ∧ d ≤ 96) {x : Int} (h : x ∈ fillL G Z N ds) : 0 ≤ x ∧ x ≤ 96 := by
  unfold fillL at h
  obtain ⟨p, hp, rfl⟩ := List.mem_map.mp h
  rcases place_cases (List.mem_range.mp hp) with ⟨i, j, hi, hj, rfl⟩ | ⟨i, hi, rfl⟩ | ⟨t, ht, rfl⟩
  · rw [fill_data _ hi hj]
    have : (i + 1) * Z ≤ G * Z := Nat.mul_le_mul_right _ hi
    rw [Nat.succ_mul] at this
    have h : i * Z + j < ds.length := by omega
    rw [List.getD_eq_getElem?_getD, List.getElem?_eq_getElem h]
    exact hd _ (List.getElem_mem h)
  · rw [fill_local _ hi]
    omega
  · rw [fill_over]
    omega
theorem fill_len (G Z N : Nat) (ds : List Int) : (fillL G Z N ds).length = G * (Z + 1) + N := by
  unfold fillL
  rw [List.length_map, List.length_range]
theorem data_fill {G Z N : Nat} {ds : List Int} (hl : ds.length = G * Z) : dataL G Z (fillL G Z N ds) = ds := by
  conv => rhs; rw [list_getD ds]
  unfold dataL
  rw [hl]
  refine List.map_congr_left fun t ht => ?_
  have ht := List.mem_range.mp ht
  have hZ : 0 < Z := by
    cases Z with
    | zero => simp at ht
    | succ n => omega
  have e : t / Z * Z + t % Z = t := by rw [Nat.mul_comm]; exact Nat.div_add_mod t Z
  have hi : t / Z < G := (Nat.div_lt_iff_lt_mul hZ).mpr ht
  have hj : t % Z < Z := Nat.mod_lt _ hZ
  have hp : dp Z t < G * (Z + 1) + N := by
    have := blk_lt (Z := Z) (j := t % Z) hi (by omega)
    unfold dp
    omega
  unfold fillL
  rw [getD_range _ hp]
  unfold dp
  rw [fill_data _ hi hj, e]
theorem cut_sqt {K : PySem.W.Frag} {H : Hp} {p a : Addr} {xs : List V} (h : SqT K H a xs) (n : a ≠ p) : SqT K (cutP p H) a xs := by
  rcases h with (h | ⟨o, h⟩) | h
  · exact .inl (.inl (cutP_of h n))
  · exact .inl (.inr ⟨o, cutP_of h n⟩)
  · exact .inr h
theorem Mould.kp {K : PySem.W.Frag} {H H' : Hp} {a p : Addr} {g s m : Int} (h : Mould K H a g s m) (n : a ≠ p) (k : Kp p H H') : Mould K H' a g s m := ⟨Same.sqt (cutP_same p H') (Same.sqt k.cut (cut_sqt h.1 n)), h.2⟩
-- F
/-- the number of unit t at place p, as the dict of the fixed places tells it -/
theorem unit_get {G Z N t p : Nat} (ht : t < G * Z) (hp : p < G * (Z + 1) + N) :
    (valV (putK ((List.range (G + N)).map fun i => ((Sum.inl ((fx G Z i : Nat) : Int) : Key), V.int (((checksM G Z N).getD i []).getD (dp Z t) 0))) (Sum.inl ((dp Z t : Nat) : Int)) (.int 1)) (Sum.inl (p : Int))).getD (.int 0) = .int (unitF G Z t p) := by
  obtain ⟨i', j', hi', hj', rfl⟩ := t_cases ht
  rw [dp_at hj', valV_put]
  have uk : ∀ i j, i < j → j < G + N → (Sum.inl ((fx G Z i : Nat) : Int) : Key) ≠ Sum.inl ((fx G Z j : Nat) : Int) := fun i j h _ => inl_ne (fx_lt h)
  have at_fx : ∀ i, i < G + N → valV ((List.range (G + N)).map fun i => ((Sum.inl ((fx G Z i : Nat) : Int) : Key), V.int (((checksM G Z N).getD i []).getD (i' * (Z + 1) + j') 0))) (Sum.inl ((fx G Z i : Nat) : Int)) = some (.int (((checksM G Z N).getD i []).getD (i' * (Z + 1) + j') 0)) := fun i h => valV_range uk (Nat.le_refl _) h
  have hdp : i' * (Z + 1) + j' < G * (Z + 1) + N := by have := blk_lt (Z := Z) (j := j') hi' (by omega); omega
  have inl_iff : ∀ a b : Nat, (Sum.inl (a : Int) : Key) = Sum.inl (b : Int) ↔ a = b := fun a b => ⟨fun e => by have := Sum.inl.inj e; omega, fun e => by rw [e]⟩
  rcases place_cases hp with ⟨i, j, hi, hj, rfl⟩ | ⟨i, hi, rfl⟩ | ⟨n, hn, rfl⟩
  · rw [unit_data _ hi hj]
    by_cases h : i * Z + j = i' * Z + j'
    · have e1 := congrArg (· / Z) h
      simp only [bz_div hj, bz_div hj'] at e1
      subst e1
      have : j = j' := by omega
      subst this
      rw [if_pos rfl, if_pos rfl]
      rfl
    · rw [if_neg h, if_neg fun e => ?_, valV_none]
      · rfl
      · intro q hq
        obtain ⟨i2, h2, rfl⟩ := List.mem_map.mp hq
        intro e
        exact fx_not_data (List.mem_range.mp h2) hi hj ((inl_iff _ _).mp e)
      · have e2 := (inl_iff _ _).mp e
        have c1 := congrArg (· / (Z + 1)) e2
        have c2 := congrArg (· % (Z + 1)) e2
        simp only [blk_div (show j < Z + 1 by omega), blk_div (show j' < Z + 1 by omega), blk_mod (show j < Z + 1 by omega), blk_mod (show j' < Z + 1 by omega)] at c1 c2
        subst c1 c2
        exact h rfl
  · have hn : i * (Z + 1) + Z ≠ i' * (Z + 1) + j' := by rw [← fx_local hi]; exact fx_not_data (M := N) (by omega) hi' hj'
    rw [if_neg fun e => hn ((inl_iff _ _).mp e)]
    have := at_fx i (by omega)
    rw [fx_local hi] at this
    rw [this, unit_local hi hj']
    have hrow : (checksM (G : Int) Z N).getD i [] = rowL G Z N i := by
      unfold checksM
      rw [List.getD_eq_getElem?_getD, List.getElem?_append_left (by simp; exact hi)]
      simp [hi]
    rw [hrow]
    unfold rowL
    rw [many_nat, getD_range _ hdp, local_at hi' (by omega), if_neg (show ¬ j' = Z by omega)]
    rfl
  · have hn2 : G * (Z + 1) + n ≠ i' * (Z + 1) + j' := by rw [← fx_over]; exact fx_not_data (M := N) (by omega) hi' hj'
    rw [if_neg fun e => hn2 ((inl_iff _ _).mp e)]
    have := at_fx (G + n) (by omega)
    rw [fx_over] at this
    rw [this, unit_over hi' hj']
    have hrow : (checksM (G : Int) Z N).getD (G + n) [] = rowO G Z N n := by
      unfold checksM
      rw [List.getD_eq_getElem?_getD, List.getElem?_append_right (by simp)]
      simp [hn]
    rw [hrow]
    unfold rowO
    rw [many_nat, getD_range _ hdp, over_at n hi' (by omega), if_neg (show ¬ j' = Z by omega)]
    rfl
theorem fixed_list {G Z N : Nat} (hG : G ≤ 4) (hZ : Z ≤ 4) (hN : N ≤ 2) : ((List.range (G * (Z + 1) + N)).filter fun i : Nat => !isData (G : Int) Z (i : Int)) = (List.range (G + N)).map (fx G Z) := by
  have key : ∀ G : Fin 5, ∀ Z : Fin 5, ∀ N : Fin 3, ((List.range (G.val * (Z.val + 1) + N.val)).filter fun i : Nat => !isData (G.val : Int) (Z.val : Int) (i : Int)) = (List.range (G.val + N.val)).map (fx G.val Z.val) := by decide +kernel
  exact key ⟨G, by omega⟩ ⟨Z, by omega⟩ ⟨N, by omega⟩
/-- the units, as lists -/
def unitsL (G Z N : Nat) : List (List Int) := (List.range (G * Z)).map fun t => (List.range (G * (Z + 1) + N)).map (unitF G Z t)
def spUnits (K : PySem.W.Frag) : Sp := fun vs H Q _ => ∃ (a : Addr) (g s m : Int), vs = [.ref a] ∧ Mould K H a g s m ∧ ∀ r as H', Same H H' → Mat H' r as (unitsL g.toNat s.toNat m.toNat) → (∀ b ∈ r :: as, H b = none) → Q (.ref r) H'
theorem ok_units (T : Txt K mg) {dv : V} (D_count : DnK P w K mg base CX0 5 "count" [] "shape" dv (spCount K)) (D_checks : DnK P w K mg base CX0 11 "checks" [] "shape" dv (spChecks K)) (D_data_places : DnK P w K mg base CX0 9 "data_places" [] "shape" dv (spPlaces K)) (F : AtN K mg "units" s_units [] "shape") : DnN P w K mg base CX0 12 "units" [] "shape" (spUnits K) := by
  refine F.ok sc_units (fun vs H Q E h => ?_) (fun f cdv A outer s H vs Q E hr h => ?_)
  · obtain ⟨a, g, s, m, rfl, _⟩ := h
    rfl
  · obtain ⟨a, g, z, m, rfl, M, q⟩ := h
    obtain ⟨G, Z, N, rfl, rfl, rfl⟩ := M.nat
    obtain ⟨ha, g1, g4, z1, z4, m0, m2⟩ := id M
    obtain ⟨l1, l2, l3, l4⟩ := M.le
    have mz : manyZ (G : Int) Z N = ((G * (Z + 1) + N : Nat) : Int) := by have := many_nat G Z N; omega
    refine ⟨_, (pss_cons (ps_set (i := 1) sc_units.nd rfl (by first | exact Or.inl rfl | exact Or.inr rfl) (pe_callW0 D_checks (by first | exact hr | exact hr.mono (by decide)) (pv 0)))
  (pss_cons (ps_set (i := 2) sc_units.nd rfl (by first | exact Or.inl rfl | exact Or.inr rfl) (pe_callW0 D_data_places (by first | exact hr | exact hr.mono (by decide)) (pv 0)))
  (pss_cons (ps_set (i := 3) sc_units.nd rfl (by first | exact Or.inl rfl | exact Or.inr rfl) (pe_callTy cr_range1 (by rfl) T.n_range (by decide +kernel) (pa_cons (pe_callW0 D_count (by first | exact hr | exact hr.mono (by decide)) (pv 0)) pa_nil)))
  (pss_cons (ps_setLc (i := 5) (own := [("place", 4)]) (g := (gName 4)) (by rfl) sc_units.nd rfl rfl (sw_true rfl rfl rfl (by decide +kernel)) (pi_rng (pv 3)) (blkOk_by (own := [("place", 4)]) (N := ["shape", "rows", "data", "places", "place", "fixed", "out", "one", "row", "numbers"]) (sc := defScope s_units) (by decide +kernel)) (fun _ _ _ _ _ => (pg_name (i := 4) sc_units.nd rfl (by first | exact Or.inl rfl | exact Or.inr rfl) (by first | exact Or.inr rfl | exact Or.inl rfl))) (fun _ _ _ _ _ => (pts_one (pt_cmpR (r := rIn K true) op_notIn_seq (pv 4) (pv 2) rfl))) (fun _ _ _ _ _ => (pv 4)))
  (pss_cons (ps_set (i := 6) sc_units.nd rfl (by first | exact Or.inl rfl | exact Or.inr rfl) (pe_lstF pa_nil))
  (pss_cons (ps_for PassesOwn.never rfl (pi_list (pv 2)) (pg_name (i := 7) sc_units.nd rfl (by first | exact Or.inl rfl | exact Or.inr rfl))
  (pss_cons (ps_set (i := 9) sc_units.nd rfl (by first | exact Or.inl rfl | exact Or.inr rfl) (pe_dc (own := [("place", 4), ("row", 8)]) (g := (gTup K 2 (gCons (gName 4) (gCons (gName 8) gNil)))) (by rfl) sc_units.nd (pi_zip (by rfl) T.n_zip (pa_cons (pv 5) (pa_cons (pv 1) pa_nil))) (blkOk_by (own := [("place", 4), ("row", 8)]) (N := ["shape", "rows", "data", "places", "place", "fixed", "out", "one", "row", "numbers"]) (sc := defScope s_units) (by decide +kernel)) (fun _ _ _ _ _ => (pg_tup rfl (pgs_cons (pg_name (i := 4) sc_units.nd rfl (by first | exact Or.inl rfl | exact Or.inr rfl) (by first | exact Or.inr rfl | exact Or.inl rfl)) (pgs_cons (pg_name (i := 8) sc_units.nd rfl (by first | exact Or.inl rfl | exact Or.inr rfl) (by first | exact Or.inr rfl | exact Or.inl rfl)) pgs_nil)))) (fun _ _ _ _ _ => pts_nil) (fun _ _ _ _ _ => (pv 4)) (fun _ _ _ _ _ => (pe_ix (r := rIxL K) ix_list (pv 8) (pv 7) (fun _ _ => rfl)))))
  (pss_cons (ps_dput (hu1 hr.units) (pv 9) (pv 7) pe_int rfl)
  (pss_one (ps_expr (pe_bmK K PySem.F.plainAttrs_list PySem.F.slot_list_append PySem.F.type_list_append mt_append (pv 6) (pa_cons (pe_lc (own := [("place", 4)]) (g := (gName 4)) (by rfl) sc_units.nd (pi_rng (pv 3)) (blkOk_by (own := [("place", 4)]) (N := ["shape", "rows", "data", "places", "place", "fixed", "out", "one", "row", "numbers"]) (sc := defScope s_units) (by decide +kernel)) (fun _ _ _ _ _ => (pg_name (i := 4) sc_units.nd rfl (by first | exact Or.inl rfl | exact Or.inr rfl) (by first | exact Or.inr rfl | exact Or.inl rfl))) (fun _ _ _ _ _ => pts_nil) (fun _ _ _ _ _ => (pe_dget2 (hu1 hr.units) (pv 9) (pv 4) pe_int ⟨rfl, rfl, rfl, rfl⟩))) pa_nil)))))))
  (pss_one (ps_ret (pv 6))))))))), ?_⟩
    refine ⟨_, rfl, rfl, a, G, Z, N, rfl, M, fun ro rs H1 s1 MC fR => ?_⟩
    refine ⟨_, rfl, rfl, a, G, Z, N, rfl, M.same s1, fun da H2 s2 nda eda => ?_⟩
    simp only [Int.toNat_natCast] at eda q
    have s02 := Same.trans s1 s2
    refine ⟨_, rfl, rfl, a, G, Z, N, rfl, M.same s02, _, rfl, fun r nr => ?_⟩
    have sr := Same.new (o := .rng 0 (manyZ G Z N)) nr
    have er : upd H2 r (.rng 0 (manyZ G Z N)) r = some (.rng 0 (manyZ G Z N)) := upd_same
    have M1 := (M.same s02).same sr
    have MC1 := (MC.same s2).same sr
    replace eda := sr _ _ eda
    generalize upd H2 r (.rng 0 (manyZ G Z N)) = H3 at *
    have hown : SqL K H3 da ((placesL G Z).map V.int) := SqL.of eda
    have lp : (placesL G Z).length = G * Z := by
      unfold placesL
      rw [List.length_map, List.length_range]
    have gz : G * Z ≤ 16 := Nat.mul_le_mul (show G ≤ 4 by omega) (show Z ≤ 4 by omega)
    refine ⟨_, rfl, r, 0, _, rfl, er, ⟨by omega, by omega, by omega, by omega⟩, fun D nD => ?_⟩
    refine lc_filt (fun i : Nat => V.int i) walk_range (fun i => i) (fun i => !isData G Z i) nD (small1000' (by omega)) (fun _ _ => trivial) ?_ ?_
    · intro i x H4 H5 R R' hi s4 y k1 k2
      obtain ⟨rfl, rfl⟩ := y
      have ip := in_places (G := G) (Z := Z) (N := N) (by omega) (by omega) (by omega) (p := i) (by omega)
      have i0 : V.int (0 + (i : Int)) = V.int (i : Int) := by rw [Int.zero_add]
      refine ⟨rfl, _, rfl, _, rfl, _, _, rfl, .inl (s4.seq hown), rfl, flat_ints _, ?_⟩
      show ∃ k, V.bl (!inV (V.int (0 + (i : Int))) _) = V.bl k ∧ _
      rw [i0, ip]
      have k1' : ∀ H6, Same H5 H6 → (!isData (G : Int) Z i) = true → R (V.int (0 + (i : Int))) H6 := by rw [i0]; exact k1
      refine ⟨_, rfl, iteBn (fun h2 => ?_) fun h2 => ?_⟩
      · exact ⟨_, rfl, k1' _ (Same.refl _) (by rw [h2]; rfl)⟩
      · exact k2 _ (Same.refl _) (by rw [h2]; rfl)
    intro H4 s4 e4
    have e5 : (manyZ (G : Int) Z N - 0).toNat = G * (Z + 1) + N := by omega
    rw [List.map_id', e5, fixed_list (by omega) (by omega) (by omega), List.map_map] at e4
    refine ⟨Nat.zero_le _, fun out H5 nout s5 eout => ?_⟩
    have s35 := Same.trans s4 s5
    refine ⟨_, rfl, _, rfl, ⟨_, s35.seq hown⟩, ?_⟩
    have fixe := s5 _ _ e4
    have MC5 := MC1.same s35
    have al : rs.length = G + N := by rw [MC.len, checks_len]; omega
    have lf : ((List.range (G + N)).map ((fun i : Nat => V.int (i : Int)) ∘ fx G Z)).length = G + N := by rw [List.length_map, List.length_range]
    refine for_list (xs := (placesL G Z).map V.int) (fun t σ H' => ∃ v4 v7 v8 v9, σ = [some (.ref a), some (.ref ro), some (.ref da), some (.ref r), v4, some (.ref D), some (.ref out), v7, v8, v9] ∧ Same H4 H' ∧ ∃ as, Mat H' out as ((List.range t).map fun t => (List.range (G * (Z + 1) + N)).map (unitF G Z t)) ∧ ∀ b ∈ as, H4 b = none)
      ⟨none, none, none, none, rfl, s5, [], Mat.nil eout, fun _ h => by cases h⟩ (fun i σ H' _ p => ?_) ?_ ?_
    · obtain ⟨_, _, _, _, _, p1, _⟩ := p
      exact p1.seq (s4.seq hown)
    · rintro t x σ H6 ex ⟨v4, v7, v8, v9, rfl, s46, as, p2, p3⟩
      rw [List.getElem?_map] at ex
      obtain ⟨one, eo, rfl⟩ := Option.map_eq_some_iff.mp ex
      have ht : t < G * Z := by rw [← lp]; exact (List.getElem?_eq_some_iff.mp eo).1
      have e1 : one = ((dp Z t : Nat) : Int) := by
        unfold placesL at eo
        rw [List.getElem?_map, List.getElem?_range ht] at eo
        exact (Option.some.inj eo).symm
      subst e1
      obtain ⟨i', j', hi', hj', et⟩ := t_cases ht
      have hdp : dp Z t < G * (Z + 1) + N := by rw [et, dp_at hj']; have := blk_lt (Z := Z) (j := j') hi' (by omega); omega
      have s36 := Same.trans s4 s46
      have MC6 := MC1.same s36
      refine ⟨_, rfl, _, rfl, _, _, _, _, rfl, SqL.of (s46 _ _ e4), SqL.of MC6.hd, fun nu nnu => ?_⟩
      refine dc_map (walk_zip rfl) (fun i => Sum.inl ((fx G Z i : Nat) : Int)) (fun i => V.int (((checksM G Z N).getD i []).getD (dp Z t) 0)) (fun i j h _ => inl_ne (fx_lt h)) nnu (by rw [lf, List.length_map, al, Nat.min_self]; exact Nat.lt_of_lt_of_le (m := 1000) (by omega) (by decide)) (fun H' s => ⟨SqL.of (s _ _ (s46 _ _ e4)), SqL.of (s _ _ MC6.hd)⟩) ?_ ?_
      · intro i x H7 H8 R R' hi s7 y k
        obtain ⟨tu, x1, x2, rfl, ntu, rfl, ex1, ex2⟩ := y
        rw [lf, List.length_map, al, Nat.min_self] at hi
        have ex1' : x1 = V.int ((fx G Z i : Nat) : Int) := by
          have := ex1
          simp only [List.getElem?_map, List.getElem?_range hi] at this
          exact (Option.some.inj this).symm
        obtain ⟨c, ec, ex2'⟩ : ∃ c, rs[i]? = some c ∧ x2 = V.ref c := by
          have := ex2
          simp only [List.getElem?_map] at this
          obtain ⟨c, e1, e2⟩ := Option.map_eq_some_iff.mp this
          exact ⟨c, e1, e2.symm⟩
        subst ex1' ex2'
        have hi2 : i < (checksM (G : Int) Z N).length := by rw [← MC.len, al]; exact hi
        have erow := MC6.get i c _ ec (List.getElem?_eq_getElem hi2)
        have lrow : (checksM (G : Int) Z N)[i].length = G * (Z + 1) + N := by rw [checks_row (List.getElem_mem hi2), many_nat]
        have eat : atI (((checksM (G : Int) Z N)[i]).map V.int) ((dp Z t : Nat) : Int) = some (.int (((checksM (G : Int) Z N).getD i []).getD (dp Z t) 0)) := by
          refine atI_nat ?_
          have h2 : dp Z t < (checksM (G : Int) Z N)[i].length := by omega
          rw [List.getElem?_map, List.getElem?_eq_getElem h2]
          simp [List.getD, hi2, h2]
        have sn := Same.new (o := .tup [V.int ((fx G Z i : Nat) : Int), V.ref c]) ntu
        refine ⟨_, _, rfl, SqT.of upd_same, rfl, _, _, rfl, _, _, rfl, rfl, rfl, _, rfl, _, rfl, _, rfl, _, _, _, _, rfl, rfl, SqL.of (sn _ _ (s7 _ _ erow)), eat, ?_⟩
        exact k _ sn
      · intro H7 s7 e7
        rw [lf, List.length_map, al, Nat.min_self] at e7
        have s47 := Same.trans s46 s7
        refine ⟨_, rfl, _, rfl, _, _, rfl, DPut.k (k := Sum.inl ((dp Z t : Nat) : Int)) e7 (by rw [List.length_map, List.length_range]; exact Nat.lt_of_lt_of_le (m := 1000) (by omega) (by decide)), ?_⟩
        have enu2 : upd H7 nu (.dK (putK ((List.range (G + N)).map fun i => ((Sum.inl ((fx G Z i : Nat) : Int) : Key), V.int (((checksM G Z N).getD i []).getD (dp Z t) 0))) (Sum.inl ((dp Z t : Nat) : Int)) (.int 1))) nu = some _ := upd_same
        have s68 : Same H6 (upd H7 nu (.dK (putK ((List.range (G + N)).map fun i => ((Sum.inl ((fx G Z i : Nat) : Int) : Key), V.int (((checksM G Z N).getD i []).getD (dp Z t) 0))) (Sum.inl ((dp Z t : Nat) : Int)) (.int 1)))) := fun b o e => by
          rw [upd_ne (ne_of_none e nnu)]
          exact s7 _ _ e
        generalize upd H7 nu (.dK (putK ((List.range (G + N)).map fun i => ((Sum.inl ((fx G Z i : Nat) : Int) : Key), V.int (((checksM G Z N).getD i []).getD (dp Z t) 0))) (Sum.inl ((dp Z t : Nat) : Int)) (.int 1))) = H8 at *
        refine ⟨_, rfl, .inl ⟨rfl, _, SqL.of (s68 _ _ p2.hd)⟩, ?_⟩
        refine ⟨_, rfl, r, 0, _, rfl, s68 _ _ (s36 _ _ er), ⟨by omega, by omega, by omega, by omega⟩, fun d nd => ?_⟩
        refine lc_ints walk_range (fun p => unitF G Z t p) nd (small1000' (by omega)) (fun _ _ => trivial) ?_ ?_
        · intro p x H9 H10 R R' hp s9 y k
          obtain ⟨rfl, rfl⟩ := y
          have hp' : p < G * (Z + 1) + N := by omega
          have en9 := s9 _ _ enu2
          have gd := unit_get (N := N) ht hp'
          refine ⟨rfl, _, rfl, _, rfl, .inl ⟨_, .inl en9⟩, _, rfl, ?_⟩
          refine ⟨_, .inl ⟨_, Sum.inl (p : Int), .inl en9, (by show V.int (0 + (p : Int)) = V.int (p : Int); rw [Int.zero_add]), rfl⟩, ?_⟩
          rw [gd]
          exact k _ (Same.refl _)
        · intro H9 s9 e9
          rw [e5] at e9
          have al2 : as.length = t := by rw [p2.len, List.length_map, List.length_range]
          have s69 := Same.trans s68 s9
          refine ⟨_, _, _, rfl, rfl, s69 _ _ p2.hd, by rw [List.length_map, al2]; exact Nat.lt_of_lt_of_le (m := 1000) (by omega) (by decide), ?_⟩
          refine ⟨_, _, _, _, rfl, fun b o e => ?_, as ++ [d], ?_, fun b hb => ?_⟩
          · have : b ≠ out := fun e2 => by rw [e2, nout] at e; cases e
            rw [upd_ne this]
            exact s69 _ _ (s46 _ _ e)
          · rw [List.range_succ, List.map_append]
            exact p2.snoc s69 (Same.low s68 nd) e9
          · rcases List.mem_append.mp hb with hb | hb
            · exact p3 b hb
            · rw [List.mem_singleton.mp hb]
              exact Same.low s46 (Same.low s68 nd)
    · rintro σ H6 ⟨v4, v7, v8, v9, rfl, s46, as, p2, p3⟩
      rw [List.length_map, lp] at p2
      have s06 : Same H H6 := Same.trans s02 (Same.trans sr (Same.trans s4 s46))
      have s04 : Same H H4 := Same.trans s02 (Same.trans sr s4)
      refine ⟨_, rfl, q out as H6 s06 p2 fun b hb => ?_⟩
      rcases List.mem_cons.mp hb with rfl | hb
      · exact Same.low s04 nout
      · exact Same.low s04 (p3 b hb)
-- F
theorem dot_two (ds : List Int) (f : Nat → Int) {n : Nat} (hl : ds.length = n) : dot ds ((List.range n).map f) = sm (fun t => ds.getD t 0 * f t) n := by
  subst hl
  unfold dot
  conv => lhs; rw [list_getD ds]
  rw [List.length_map, List.length_range, zip_map, sum_range]
theorem units_len (G Z N : Nat) : (unitsL G Z N).length = G * Z := by
  unfold unitsL
  rw [List.length_map, List.length_range]
theorem units_at {G Z N t : Nat} (h : t < (unitsL G Z N).length) : (unitsL G Z N)[t] = (List.range (G * (Z + 1) + N)).map (unitF G Z t) := by
  simp [unitsL]
def spFillU (K : PySem.W.Frag) : Sp := fun vs H Q _ => ∃ (nb ba : Addr) (as : List Addr) (G Z N : Nat) (ds : List Int), vs = [.ref nb, .ref ba] ∧ SqL K H nb (ds.map V.int) ∧ Mat H ba as (unitsL G Z N) ∧ 1 ≤ G ∧ G ≤ 4 ∧ 1 ≤ Z ∧ Z ≤ 4 ∧ N ≤ 2 ∧ ds.length = G * Z ∧ (∀ d ∈ ds, 0 ≤ d ∧ d ≤ 96) ∧
  ∀ r H', Same H H' → H r = none → H' r = some (.lst ((fillL G Z N ds).map V.int)) → Q (.ref r) H'
theorem ok_filledU (T : Txt K mg) (D_sum_of_products : Dn P w K mg base CX0 1 "sum_of_products" ["factors", "numbers"] (spSop K)) (F : At K mg "filled" s_filled ["numbers", "basis"]) : Dn P w K mg base CX0 2 "filled" ["numbers", "basis"] (spFillU K) := by
  refine F.ok sc_filled (fun vs H Q E h => ?_) (fun f cdv A outer s H vs Q E hr h => ?_)
  · obtain ⟨nb, ba, as, G, Z, N, ds, rfl, _⟩ := h
    rfl
  · obtain ⟨nb, ba, as, G, Z, N, ds, rfl, hn, MU, g1, g4, z1, z4, n2, hl, hd, q⟩ := h
    have gz : G * Z ≤ 16 := Nat.mul_le_mul g4 z4
    have gz2 : G * (Z + 1) ≤ 20 := Nat.mul_le_mul g4 (show Z + 1 ≤ 5 by omega)
    have gz1 : 1 ≤ G * Z := Nat.mul_le_mul g1 z1
    have al : as.length = G * Z := by rw [MU.len, units_len]
    refine ⟨_, (pss_cons (ps_set (i := 2) sc_filled.nd rfl (by first | exact Or.inl rfl | exact Or.inr rfl) (pe_callTy cr_range1 (by rfl) T.n_range (by decide +kernel) (pa_cons (pe_callB (r := rLen K) call_len (by rfl) T.n_len (by decide +kernel) (pa_cons (pe_ix (r := rIxL K) ix_list (pv 1) pe_int (fun _ _ => rfl)) pa_nil)) pa_nil)))
  (pss_one (ps_ret (pe_lc (own := [("place", 3)]) (g := (gName 3)) (by rfl) sc_filled.nd (pi_rng (pv 2)) (blkOk_by (own := [("place", 3)]) (N := ["numbers", "basis", "places", "place", "unit"]) (sc := defScope s_filled) (by decide +kernel)) (fun _ _ _ _ _ => (pg_name (i := 3) sc_filled.nd rfl (by first | exact Or.inl rfl | exact Or.inr rfl) (by first | exact Or.inr rfl | exact Or.inl rfl))) (fun _ _ _ _ _ => pts_nil) (fun _ _ _ _ _ => (pe_callD D_sum_of_products (by first | exact hr | exact hr.mono (by decide)) (pa_cons (pv 0) (pa_cons (by exact (pe_lc (own := [("unit", 4)]) (g := (gName 4)) (by rfl) sc_filled.nd (pi_listK K (pv 1)) (blkOk_by (own := [("unit", 4)]) (by kernel_rfl)) (fun _ _ _ _ _ => (pg_name (i := 4) sc_filled.nd rfl (by first | exact Or.inl rfl | exact Or.inr rfl) (by first | exact Or.inr rfl | exact Or.inl rfl))) (fun _ _ _ _ _ => pts_nil) (fun _ _ _ _ _ => (pe_ix (r := rIxL K) ix_list (pv 4) (pv 3) (fun _ _ => rfl))))) pa_nil)))))))), ?_⟩
    have h0 : 0 < as.length := by omega
    have e0 : as[0]? = some as[0] := List.getElem?_eq_getElem h0
    have hu0 : 0 < (unitsL G Z N).length := by rw [units_len]; omega
    have r0 := MU.get 0 _ _ e0 (List.getElem?_eq_getElem hu0)
    rw [units_at] at r0
    refine ⟨_, rfl, _, _, _, _, rfl, rfl, SqL.of MU.hd, at_of (v := .ref as[0]) (j := 0) rfl (by rw [List.getElem?_map, e0]; rfl), ?_⟩
    refine ⟨_, _, rfl, .inl ⟨_, SqL.of r0, rfl⟩, _, rfl, fun rg nr => ?_⟩
    rw [List.length_map, List.length_map, List.length_range]
    have sr := Same.new (o := .rng 0 ((G * (Z + 1) + N : Nat) : Int)) nr
    have er : upd H rg (.rng 0 ((G * (Z + 1) + N : Nat) : Int)) rg = some (.rng 0 ((G * (Z + 1) + N : Nat) : Int)) := upd_same
    have MU1 := MU.same sr
    have hn1 := sr.seq hn
    generalize upd H rg (.rng 0 ((G * (Z + 1) + N : Nat) : Int)) = H1 at *
    refine ⟨_, rfl, rg, 0, _, rfl, er, ⟨by omega, by omega, by omega, by omega⟩, fun D nD => ?_⟩
    refine lc_ints walk_range (fillF G Z fun t => ds.getD t 0) nD (small1000' (by omega)) (fun _ _ => trivial) ?_ ?_
    · intro p x H2 H3 R R' hp s2 y k
      obtain ⟨rfl, rfl⟩ := y
      have hp' : p < G * (Z + 1) + N := by omega
      have MU2 := MU1.same s2
      refine ⟨rfl, _, rfl, _, rfl, _, rfl, ⟨_, SqL.of MU2.hd⟩, fun d nd => ?_⟩
      refine lc_ints walk_list (fun t => unitF G Z t p) nd (by rw [List.length_map]; exact small1000' (by omega)) (fun H' s => s.seq (SqL.of MU2.hd)) ?_ ?_
      · intro t x H4 H5 R2 R2' ht s4 y2 k2
        obtain ⟨rfl, ex⟩ := y2
        rw [List.length_map] at ht
        rw [List.getElem?_map] at ex
        obtain ⟨c, ec, rfl⟩ := Option.map_eq_some_iff.mp ex
        have hu : t < (unitsL G Z N).length := by rw [units_len]; omega
        have er2 := MU2.get t c _ ec (List.getElem?_eq_getElem hu)
        rw [units_at] at er2
        refine ⟨rfl, _, rfl, _, rfl, _, _, _, _, rfl, rfl, SqL.of (s4 _ _ er2), ?_, k2 _ (Same.refl _)⟩
        rw [Int.zero_add]
        exact atI_nat (by simp [hp'])
      · intro H4 s4 e4
        rw [List.length_map, al] at e4
        refine ⟨nb, d, ds, _, rfl, s4.seq (s2.seq hn1), SqL.of e4, by omega, fun f hf => ?_, fun H5 s5 => ?_⟩
        · have := hd f hf
          omega
        · rw [dot_two ds (fun t => unitF G Z t p) hl, unit_comb (fun t ht => ?_) hp']
          · exact k _ (Same.trans s4 s5)
          · rw [List.getD_eq_getElem?_getD, List.getElem?_eq_getElem (by omega)]
            exact hd _ (List.getElem_mem (by omega))
    · intro H2 s2 e2
      refine q D H2 (Same.trans sr s2) (Same.low sr nD) ?_
      rw [e2, Int.sub_zero, Int.toNat_natCast]
      rfl
def spChkRow (K : PySem.W.Frag) : Sp := fun vs H Q _ => ∃ (r : Addr) (ns : List Int), vs = [.ref r] ∧ SqL K H r (ns.map V.int) ∧ ns.length ≤ 60 ∧ (∀ d ∈ ns, 0 ≤ d ∧ d ≤ 96) ∧ ∀ H', Same H H' → Q .non H'
theorem ok_check_row (T : Txt K mg) (D_is_rest : Dn P w K mg base CX0 3 "is_rest" ["thing"] (spRest K)) (F : At K mg "check_row" s_check_row ["thing"]) : Dn P w K mg base CX0 4 "check_row" ["thing"] (spChkRow K) := by
  refine F.ok sc_check_row (fun vs H Q E h => ?_) (fun f cdv A outer s H vs Q E hr h => ?_)
  · obtain ⟨r, ns, rfl, _⟩ := h
    rfl
  · obtain ⟨r, ns, rfl, hr', hl, hd, q⟩ := h
    refine ⟨_, (pss_cons (ps_if (PW.pt (pw_or (pt_not (pt_val (pe_callB (r := rIsi K) call_isi (by rfl) T.n_isinstance (by decide +kernel) (pa_cons (pv 0) (pa_cons (pe_bltn (v := .ty "list") (u := .type "list") (by rfl) T.n_list (by decide +kernel) (by exact rfl)) pa_nil))))) (pw_or1 (pt_cmpR op_gt (pe_callB (r := rLen K) call_len (by rfl) T.n_len (by decide +kernel) (pa_cons (pv 0) pa_nil)) (pe_glob rfl T.g_MOST (by exact T.v_MOST)) (nomark _))))) (pss_one ps_never) pss_nil)
  (pss_one (ps_for PassesOwn.never rfl (pi_enum (by rfl) T.n_enumerate (pa_cons (pv 0) pa_nil)) (pg_tup (by rfl) (pgs_cons (pg_name (i := 1) sc_check_row.nd rfl (by first | exact Or.inl rfl | exact Or.inr rfl)) (pgs_cons (pg_name (i := 2) sc_check_row.nd rfl (by first | exact Or.inl rfl | exact Or.inr rfl)) pgs_nil)))
  (pss_one (ps_if (pt_not (pt_val (pe_callD D_is_rest (by first | exact hr | exact hr.mono (by decide)) (pa_cons (pv 2) pa_nil)))) (pss_one ps_never) pss_nil))))), ?_⟩
    have tl : Ty K H (.ref r) "list" := .lst hr'
    refine ⟨_, rfl, _, _, _, _, _, rfl, .ty "list", tl.x, tl.kit "list", _, rfl, ?_⟩
    refine ⟨_, rfl, _, _, rfl, .inl ⟨_, hr', rfl⟩, _, _, rfl, rfl, _, rfl, iteD (fun h => ?_) fun _ => ?_⟩
    · rw [List.length_map] at h
      omega
    refine ⟨_, rfl, _, _, rfl, hr', ?_⟩
    refine for_it (walk_enum (xs := ns.map V.int)) (fun i σ H' => ∃ v1 v2, σ = [some (.ref r), v1, v2] ∧ Same H H') ⟨_, _, rfl, Same.refl _⟩ (fun i σ H' _ p => ?_) ?_ ?_
    · obtain ⟨_, _, _, p1⟩ := p
      exact p1.seq hr'
    · rintro i x σ H1 H2 hi ⟨v1, v2, rfl, p1⟩ y
      obtain ⟨t, x1, x2, rfl, nt, rfl, ex1, ex2⟩ := y
      rw [List.length_map] at hi
      have ex2' : x2 = .int ns[i] := by
        have := ex2
        simp only [List.getElem?_map, List.getElem?_eq_getElem hi] at this
        exact (Option.some.inj this).symm
      subst ex2'
      have sn := Same.new (o := .tup [x1, .int ns[i]]) nt
      refine ⟨_, _, rfl, SqT.of upd_same, rfl, _, _, rfl, _, _, rfl, rfl, _, rfl, _, _, rfl, .int _, ?_⟩
      obtain ⟨h1, h2⟩ := hd _ (List.getElem_mem hi)
      rw [show betw (.int ns[i]) 0 96 = true from betw_t h1 h2]
      exact ⟨_, rfl, _, _, rfl, Same.trans p1 sn⟩
    · rintro σ H1 ⟨v1, v2, rfl, p1⟩
      exact q _ p1
def spCells (K : PySem.W.Frag) : Sp := fun vs H Q _ => ∃ (many : Int) (a : Addr) (g s m : Int), vs = [.int many, .ref a] ∧ Mould K H a g s m ∧ 0 ≤ many ∧ many ≤ 1000 ∧ ∀ H', Same H H' → Q (.int ((many + ((g.toNat * s.toNat : Nat) : Int) - 1) / ((g.toNat * s.toNat : Nat) : Int))) H'
theorem ok_cells (T : Txt K mg) {dv : V} (D_data_places : DnK P w K mg base CX0 9 "data_places" [] "shape" dv (spPlaces K)) (F : AtK K mg "cells_for" s_cells_for ["many"] "shape" dv) : DnK P w K mg base CX0 10 "cells_for" ["many"] "shape" dv (spCells K) := by
  refine F.ok sc_cells_for (fun vs H Q E h => ?_) (fun f cdv A outer s H vs Q E hr h => ?_)
  · obtain ⟨many, a, g, s, m, rfl, _⟩ := h
    rfl
  · obtain ⟨many, a, g, z, m, rfl, M, m0, m1, q⟩ := h
    obtain ⟨G, Z, N, rfl, rfl, rfl⟩ := M.nat
    obtain ⟨ha, g1, g4, z1, z4, _, _⟩ := id M
    simp only [Int.toNat_natCast] at q
    have gz : G * Z ≤ 16 := Nat.mul_le_mul (show G ≤ 4 by omega) (show Z ≤ 4 by omega)
    have gz1 : 1 ≤ G * Z := Nat.mul_le_mul (show 1 ≤ G by omega) (show 1 ≤ Z by omega)
    refine ⟨_, (pss_cons (ps_set (i := 2) sc_cells_for.nd rfl (by first | exact Or.inl rfl | exact Or.inr rfl) (pe_callB (r := rLen K) call_len (by rfl) T.n_len (by decide +kernel) (pa_cons (pe_callW0 D_data_places (by first | exact hr | exact hr.mono (by decide)) (pv 1)) pa_nil)))
  (pss_one (ps_ret (pe_op op_fdivW (pe_op op_sub (pe_op op_add (pv 0) (pv 2)) pe_int) (pv 2))))), ?_⟩
    refine ⟨_, rfl, rfl, a, G, Z, N, rfl, M, fun d H1 s1 nd ed => ?_⟩
    simp only [Int.toNat_natCast] at ed
    have lp : ((placesL G Z).map V.int).length = G * Z := by
      unfold placesL
      rw [List.length_map, List.length_map, List.length_range]
    refine ⟨_, _, rfl, .inl ⟨_, SqL.of ed, rfl⟩, ?_⟩
    rw [lp]
    have : 16 < 2 ^ 10 := by decide
    refine ⟨_, rfl, _, rfl, _, _, rfl, rfl, _, _, rfl, rfl, _, rfl, _, _, rfl, rfl, wide_div (by omega) (b := 10) (by omega) (by decide) (by decide), q _ s1⟩
/-- how many cells many numbers have -/
def cellsN (gz n : Nat) : Nat := (n + gz - 1) / gz
/-- the pieces of ns, by places -/
def laidL (G Z N : Nat) (ns : List Int) : List (List Int) := (List.range (G * (Z + 1) + N)).map fun p => (List.range (cellsN (G * Z) ns.length)).map fun c => fillF G Z (fun t => ns.getD (c * (G * Z) + t) 0) p
theorem cells_ge {gz n : Nat} (h : 1 ≤ gz) : n ≤ cellsN gz n * gz := by
  unfold cellsN
  have := Nat.div_add_mod (n + gz - 1) gz
  have h2 := Nat.mod_lt (n + gz - 1) (show 0 < gz by omega)
  rw [Nat.mul_comm] at this
  omega
theorem cells_int {gz n : Nat} (h : 1 ≤ gz) : (((n : Int) + ((gz : Nat) : Int) - 1) / ((gz : Nat) : Int)) = ((cellsN gz n : Nat) : Int) := by
  unfold cellsN
  rw [Int.natCast_ediv]
  congr 1
  omega
theorem cells_le {gz n : Nat} (h : 1 ≤ gz) : cellsN gz n ≤ n := by
  unfold cellsN
  rcases Nat.eq_zero_or_pos n with rfl | hn
  · rw [Nat.div_eq_of_lt (by omega)]
    omega
  · refine (Nat.div_le_iff_le_mul_add_pred (by omega)).mpr ?_
    have : n ≤ gz * n := Nat.le_mul_of_pos_left n (by omega)
    omega
theorem fill_row {G Z N : Nat} (f : Nat → Int) {ds : List Int} (h : ds = (List.range (G * Z)).map f) : fillL G Z N ds = (List.range (G * (Z + 1) + N)).map (fillF G Z f) := by
  unfold fillL
  refine List.map_congr_left fun p hp => fill_congr (M := N) (fun t ht => ?_) (List.mem_range.mp hp)
  rw [h, getD_range _ ht]
def spLaid (K : PySem.W.Frag) : Sp := fun vs H Q _ => ∃ (r a : Addr) (g s m : Int) (ns : List Int), vs = [.ref r, .ref a] ∧ Mould K H a g s m ∧ H r = some (.lst (ns.map V.int)) ∧ ns.length ≤ 60 ∧ (∀ d ∈ ns, 0 ≤ d ∧ d ≤ 96) ∧
  ∀ d as H', Same H H' → DMat H' d as (laidL g.toNat s.toNat m.toNat ns) → (∀ b ∈ d :: as, H b = none) → Q (.ref d) H'
theorem ok_laid (T : Txt K mg) {dv : V} (D_count : DnK P w K mg base CX0 5 "count" [] "shape" dv (spCount K)) (D_units : DnN P w K mg base CX0 12 "units" [] "shape" (spUnits K)) (D_check_row : Dn P w K mg base CX0 4 "check_row" ["thing"] (spChkRow K)) (D_cells_for : DnK P w K mg base CX0 10 "cells_for" ["many"] "shape" dv (spCells K))
    (D_filled : Dn P w K mg base CX0 2 "filled" ["numbers", "basis"] (spFillU K)) (F : AtK K mg "laid" s_laid ["row"] "shape" dv) : DnK P w K mg base CX0 13 "laid" ["row"] "shape" dv (spLaid K) := by
  refine F.ok sc_laid (fun vs H Q E h => ?_) (fun f cdv A outer s H vs Q E hr h => ?_)
  · obtain ⟨r, a, g, s, m, ns, rfl, _⟩ := h
    rfl
  · obtain ⟨r, a, g, z, m, ns, rfl, M, er, hl, hd, q⟩ := h
    obtain ⟨G, Z, N, rfl, rfl, rfl⟩ := M.nat
    obtain ⟨ha, g1, g4, z1, z4, m0, m2⟩ := id M
    obtain ⟨l1, l2, l3, l4⟩ := M.le
    simp only [Int.toNat_natCast] at q
    have mz : manyZ (G : Int) Z N = ((G * (Z + 1) + N : Nat) : Int) := by have := many_nat G Z N; omega
    have gz : G * Z ≤ 16 := Nat.mul_le_mul (show G ≤ 4 by omega) (show Z ≤ 4 by omega)
    have gz1 : 1 ≤ G * Z := Nat.mul_le_mul (show 1 ≤ G by omega) (show 1 ≤ Z by omega)
    refine ⟨_, (pss_cons (ps_set (i := 2) sc_laid.nd rfl (by first | exact Or.inl rfl | exact Or.inr rfl) (pe_callV0 D_units (by first | exact hr | exact hr.mono (by decide)) (pv 1)))
  (pss_cons (ps_expr (pe_callD D_check_row (by first | exact hr | exact hr.mono (by decide)) (pa_cons (pv 0) pa_nil)))
  (pss_cons (ps_set (i := 3) sc_laid.nd rfl (by first | exact Or.inl rfl | exact Or.inr rfl) (pe_callB (r := rLen K) call_len (by rfl) T.n_len (by decide +kernel) (pa_cons (pv 2) pa_nil)))
  (pss_cons (ps_set (i := 4) sc_laid.nd rfl (by first | exact Or.inl rfl | exact Or.inr rfl) (pe_callW D_cells_for (by first | exact hr | exact hr.mono (by decide)) (pa_cons (pe_callB (r := rLen K) call_len (by rfl) T.n_len (by decide +kernel) (pa_cons (pv 0) pa_nil)) pa_nil) (pv 1)))
  (pss_cons (ps_set (i := 5) sc_laid.nd rfl (by first | exact Or.inl rfl | exact Or.inr rfl) (pe_op op_catF (pv 0) (pe_op op_repF (pe_lstF (pa_cons pe_int pa_nil)) (pe_op op_sub (pe_op op_mul (pv 4) (pv 3)) (pe_callB (r := rLen K) call_len (by rfl) T.n_len (by decide +kernel) (pa_cons (pv 0) pa_nil))))))
  (pss_cons (ps_set (i := 7) sc_laid.nd rfl (by first | exact Or.inl rfl | exact Or.inr rfl) (pe_lc (own := [("cell", 6)]) (g := (gName 6)) (by rfl) sc_laid.nd (pi_range1 (by rfl) T.n_range (pa_cons (pv 4) pa_nil)) (blkOk_by (own := [("cell", 6)]) (N := ["row", "shape", "basis", "wide", "cells", "numbers", "cell", "fillings", "place", "filling"]) (sc := defScope s_laid) (by decide +kernel)) (fun _ _ _ _ _ => (pg_name (i := 6) sc_laid.nd rfl (by first | exact Or.inl rfl | exact Or.inr rfl) (by first | exact Or.inr rfl | exact Or.inl rfl))) (fun _ _ _ _ _ => pts_nil) (fun _ _ _ _ _ => (pe_callD D_filled (by first | exact hr | exact hr.mono (by decide)) (pa_cons (pe_slice (r := rSlLF K) sl_listF (pv 5) (po_some (pe_op op_mul (pv 6) (pv 3))) (po_some (pe_op op_mul (pe_op op_add (pv 6) pe_int) (pv 3)))) (pa_cons (pv 2) pa_nil))))))
  (pss_one (ps_ret (pe_dc (own := [("place", 8)]) (g := (gName 8)) (by rfl) sc_laid.nd (pi_range1 (by rfl) T.n_range (pa_cons (pe_callW0 D_count (by first | exact hr | exact hr.mono (by decide)) (pv 1)) pa_nil)) (blkOk_by (own := [("place", 8)]) (N := ["row", "shape", "basis", "wide", "cells", "numbers", "cell", "fillings", "place", "filling"]) (sc := defScope s_laid) (by decide +kernel)) (fun _ _ _ _ _ => (pg_name (i := 8) sc_laid.nd rfl (by first | exact Or.inl rfl | exact Or.inr rfl) (by first | exact Or.inr rfl | exact Or.inl rfl))) (fun _ _ _ _ _ => pts_nil) (fun _ _ _ _ _ => (pv 8)) (fun _ _ _ _ _ => (pe_lc (own := [("filling", 9)]) (g := (gName 9)) (by rfl) sc_laid.nd (pi_listK K (pv 7)) (blkOk_by (own := [("filling", 9)]) (by kernel_rfl)) (fun _ _ _ _ _ => (pg_name (i := 9) sc_laid.nd rfl (by first | exact Or.inl rfl | exact Or.inr rfl) (by first | exact Or.inr rfl | exact Or.inl rfl))) (fun _ _ _ _ _ => pts_nil) (fun _ _ _ _ _ => (pe_ix (r := rIxL K) ix_list (pv 9) (pv 8) (fun _ _ => rfl)))))))))))))), ?_⟩
    refine ⟨_, rfl, rfl, a, G, Z, N, rfl, M, fun ba bs H1 s1 MU fU => ?_⟩
    simp only [Int.toNat_natCast] at MU
    refine ⟨_, rfl, r, ns, rfl, SqL.of (s1 _ _ er), hl, hd, fun H2 s2 => ?_⟩
    have MU2 := MU.same s2
    have s02 := Same.trans s1 s2
    refine ⟨_, rfl, _, _, rfl, .inl ⟨_, SqL.of MU2.hd, rfl⟩, ?_⟩
    rw [List.length_map, MU.len, units_len]
    refine ⟨_, rfl, _, _, rfl, .inl ⟨_, SqL.of (s02 _ _ er), rfl⟩, ?_⟩
    rw [List.length_map]
    refine ⟨_, rfl, rfl, rfl, _, a, G, Z, N, rfl, M.same s02, by omega, by omega, fun H3 s3 => ?_⟩
    simp only [Int.toNat_natCast]
    rw [cells_int gz1]
    have cn := cells_ge (n := ns.length) gz1
    have cl := cells_le (n := ns.length) gz1
    generalize hC : cellsN (G * Z) ns.length = C at *
    have cz : (C : Int) * ((G * Z : Nat) : Int) = ((C * (G * Z) : Nat) : Int) := (Int.natCast_mul ..).symm
    have cb : C * (G * Z) ≤ 1000 := Nat.le_trans (Nat.mul_le_mul (show C ≤ 60 by omega) gz) (by decide)
    have s03 := Same.trans s02 s3
    have MU3 := MU2.same s3
    refine ⟨_, rfl, (by show 1 ≤ sizeLine; decide), fun l1 H4 nl1 s4 el1 => ?_⟩
    refine ⟨_, rfl, _, rfl, _, _, rfl, rfl, .inl ⟨by omega, by omega⟩, _, rfl, _, _, rfl, .inl ⟨_, SqL.of (s4 _ _ (s03 _ _ er)), rfl⟩, _, _, rfl, rfl, ?_⟩
    rw [List.length_map, cz]
    refine ⟨_, _, _, rfl, rfl, el1, by omega, by omega, (by show 1 * _ ≤ _; rw [Nat.one_mul]; exact small1000' (by omega)), fun l2 H5 nl2 s5 el2 => ?_⟩
    have rep0 : ∀ n : Nat, (List.replicate n [V.int 0]).flatten = (List.replicate n (0 : Int)).map V.int := fun n => by
      induction n with
      | zero => rfl
      | succ n ih => rw [List.replicate_succ, List.flatten_cons, ih, List.replicate_succ]; rfl
    rw [rep0] at el2
    have s05 := Same.trans s03 (Same.trans s4 s5)
    refine ⟨_, _, _, _, rfl, rfl, s05 _ _ er, el2, (by rw [List.length_map, List.length_map, List.length_replicate]; exact small1000' (by omega)), fun nu H6 nnu s6 enu => ?_⟩
    rw [← List.map_append] at enu
    generalize hX : ns ++ List.replicate (((C * (G * Z) : Nat) : Int) - (ns.length : Int)).toNat (0 : Int) = X at enu
    have lX : X.length = C * (G * Z) := by rw [← hX, List.length_append, List.length_replicate]; omega
    have aX : ∀ t, X.getD t 0 = ns.getD t 0 := fun t => by
      rw [← hX, List.getD_eq_getElem?_getD, List.getD_eq_getElem?_getD]
      by_cases h : t < ns.length
      · rw [List.getElem?_append_left h]
      · rw [List.getElem?_append_right (by omega), List.getElem?_replicate, List.getElem?_eq_none (by omega)]
        split <;> rfl
    have s36 := Same.trans s4 (Same.trans s5 s6)
    have s06 := Same.trans s05 s6
    have MU6 := MU3.same s36
    refine ⟨_, rfl, _, rfl, by omega, by omega, fun D nD => ?_⟩
    refine lc_rows walk_range (fun c => fillL G Z N ((List.range (G * Z)).map fun t => ns.getD (c * (G * Z) + t) 0)) nD (Nat.lt_of_lt_of_le (m := 1000) (by omega) (by decide)) (fun _ _ => trivial) ?_ ?_
    · intro c x H7 H8 R R' hc s7 y k
      obtain ⟨rfl, rfl⟩ := y
      have hc' : c < C := by omega
      have low : c * (G * Z) + G * Z ≤ X.length := by
        have : (c + 1) * (G * Z) ≤ C * (G * Z) := Nat.mul_le_mul_right _ hc'
        rw [Nat.succ_mul] at this
        omega
      have e1 : (0 + (c : Int)) * ((G * Z : Nat) : Int) = ((c * (G * Z) : Nat) : Int) := by rw [Int.zero_add]; exact (Int.natCast_mul ..).symm
      have e2 : (0 + (c : Int) + 1) * ((G * Z : Nat) : Int) = ((c * (G * Z) + G * Z : Nat) : Int) := by rw [Int.add_mul, e1]; omega
      refine ⟨rfl, _, rfl, _, rfl, _, rfl, _, _, rfl, rfl, .inl ⟨by omega, by omega⟩, _, rfl, _, rfl, _, _, rfl, rfl, _, rfl, _, _, rfl, rfl, .inl ⟨by omega, by omega⟩, _, rfl, _, _, rfl, SqL.of (s7 _ _ enu), fun sl H9 nsl s9 esl => ?_⟩
      rw [cut_ints e1 e2 low] at esl
      have ef : ((List.range (G * Z)).map fun j => X.getD (c * (G * Z) + j) 0) = (List.range (G * Z)).map fun t => ns.getD (c * (G * Z) + t) 0 := List.map_congr_left fun j _ => aX _
      rw [ef] at esl
      refine ⟨_, rfl, sl, ba, bs, G, Z, N, _, rfl, SqL.of esl, (MU6.same s7).same s9, by omega, by omega, by omega, by omega, by omega, by rw [List.length_map, List.length_range], fun x hx => ?_, fun d H10 s10 nd ed => ?_⟩
      · obtain ⟨t, _, rfl⟩ := List.mem_map.mp hx
        rw [List.getD_eq_getElem?_getD]
        cases h : ns[c * (G * Z) + t]? with
        | none => exact ⟨Int.le_refl 0, by decide⟩
        | some v => exact hd _ (List.mem_of_getElem? h)
      · exact k d H10 (Same.trans s9 s10) (Same.low s9 nd) ed
    · intro H7 as s7 MF fF
      have s07 := Same.trans s06 s7
      rw [Int.toNat_natCast] at MF
      have al : as.length = C := by rw [MF.len, List.length_map, List.length_range]
      refine ⟨_, rfl, rfl, a, G, Z, N, rfl, M.same s07, _, rfl, by omega, by omega, fun D2 nD2 => ?_⟩
      refine dc_rows walk_range (fun p => (List.range C).map fun c => fillF G Z (fun t => ns.getD (c * (G * Z) + t) 0) p) nD2 (Nat.lt_of_lt_of_le (m := 1000) (by omega) (by decide)) (fun _ _ => trivial) ?_ ?_
      · intro p x H8 H9 R R' hp s8 y k
        obtain ⟨rfl, rfl⟩ := y
        have hp' : p < G * (Z + 1) + N := by omega
        have MF8 := MF.same s8
        refine ⟨rfl, _, rfl, ?_⟩
        refine ⟨_, rfl, _, rfl, ⟨_, SqL.of MF8.hd⟩, fun d nd => ?_⟩
        refine lc_ints walk_list (fun c => fillF G Z (fun t => ns.getD (c * (G * Z) + t) 0) p) nd (by rw [List.length_map]; exact small1000' (by omega)) (fun H' s => s.seq (SqL.of MF8.hd)) ?_ ?_
        · intro c x H10 H11 R2 R2' hc s10 y2 k2
          obtain ⟨rfl, ex⟩ := y2
          rw [List.length_map, al] at hc
          rw [List.getElem?_map] at ex
          obtain ⟨b, eb, rfl⟩ := Option.map_eq_some_iff.mp ex
          have erow := MF8.get c b _ eb (by rw [List.getElem?_map, List.getElem?_range hc]; rfl)
          replace erow : H9 b = some (.lst ((fillL G Z N ((List.range (G * Z)).map fun t => ns.getD (c * (G * Z) + t) 0)).map V.int)) := erow
          rw [fill_row (fun t => ns.getD (c * (G * Z) + t) 0) rfl] at erow
          refine ⟨rfl, _, rfl, _, rfl, _, _, _, _, rfl, rfl, SqL.of (s10 _ _ erow), ?_, k2 _ (Same.refl _)⟩
          rw [Int.zero_add]
          exact atI_nat (by simp [hp'])
        · intro H10 s10 e10
          rw [List.length_map, al] at e10
          have := k d H10 s10 nd e10
          rw [show (p : Int) = 0 + (p : Int) by rw [Int.zero_add]] at this
          exact this
      · intro H8 as2 s8 MD fD
        have s68 := Same.trans s7 s8
        rw [show (manyZ (G : Int) Z N).toNat = G * (Z + 1) + N by omega] at MD
        have MD' : DMat H8 D2 as2 (laidL G Z N ns) := by
          unfold laidL
          rw [hC]
          exact MD
        refine q D2 as2 H8 (Same.trans s07 s8) MD' fun b hb => ?_
        rcases List.mem_cons.mp hb with rfl | hb
        · exact Same.low s07 nD2
        · exact Same.low s07 (fD b hb)
def spPurse (K : PySem.W.Frag) : Sp := fun vs H Q _ => ∃ (a : Addr) (ns : List Int) (k : Int), vs = [.ref a, .int k] ∧ SqL K H a (ns.map V.int) ∧ ns.length ≤ 1000 ∧ 0 ≤ k ∧ k ≤ 1000 ∧
  ∀ p x y, H p = none → 0 ≤ x → 0 ≤ y → y < 2 ^ 210 → Q (.ref p) (upd H p (.lst [.int x, .int y, .int 0]))
theorem ok_purse (T : Txt K mg) (F : At K mg "_law_purse" s__law_purse ["script", "k"]) : Dn P w K mg base CX0 1 "_law_purse" ["script", "k"] (spPurse K) := by
  refine F.ok sc__law_purse (fun vs H Q E h => ?_) (fun f cdv A outer s H vs Q E hr h => ?_)
  · obtain ⟨a, ns, k, rfl, _⟩ := h
    rfl
  · obtain ⟨a, ns, k, rfl, hS, hl, k0, k1, q⟩ := h
    have fin : ∀ cell : Int, ∀ p, H p = none → Q (.ref p) (upd H p (.lst [.int (if cell - 10 ^ (18 : Int).toNat > 0 then cell - 10 ^ (18 : Int).toNat else 0), .int (cell % (10 ^ (60 : Int).toNat + 7) + 611953 * k), .int 0])) := fun cell p hp => by
      have h1 : 0 ≤ cell % (10 ^ (60 : Int).toNat + 7) := Int.emod_nonneg _ (by decide)
      have h2 : cell % (10 ^ (60 : Int).toNat + 7) < 10 ^ (60 : Int).toNat + 7 := Int.emod_lt_of_pos _ (by decide)
      have h3 : (10 : Int) ^ (60 : Int).toNat + 7 + 611953 * 1000 < 2 ^ 210 := by decide
      refine q p _ _ hp ?_ ?_ ?_
      · split <;> omega
      · omega
      · omega
    refine ⟨_, (pss_cons (ps_set (i := 2) sc__law_purse.nd rfl (by first | exact Or.inl rfl | exact Or.inr rfl) pe_int)
  (pss_cons (ps_if (pt_cmpR op_lt (pv 1) (pe_callB (r := rLen K) call_len (by rfl) T.n_len (by decide +kernel) (pa_cons (pv 0) pa_nil)) (nomark _)) (pss_one (ps_set (i := 2) sc__law_purse.nd rfl (by first | exact Or.inl rfl | exact Or.inr rfl) (pe_ix (r := rIxL K) ix_list (pv 0) (pv 1) (fun _ _ => rfl)))) pss_nil)
  (pss_one (ps_ret (pe_lst (pa_cons (pe_callB (call_max2 rfl) (by rfl) T.n_max (by decide +kernel) (pa_cons pe_int (pa_cons (pe_op op_sub (pv 2) (pe_op op_pow pe_int pe_int)) pa_nil))) (pa_cons (pe_op op_add (pe_op op_mod (pv 2) (pe_op op_add (pe_op op_pow pe_int pe_int) pe_int)) (pe_op op_mul pe_int (pv 1))) (pa_cons pe_int pa_nil)))))))), ?_⟩
    walk_at "rd"
    refine ⟨_, _, rfl, .inl ⟨_, hS, rfl⟩, _, _, rfl, rfl, _, rfl, iteD (fun hk => ?_) fun _ => ?_⟩
    · obtain ⟨z, _, _, hz⟩ := at_ints (ns := ns) (k := k) k0 (by rw [List.length_map] at hk; exact hk)
      walk_at "rd"
      refine ⟨_, _, _, _, rfl, rfl, hS, hz, _, rfl, _, _, rfl, rfl, ⟨by decide, by decide, by decide⟩, _, _, rfl, rfl, _, _, rfl, _, rfl, _, _, rfl, rfl, ⟨by decide, by decide, by decide⟩, _, _, rfl, rfl, _, _, rfl, rfl, (by show (0 : Int) < _; decide), _, rfl, _, _, rfl, rfl, .inl ⟨by decide, by decide⟩, _, _, rfl, rfl, (by show 3 ≤ sizeLine; decide), fun p hp => fin z p hp⟩
    · refine ⟨_, rfl, _, _, rfl, rfl, ⟨by decide, by decide, by decide⟩, _, _, rfl, rfl, _, _, rfl, _, rfl, _, _, rfl, rfl, ⟨by decide, by decide, by decide⟩, _, _, rfl, rfl, _, _, rfl, rfl, (by show (0 : Int) < _; decide), _, rfl, _, _, rfl, rfl, .inl ⟨by decide, by decide⟩, _, _, rfl, rfl, (by show 3 ≤ sizeLine; decide), fun p hp => fin 0 p hp⟩
/-- a purse at p, of which at most c turns are taken -/
def Purse (H : Hp) (p : Addr) (c : Int) : Prop := ∃ x y z : Int, H p = some (.lst [.int x, .int y, .int z]) ∧ 0 ≤ x ∧ 0 ≤ y ∧ y < 2 ^ 210 ∧ 0 ≤ z ∧ z ≤ c
theorem Purse.mono {H : Hp} {p : Addr} {c d : Int} (h : Purse H p c) (l : c ≤ d) : Purse H p d := by
  obtain ⟨x, y, z, h1, h2, h3, h4, h5, h6⟩ := h
  exact ⟨x, y, z, h1, h2, h3, h4, h5, by omega⟩
theorem Purse.same {H H' : Hp} {p : Addr} {c : Int} (h : Purse H p c) (s : Same H H') : Purse H' p c := by
  obtain ⟨x, y, z, h1, h2⟩ := h
  exact ⟨x, y, z, s _ _ h1, h2⟩
/-- a draw: any number below many -/
def spDrawn : Sp := fun vs H Q _ => ∃ (p : Addr) (c many : Int), vs = [.ref p, .int many] ∧ Purse H p c ∧ c ≤ 100000 ∧ 0 < many ∧ many < 2 ^ 200 ∧
  ∀ v H', 0 ≤ v → v < many → Purse H' p (c + 1) → Kp p H H' → Q (.int v) H'
theorem ok_drawn (F : At K mg "_law_drawn" s__law_drawn ["purse", "many"]) : Dn P w K mg base CX0 1 "_law_drawn" ["purse", "many"] spDrawn := by
  refine F.ok sc__law_drawn (fun vs H Q E h => ?_) (fun f cdv A outer s H vs Q E hr h => ?_)
  · obtain ⟨p, c, many, rfl, _⟩ := h
    rfl
  · obtain ⟨p, c, many, rfl, ⟨x, y, z, hp, x0, y0, y1, z0, zc⟩, c1, m0, m1, q⟩ := h
    refine ⟨_, (pss_cons (ps_if (pt_cmpR op_gt (pe_ix (r := rIxL K) ix_list (pv 0) pe_int (fun _ _ => rfl)) pe_int (nomark _)) (pss_cons (ps_set (i := 2) sc__law_drawn.nd rfl (by first | exact Or.inl rfl | exact Or.inr rfl) (pe_op op_mod (pe_ix (r := rIxL K) ix_list (pv 0) pe_int (fun _ _ => rfl)) (pv 1)))
  (pss_cons (ps_asg (pe_op op_fdivW (pe_ix (r := rIxL K) ix_list (pv 0) pe_int (fun _ _ => rfl)) (pv 1)) (pg_sub (pv 0) pe_int set_list))
  (pss_one (ps_ret (pv 2))))) pss_nil)
  (pss_cons (ps_set (i := 3) sc__law_drawn.nd rfl (by first | exact Or.inl rfl | exact Or.inr rfl) (pe_op op_add (pe_ix (r := rIxL K) ix_list (pv 0) pe_int (fun _ _ => rfl)) pe_int))
  (pss_cons (ps_asg (pv 3) (pg_sub (pv 0) pe_int set_list))
  (pss_cons (ps_set (i := 4) sc__law_drawn.nd rfl (by first | exact Or.inl rfl | exact Or.inr rfl) (pe_op op_mod (pe_op op_powW (pe_op op_add (pe_op op_add (pe_ix (r := rIxL K) ix_list (pv 0) pe_int (fun _ _ => rfl)) (pe_op op_mul (pe_op op_mul pe_int (pv 3)) (pv 3))) (pe_op op_mul pe_int (pv 3))) pe_int) (pe_op op_add (pe_op op_pow pe_int pe_int) pe_int)))
  (pss_cons (ps_set (i := 4) sc__law_drawn.nd rfl (by first | exact Or.inl rfl | exact Or.inr rfl) (pe_op op_mod (pe_op op_powW (pe_op op_add (pv 4) (pe_op op_mul pe_int (pv 3))) pe_int) (pe_op op_add (pe_op op_pow pe_int pe_int) pe_int)))
  (pss_one (ps_ret (pe_op op_mod (pe_op op_fdiv (pv 4) pe_int) (pv 1))))))))), ?_⟩
    refine ⟨_, rfl, _, _, _, _, rfl, rfl, SqL.of hp, rfl, _, _, rfl, rfl, _, rfl, iteD (fun hx => ?_) fun hx => ?_⟩
    · refine ⟨_, rfl, _, _, _, _, rfl, rfl, SqL.of hp, rfl, _, rfl, _, _, rfl, rfl, m0, ?_⟩
      refine ⟨_, rfl, _, _, _, _, rfl, rfl, SqL.of hp, rfl, _, rfl, _, _, rfl, rfl, wide_div m0 (b := 200) (by omega) (by decide) (by decide), ?_⟩
      refine ⟨_, rfl, _, _, _, 0, rfl, rfl, hp, rfl, _, rfl, ?_⟩
      refine q _ _ (Int.emod_nonneg _ (by omega)) (Int.emod_lt_of_pos _ m0) ⟨_, y, z, upd_same, Int.ediv_nonneg x0 (by omega), y0, y1, z0, by omega⟩ Kp.put
    · have t0 : 0 ≤ z + 1 := by omega
      have t1 : z + 1 ≤ 100001 := by omega
      refine ⟨_, rfl, _, _, _, _, rfl, rfl, SqL.of hp, rfl, _, _, rfl, rfl, _, rfl, _, rfl, _, _, _, 2, rfl, rfl, hp, rfl, ?_⟩
      refine ⟨_, rfl, _, _, _, _, rfl, rfl, SqL.of upd_same, rfl, _, rfl, _, _, rfl, rfl, .inl ⟨by decide, by decide⟩, _, rfl, _, _, rfl, rfl, .inl ⟨by omega, by omega⟩, _, _, rfl, rfl, _, rfl, _, _, rfl, rfl, .inl ⟨by decide, by decide⟩, _, _, rfl, rfl, ?_⟩
      have b1 : (15485863 * (z + 1)) * (z + 1) ≤ 15485863 * 100001 * 100001 := Int.mul_le_mul (by omega) t1 t0 (by omega)
      have b0 : 0 ≤ (15485863 * (z + 1)) * (z + 1) := Int.mul_nonneg (by omega) t0
      refine ⟨_, _, rfl, rfl, CPowW.mk (a := 220) (n := 5) ?_ (by decide) (by decide), _, _, rfl, rfl, ⟨by decide, by decide, by decide⟩, _, _, rfl, rfl, _, _, rfl, rfl, (by show (0 : Int) < _; decide), ?_⟩
      · have e : (2 : Int) ^ 210 + 15485863 * 100001 * 100001 + 32452843 * 100001 < 2 ^ 220 := by decide
        have e2 : ((2 : Nat) ^ 220 : Nat) = (2 ^ 220 : Nat) := rfl
        omega
      generalize hm : ((y + 15485863 * (z + 1) * (z + 1) + 32452843 * (z + 1)) ^ (5 : Int).toNat % (10 ^ (18 : Int).toNat + 9) : Int) = m
      have m2 : 0 ≤ m := by rw [← hm]; exact Int.emod_nonneg _ (by decide)
      have m3 : m < 10 ^ (18 : Int).toNat + 9 := by rw [← hm]; exact Int.emod_lt_of_pos _ (by decide)
      refine ⟨_, rfl, _, rfl, _, _, rfl, rfl, .inl ⟨by decide, by decide⟩, _, _, rfl, rfl, _, _, rfl, rfl, CPowW.mk (a := 220) (n := 5) ?_ (by decide) (by decide), _, _, rfl, rfl, ⟨by decide, by decide, by decide⟩, _, _, rfl, rfl, _, _, rfl, rfl, (by show (0 : Int) < _; decide), ?_⟩
      · have e : (10 : Int) ^ (18 : Int).toNat + 9 + 49979687 * 100001 < 2 ^ 220 := by decide
        omega
      refine ⟨_, rfl, _, _, rfl, rfl, ⟨by decide, by decide⟩, _, rfl, _, _, rfl, rfl, m0, ?_⟩
      refine q _ _ (Int.emod_nonneg _ (by omega)) (Int.emod_lt_of_pos _ m0) ⟨x, y, z + 1, upd_same, x0, y0, y1, by omega, by omega⟩ Kp.put
/-- a tuple that is a shape of at most most places -/
def Good (most : Int) (H : Hp) (a : Addr) : Prop := ∃ g s m : Int, H a = some (.tup [.int g, .int s, .int m]) ∧ 1 ≤ g ∧ g ≤ 4 ∧ 1 ≤ s ∧ s ≤ 4 ∧ 0 ≤ m ∧ m ≤ 2 ∧ manyZ g s m ≤ most
theorem Good.same {most : Int} {H H' : Hp} {a : Addr} (h : Good most H a) (e : Same H H') : Good most H' a := by
  obtain ⟨g, s, m, e1, r⟩ := h
  exact ⟨g, s, m, e _ _ e1, r⟩
theorem Good.put {most : Int} {H : Hp} {a D : Addr} {xs : List V} {o : HO} (h : Good most H a) (e : H D = some (.lst xs)) : Good most (upd H D o) a := by
  obtain ⟨g, s, m, e1, r⟩ := h
  refine ⟨g, s, m, ?_, r⟩
  rw [upd_ne fun z => by rw [z, e] at e1; cases e1]
  exact e1
def spMould (K : PySem.W.Frag) : Sp := fun vs H Q _ => ∃ (p : Addr) (c most : Int), vs = [.ref p, .int most] ∧ Purse H p c ∧ c ≤ 100000 ∧ 2 ≤ most ∧
  ∀ a g s m H', Mould K H' a g s m → manyZ g s m ≤ most → Purse H' p (c + 1) → Kp p H H' → H a = none → Q (.ref a) H'
theorem ok_law_shape (T : Txt K mg) (D__law_drawn : Dn P w K mg base CX0 1 "_law_drawn" ["purse", "many"] spDrawn) (F : At K mg "_law_shape" s__law_shape ["purse", "most"]) : Dn P w K mg base CX0 2 "_law_shape" ["purse", "most"] (spMould K) := by
  refine F.ok sc__law_shape (fun vs H Q E h => ?_) (fun f cdv A outer s H vs Q E hr h => ?_)
  · obtain ⟨p, c, most, rfl, _⟩ := h
    rfl
  · obtain ⟨p, c, most, rfl, hp, c1, l0, q⟩ := h
    refine ⟨_, (pss_cons (ps_set (i := 2) sc__law_shape.nd rfl (by first | exact Or.inl rfl | exact Or.inr rfl) (pe_lst pa_nil))
  (pss_cons (ps_for PassesOwn.never rfl (pi_range2 (by rfl) T.n_range (pa_cons pe_int (pa_cons pe_int pa_nil))) (pg_name (i := 3) sc__law_shape.nd rfl (by first | exact Or.inl rfl | exact Or.inr rfl))
  (pss_one (ps_for PassesOwn.never rfl (pi_range2 (by rfl) T.n_range (pa_cons pe_int (pa_cons pe_int pa_nil))) (pg_name (i := 4) sc__law_shape.nd rfl (by first | exact Or.inl rfl | exact Or.inr rfl))
  (pss_one (ps_expr (pe_bmK K PySem.F.plainAttrs_list PySem.F.slot_list_extend PySem.F.type_list_extend mt_extend (pv 2) (pa_cons (pe_lc (own := [("sums", 5)]) (g := (gName 5)) (by rfl) sc__law_shape.nd (pi_range1 (by rfl) T.n_range (pa_cons pe_int pa_nil)) (blkOk_by (own := [("sums", 5)]) (N := ["purse", "most", "found", "groups", "size", "sums"]) (sc := defScope s__law_shape) (by decide +kernel)) (fun _ _ _ _ _ => (pg_name (i := 5) sc__law_shape.nd rfl (by first | exact Or.inl rfl | exact Or.inr rfl) (by first | exact Or.inr rfl | exact Or.inl rfl))) (fun _ _ _ _ _ => (pts_one (pt_cmpR op_le (pe_op op_add (pe_op op_mul (pv 3) (pe_op op_add (pv 4) pe_int)) (pv 5)) (pv 1) (nomark _)))) (fun _ _ _ _ _ => (pe_tup (pa_cons (pv 3) (pa_cons (pv 4) (pa_cons (pv 5) pa_nil)))))) pa_nil)))))))
  (pss_one (ps_ret (pe_ix (r := rIxL K) ix_list (pv 2) (pe_callD D__law_drawn (by first | exact hr | exact hr.mono (by decide)) (pa_cons (pv 0) (pa_cons (pe_callB (r := rLen K) call_len (by rfl) T.n_len (by decide +kernel) (pa_cons (pv 2) pa_nil)) pa_nil))) (fun _ _ => rfl)))))), ?_⟩
    refine ⟨(by show 0 ≤ sizeLine; decide), fun D nD => ?_⟩
    have pD : p ≠ D := fun e => by
      obtain ⟨_, _, _, e1, _⟩ := hp
      rw [e, nD] at e1
      cases e1
    refine ⟨_, _, rfl, ⟨by decide, by decide, by decide, by decide⟩, ?_⟩
    refine for_range (fun i σ H' => ∃ v3 v4 v5, σ = [some (.ref p), some (.int most), some (.ref D), v3, v4, v5] ∧ Same H H' ∧ ∃ as : List Addr, H' D = some (.lst (as.map V.ref)) ∧ as.length ≤ 12 * i ∧ (0 < i → as ≠ []) ∧ ∀ a ∈ as, Good most H' a ∧ H a = none)
      ⟨none, none, none, rfl, Same.new nD, [], upd_same, by decide, fun h => absurd h (by decide), fun _ h => by cases h⟩ ?_ ?_
    · rintro i σ H1 hi ⟨v3, v4, v5, rfl, p1, as, p2, p3, p4, p5⟩
      refine ⟨_, _, rfl, ⟨by decide, by decide, by decide, by decide⟩, ?_⟩
      refine for_range (fun j σ H' => ∃ v4 v5, σ = [some (.ref p), some (.int most), some (.ref D), some (.int (1 + (i : Int))), v4, v5] ∧ Same H H' ∧ ∃ as : List Addr, H' D = some (.lst (as.map V.ref)) ∧ as.length ≤ 12 * i + 3 * j ∧ (0 < i ∨ 0 < j → as ≠ []) ∧ ∀ a ∈ as, Good most H' a ∧ H a = none)
        ⟨v4, v5, rfl, p1, as, p2, by omega, fun h => p4 (by omega), p5⟩ ?_ ?_
      · rintro j σ H2 hj ⟨v4, v5, rfl, p1, as, p2, p3, p4, p5⟩
        refine ⟨_, rfl, .inl ⟨rfl, _, SqL.of p2⟩, ?_⟩
        refine ⟨_, rfl, by decide, by decide, fun d nd => ?_⟩
        refine lc_it walk_range (fun k H' => Same H2 H' ∧ ∃ bs : List Addr, H' d = some (.lst (bs.map V.ref)) ∧ bs.length ≤ k ∧ (0 < k → i = 0 → j = 0 → bs ≠ []) ∧ ∀ a ∈ bs, Good most H' a ∧ H2 a = none) ⟨Same.new nd, [], upd_same, by decide, fun h => absurd h (by decide), fun _ h => by cases h⟩ (fun _ _ _ _ => trivial) ?_ ?_
        · intro k x H' H3 hk pp y
          obtain ⟨rfl, rfl⟩ := y
          obtain ⟨q1, bs, q2, q3, q4, q5⟩ := pp
          have nb : ∀ {t : Addr}, H3 t = none → H2 t = none := fun {t} n => by
            cases h : H2 t with
            | none => rfl
            | some o => rw [q1 _ _ h] at n; cases n
          refine ⟨rfl, _, rfl, _, rfl, _, _, rfl, rfl, _, _, rfl, rfl, .inl ⟨by omega, by omega⟩, _, rfl, _, _, rfl, rfl, _, rfl, _, _, rfl, rfl, _, rfl, iteD (fun hle => ?_) fun hgt => ?_⟩
          · refine ⟨_, rfl, _, rfl, _, rfl, (by show 3 ≤ sizeLine; decide), fun t nt => ?_⟩
            have s3 := Same.new (o := .tup [.int (1 + (i : Int)), .int (1 + (j : Int)), .int (0 + (k : Int))]) nt
            have td : d ≠ t := fun e => by rw [e] at q2; rw [q2] at nt; cases nt
            have ed : upd H3 t (.tup [.int (1 + (i : Int)), .int (1 + (j : Int)), .int (0 + (k : Int))]) d = some (.lst (bs.map V.ref)) := s3 _ _ q2
            refine ⟨_, ed, ?_, fun b o e => ?_, bs ++ [t], by rw [upd_same, List.map_append]; rfl, by rw [List.length_append, List.length_singleton]; omega, fun _ _ _ => by simp, fun a ha => ?_⟩
            · rw [List.length_map]
              exact Nat.lt_of_lt_of_le (m := 1000) (by omega) (by decide)
            · rw [upd_ne (ne_of_none e nd)]
              exact s3 _ _ (q1 _ _ e)
            · rcases List.mem_append.mp ha with ha | ha
              · exact ⟨((q5 a ha).1.same s3).put ed, (q5 a ha).2⟩
              · rw [List.mem_singleton.mp ha]
                refine ⟨⟨1 + (i : Int), 1 + (j : Int), 0 + (k : Int), ?_, by omega, by omega, by omega, by omega, by omega, by omega, hle⟩, nb nt⟩
                rw [upd_ne (Ne.symm td)]
                exact upd_same
          · refine ⟨q1, bs, q2, by omega, fun _ i0 j0 => ?_, q5⟩
            subst i0 j0
            by_cases k0 : k = 0
            · subst k0
              exfalso
              apply hgt
              show _ ≤ _
              omega
            · exact q4 (by omega) rfl rfl
        · intro H3 pp
          obtain ⟨q1, bs, q2, q3, q4, q5⟩ := pp
          have s2 : (3 : Int).toNat = 3 := rfl
          rw [s2] at q3
          refine ⟨_, _, _, _, rfl, rfl, q1 _ _ p2, q2, ?_, _, v5, rfl, fun b o e => ?_, as ++ bs, by rw [upd_same, List.map_append], ?_, fun _ => ?_, fun a ha => ?_⟩
          · rw [List.length_map, List.length_map]
            exact Nat.le_trans (m := 1000) (by omega) (by decide)
          · rw [upd_ne (ne_of_none e nD)]
            exact q1 _ _ (p1 _ _ e)
          · rw [List.length_append]
            omega
          · intro e
            obtain ⟨e1, e2⟩ := List.append_eq_nil_iff.mp e
            by_cases h : 0 < i ∨ 0 < j
            · exact p4 h e1
            · exact q4 (by decide) (by omega) (by omega) e2
          · rcases List.mem_append.mp ha with ha | ha
            · exact ⟨((p5 a ha).1.same q1).put (q1 _ _ p2), (p5 a ha).2⟩
            · refine ⟨(q5 a ha).1.put (q1 _ _ p2), ?_⟩
              cases h : H a with
              | none => rfl
              | some o => have z := (q5 a ha).2; rw [p1 _ _ h] at z; cases z
      · rintro σ H2 ⟨v4, v5, rfl, p1, as, p2, p3, p4, p5⟩
        exact ⟨_, _, _, rfl, p1, as, p2, by omega, fun _ => p4 (.inr (by decide)), p5⟩
    · rintro σ H1 ⟨v3, v4, v5, rfl, p1, as, p2, p3, p4, p5⟩
      have n0 : as ≠ [] := p4 (by decide)
      have l0' : 0 < as.length := by
        cases as with
        | nil => exact absurd rfl n0
        | cons x y => simp
      have lt200 : ((as.length : Nat) : Int) < 2 ^ 200 := by
        have h4 : (5 - 1 : Int).toNat = 4 := rfl
        rw [h4] at p3
        have : (48 : Int) < 2 ^ 200 := by decide
        omega
      refine ⟨_, rfl, _, rfl, _, rfl, _, _, rfl, .inl ⟨_, SqL.of p2, rfl⟩, p, c, _, rfl, hp.same p1, c1, by rw [List.length_map]; omega, by rw [List.length_map]; exact lt200, fun v H2 v0 v1 hp2 k2 => ?_⟩
      rw [List.length_map] at v1
      have hv : v.toNat < as.length := by omega
      have ha : as[v.toNat] ∈ as := List.getElem_mem _
      obtain ⟨g, z, m, e, g1, g4, s1, s4, m0, m2, hm⟩ := (p5 _ ha).1
      have eD := k2 _ _ p2 (Ne.symm pD)
      have ea : H2 as[v.toNat] = some (.tup [.int g, .int z, .int m]) := k2 _ _ e fun z => by
        obtain ⟨_, _, _, e1, _⟩ := hp
        have := (p5 _ ha).2
        rw [z] at this
        rw [this] at e1
        cases e1
      have hat : atI (as.map V.ref) v = some (.ref as[v.toNat]) := by
        obtain ⟨n, rfl⟩ : ∃ n : Nat, v = (n : Int) := ⟨v.toNat, by omega⟩
        refine atI_nat ?_
        rw [List.getElem?_map, List.getElem?_eq_getElem (by simpa using hv)]
        rfl
      refine ⟨_, _, _, _, rfl, rfl, SqL.of eD, hat, ?_⟩
      exact q _ g z m H2 ⟨SqT.of ea, g1, g4, s1, s4, m0, m2⟩ hm hp2 ((Kp.of p1).trans k2) (p5 _ ha).2
-- F
def spData (K : PySem.W.Frag) : Sp := fun vs H Q _ => ∃ (p : Addr) (c wide : Int), vs = [.ref p, .int wide] ∧ Purse H p c ∧ c ≤ 50000 ∧ 0 ≤ wide ∧ wide ≤ 100 ∧
  ∀ (ds : List Int) r H', ds.length = wide.toNat → (∀ d ∈ ds, 0 ≤ d ∧ d ≤ 96) → H' r = some (.lst (ds.map V.int)) → H r = none → Kp p H H' → Purse H' p (c + 1 + 2 * wide) → Q (.ref r) H'
theorem Purse.ne {H : Hp} {p D : Addr} {c : Int} (h : Purse H p c) (n : H D = none) : p ≠ D := fun e => by
  obtain ⟨_, _, _, e1, _⟩ := h
  rw [e, n] at e1
  cases e1
-- F
def spRow (K : PySem.W.Frag) : Sp := fun vs H Q _ => ∃ (p : Addr) (c most : Int), vs = [.ref p, .int most] ∧ Purse H p c ∧ c ≤ 50000 ∧ 0 ≤ most ∧ most ≤ 100 ∧
  ∀ (ns : List Int) r H', (ns.length : Int) ≤ most → (∀ d ∈ ns, 0 ≤ d ∧ d ≤ 96) → H' r = some (.lst (ns.map V.int)) → H r = none → Kp p H H' → Purse H' p (c + 1 + most) → Q (.ref r) H'
theorem ok_row (T : Txt K mg) (D__law_drawn : Dn P w K mg base CX0 1 "_law_drawn" ["purse", "many"] spDrawn) (F : At K mg "_law_row" s__law_row ["purse", "most"]) : Dn P w K mg base CX0 2 "_law_row" ["purse", "most"] (spRow K) := by
  refine F.ok sc__law_row (fun vs H Q E h => ?_) (fun f cdv A outer s H vs Q E hr h => ?_)
  · obtain ⟨p, c, most, rfl, _⟩ := h
    rfl
  · obtain ⟨p, c, most, rfl, hp, hc, m0, m1, q⟩ := h
    refine ⟨_, (pss_one (ps_ret (pe_lc (own := [("k", 2)]) (g := (gName 2)) (by rfl) sc__law_row.nd (pi_range1 (by rfl) T.n_range (pa_cons (pe_callD D__law_drawn (by first | exact hr | exact hr.mono (by decide)) (pa_cons (pv 0) (pa_cons (pe_op op_add (pv 1) pe_int) pa_nil))) pa_nil)) (blkOk_by (own := [("k", 2)]) (N := ["purse", "most", "k"]) (sc := defScope s__law_row) (by decide +kernel)) (fun _ _ _ _ _ => (pg_name (i := 2) sc__law_row.nd rfl (by first | exact Or.inl rfl | exact Or.inr rfl) (by first | exact Or.inr rfl | exact Or.inl rfl))) (fun _ _ _ _ _ => pts_nil) (fun _ _ _ _ _ => (pe_callD D__law_drawn (by first | exact hr | exact hr.mono (by decide)) (pa_cons (pv 0) (pa_cons pe_int pa_nil))))))), ?_⟩
    have b200 : (1000 : Int) < 2 ^ 200 := by decide
    refine ⟨_, rfl, _, rfl, _, _, rfl, rfl, p, c, _, rfl, hp, by omega, by omega, by omega, fun v H1 v0 v1 hp1 k1 => ?_⟩
    refine ⟨_, rfl, by omega, by omega, fun D nD => ?_⟩
    have pD : p ≠ D := hp1.ne nD
    have nD0 : H D = none := by
      cases h : H D with
      | none => rfl
      | some o => rw [k1 _ _ h (Ne.symm pD)] at nD; cases nD
    refine lc_it walk_range (fun i H' => Kp p H H' ∧ Purse H' p (c + 1 + i) ∧ ∃ ns : List Int, H' D = some (.lst (ns.map V.int)) ∧ ns.length = i ∧ ∀ d ∈ ns, 0 ≤ d ∧ d ≤ 96)
      ⟨k1.trans (Kp.new nD), by simpa using hp1.same (Same.new nD), [], upd_same, rfl, fun _ h => by cases h⟩ (fun _ _ _ _ => trivial) ?_ ?_
    · intro i x H2 H3 hi pp y
      obtain ⟨rfl, rfl⟩ := y
      obtain ⟨q1, q2, ns, q3, q4, q5⟩ := pp
      refine ⟨rfl, _, rfl, p, _, _, rfl, q2, by omega, by decide, by decide, fun d H4 d0 d1 hp4 k4 => ?_⟩
      have e4 := k4 _ _ q3 (Ne.symm pD)
      refine ⟨_, e4, by rw [List.length_map]; exact Nat.lt_of_lt_of_le (m := 1000000) (by omega) (by decide), fun b o e nb => ?_, ?_, ns ++ [d], by rw [upd_same, List.map_append]; rfl, by rw [List.length_append, q4]; rfl, fun x hx => ?_⟩
      · rw [upd_ne (ne_of_none e nD0)]
        exact k4 _ _ (q1 _ _ e nb) nb
      · obtain ⟨a1, a2, a3, a4, a5, a6, a7, a8, a9⟩ := hp4
        exact ⟨a1, a2, a3, by rw [upd_ne pD]; exact a4, a5, a6, a7, a8, by omega⟩
      · rcases List.mem_append.mp hx with hx | hx
        · exact q5 x hx
        · rw [List.mem_singleton.mp hx]
          exact ⟨d0, by omega⟩
    · intro H2 pp
      obtain ⟨q1, q2, ns, q3, q4, q5⟩ := pp
      exact q ns D H2 (by omega) q5 q3 nD0 q1 (q2.mono (by omega))
-- F
/-- the data places on which numbers from first up to behind lie -/
def neededL (G Z : Nat) (first behind : Int) : List Int := ((List.range (G * Z)).filter fun t : Nat => decide (first + ((t : Int) - first) % ((G * Z : Nat) : Int) < behind)).map fun t => ((dp Z t : Nat) : Int)
def spNeeded (K : PySem.W.Frag) : Sp := fun vs H Q _ => ∃ (first behind : Int) (a : Addr) (g s m : Int), vs = [.int first, .int behind, .ref a] ∧ Mould K H a g s m ∧
  ∀ r H', Same H H' → H r = none → H' r = some (.lst ((neededL g.toNat s.toNat first behind).map V.int)) → Q (.ref r) H'
theorem ok_needed (T : Txt K mg) {dv : V} (D_data_places : DnK P w K mg base CX0 9 "data_places" [] "shape" dv (spPlaces K)) (F : AtK K mg "needed" s_needed ["first", "behind"] "shape" dv) : DnK P w K mg base CX0 10 "needed" ["first", "behind"] "shape" dv (spNeeded K) := by
  refine F.ok sc_needed (fun vs H Q E h => ?_) (fun f cdv A outer s H vs Q E hr h => ?_)
  · obtain ⟨first, behind, a, g, s, m, rfl, _⟩ := h
    rfl
  · obtain ⟨first, behind, a, g, z, m, rfl, M, q⟩ := h
    obtain ⟨G, Z, N, rfl, rfl, rfl⟩ := M.nat
    obtain ⟨ha, g1, g4, z1, z4, _, _⟩ := id M
    simp only [Int.toNat_natCast] at q
    have gz : G * Z ≤ 16 := Nat.mul_le_mul (show G ≤ 4 by omega) (show Z ≤ 4 by omega)
    have gz1 : 1 ≤ G * Z := Nat.mul_le_mul (show 1 ≤ G by omega) (show 1 ≤ Z by omega)
    refine ⟨_, (pss_cons (ps_set (i := 3) sc_needed.nd rfl (by first | exact Or.inl rfl | exact Or.inr rfl) (pe_callW0 D_data_places (by first | exact hr | exact hr.mono (by decide)) (pv 2)))
  (pss_one (ps_ret (pe_lc (own := [("at", 4), ("place", 5)]) (g := (gTup K 2 (gCons (gName 4) (gCons (gName 5) gNil)))) (by rfl) sc_needed.nd (pi_enum (by rfl) T.n_enumerate (pa_cons (pv 3) pa_nil)) (blkOk_by (own := [("at", 4), ("place", 5)]) (N := ["first", "behind", "shape", "data", "at", "place"]) (sc := defScope s_needed) (by decide +kernel)) (fun _ _ _ _ _ => (pg_tup rfl (pgs_cons (pg_name (i := 4) sc_needed.nd rfl (by first | exact Or.inl rfl | exact Or.inr rfl) (by first | exact Or.inr rfl | exact Or.inl rfl)) (pgs_cons (pg_name (i := 5) sc_needed.nd rfl (by first | exact Or.inl rfl | exact Or.inr rfl) (by first | exact Or.inr rfl | exact Or.inl rfl)) pgs_nil)))) (fun _ _ _ _ _ => (pts_one (pt_cmpR op_lt (pe_op op_add (pv 0) (pe_op op_mod (pe_op op_sub (pv 4) (pv 0)) (pe_callB (r := rLen K) call_len (by rfl) T.n_len (by decide +kernel) (pa_cons (pv 3) pa_nil)))) (pv 1) (nomark _)))) (fun _ _ _ _ _ => (pv 5)))))), ?_⟩
    refine ⟨_, rfl, rfl, a, G, Z, N, rfl, M, fun da H1 s1 nda eda => ?_⟩
    simp only [Int.toNat_natCast] at eda
    have lp : (placesL G Z).length = G * Z := by
      unfold placesL
      rw [List.length_map, List.length_range]
    refine ⟨_, rfl, _, _, rfl, SqL.of eda, fun D nD => ?_⟩
    refine lc_filt (fun t : Nat => V.int ((dp Z t : Nat) : Int)) (walk_enum (xs := (placesL G Z).map V.int)) (fun t => t) (fun t => decide (first + ((t : Int) - first) % ((G * Z : Nat) : Int) < behind)) nD (by rw [List.length_map, lp]; exact small1000' (by omega)) (fun H' s => s.seq (SqL.of eda)) ?_ ?_
    · intro t x H2 H3 R R' ht s2 y k1 k2
      obtain ⟨tu, x1, x2, rfl, ntu, rfl, ex1, ex2⟩ := y
      rw [List.length_map, lp] at ht
      cases ex1
      have ex2' : x2 = .int ((dp Z t : Nat) : Int) := by
        have := ex2
        unfold placesL at this
        simp only [List.getElem?_map, List.getElem?_range ht] at this
        exact (Option.some.inj this).symm
      subst ex2'
      have sn := Same.new (o := .tup [V.int (t : Int), .int ((dp Z t : Nat) : Int)]) ntu
      have eda3 := sn _ _ (s2 _ _ eda)
      refine ⟨_, _, rfl, SqT.of upd_same, rfl, _, _, rfl, _, _, rfl, rfl, rfl, ?_⟩
      refine ⟨_, rfl, _, rfl, _, rfl, _, _, rfl, rfl, _, rfl, _, _, rfl, .inl ⟨_, SqL.of eda3, rfl⟩, ?_⟩
      rw [List.length_map, lp]
      refine ⟨_, _, rfl, rfl, (by omega), _, _, rfl, rfl, _, rfl, _, _, rfl, rfl, _, rfl, iteD (fun h => ?_) fun h => ?_⟩
      · exact ⟨_, rfl, k1 _ sn (decide_eq_true h)⟩
      · exact k2 _ sn (decide_eq_false h)
    · intro H2 s2 e2
      rw [List.length_map, lp, List.map_id'] at e2
      refine q D H2 (Same.trans s1 s2) (Same.low s1 nD) ?_
      rw [e2]
      unfold neededL
      rw [List.map_map]
      rfl
theorem mod_sub_eq {t n : Nat} {w : Int} (hw : 0 < w) : ((t : Int) - (n : Int)) % w = 0 ↔ (t : Int) % w = (n : Int) % w := by
  rw [Int.sub_emod]
  constructor
  · intro h
    have h1 := Int.emod_nonneg (t : Int) (show w ≠ 0 by omega)
    have h2 := Int.emod_lt_of_pos (t : Int) hw
    have h3 := Int.emod_nonneg (n : Int) (show w ≠ 0 by omega)
    have h4 := Int.emod_lt_of_pos (n : Int) hw
    obtain ⟨k, hk⟩ := Int.dvd_of_emod_eq_zero h
    have : k = 0 := by
      rcases Int.lt_trichotomy k 0 with h5 | h5 | h5
      · have := Int.mul_le_mul_of_nonneg_left (show k ≤ -1 by omega) (show 0 ≤ w by omega)
        omega
      · exact h5
      · have := Int.mul_le_mul_of_nonneg_left (show 1 ≤ k by omega) (show 0 ≤ w by omega)
        omega
    rw [this, Int.mul_zero] at hk
    omega
  · intro h
    rw [h, Int.sub_self]
    rfl
/-- one number's data place -/
theorem needed_one {G Z n : Nat} (h : 1 ≤ G * Z) : neededL G Z (n : Int) ((n : Int) + 1) = [((dp Z (n % (G * Z)) : Nat) : Int)] := by
  have hl : n % (G * Z) < G * Z := Nat.mod_lt _ (by omega)
  have e : ((List.range (G * Z)).filter fun t : Nat => decide ((n : Int) + ((t : Int) - (n : Int)) % ((G * Z : Nat) : Int) < (n : Int) + 1)) = (List.range (G * Z)).filter fun t => t == n % (G * Z) := by
    refine List.filter_congr fun t ht => ?_
    have ht := List.mem_range.mp ht
    have h1 := Int.emod_nonneg ((t : Int) - (n : Int)) (show ((G * Z : Nat) : Int) ≠ 0 by omega)
    rw [Bool.eq_iff_iff, decide_eq_true_eq, beq_iff_eq]
    have := mod_sub_eq (t := t) (n := n) (w := ((G * Z : Nat) : Int)) (by omega)
    have e1 : (t : Int) % ((G * Z : Nat) : Int) = (t : Int) := by rw [← Int.natCast_emod, Nat.mod_eq_of_lt ht]
    have e2 : (n : Int) % ((G * Z : Nat) : Int) = ((n % (G * Z) : Nat) : Int) := by rw [Int.natCast_emod]
    rw [e1, e2] at this
    omega
  unfold neededL
  rw [e]
  have : (List.range (G * Z)).filter (fun t => t == n % (G * Z)) = [n % (G * Z)] := by
    have key : ∀ m k, k < m → (List.range m).filter (fun t => t == k) = [k] := fun m => by
      induction m with
      | zero => intro k h; omega
      | succ m ih =>
        intro k hk
        rw [List.range_succ, List.filter_append]
        by_cases hm : k = m
        · subst hm
          have : (List.range k).filter (fun t => t == k) = [] := List.filter_eq_nil_iff.mpr fun t ht => by
            have := List.mem_range.mp ht
            simp
            omega
          rw [this]
          simp
        · rw [ih k (by omega)]
          simp [Ne.symm hm]
    exact key _ _ hl
  rw [this]
  rfl
/-- from the first number on -/
theorem needed_from {G Z : Nat} (m : Nat) : neededL G Z 0 (m : Int) = ((List.range (G * Z)).filter fun t => decide (t < m)).map fun t => ((dp Z t : Nat) : Int) := by
  unfold neededL
  congr 1
  refine List.filter_congr fun t ht => ?_
  have ht := List.mem_range.mp ht
  have e1 : ((t : Int) - 0) % ((G * Z : Nat) : Int) = (t : Int) := by rw [Int.sub_zero, ← Int.natCast_emod, Nat.mod_eq_of_lt ht]
  rw [e1, Bool.eq_iff_iff, decide_eq_true_eq, decide_eq_true_eq]
  omega
theorem toI_int (xs : List Int) : (xs.map V.int).map toI = xs := by
  rw [List.map_map]
  exact List.map_id' xs
theorem fill_ok {G Z N : Nat} {ds : List Int} (hl : ds.length = G * Z) (hd : ∀ d ∈ ds, 0 ≤ d ∧ d ≤ 96) : fillB G Z N ((fillL G Z N ds).map V.int) = true := by
  unfold fillB
  rw [toI_int, data_fill hl, decide_eq_true rfl, List.length_map, fill_len, decide_eq_true rfl, Bool.true_and, Bool.and_true, List.all_eq_true]
  intro v hv
  obtain ⟨x, hx, rfl⟩ := List.mem_map.mp hv
  obtain ⟨h1, h2⟩ := fill_bd hl hd hx
  show (decide (0 ≤ x) && decide (x ≤ 96)) = true
  rw [decide_eq_true h1, decide_eq_true h2]
  rfl
-- F
def spUnlaid (K : PySem.W.Frag) : Sp := fun vs H Q _ => ∃ (d a : Addr) (many : Nat) (g s m : Int) (kvs : List (Key × V)) (f : Nat → Nat → Int), vs = [.ref d, .int many, .ref a] ∧ Mould K H a g s m ∧ many ≤ 60 ∧ H d = some (.dK kvs) ∧
  (∀ t, t < g.toNat * s.toNat → t < many → ∃ (c : Addr) (L : List Int), valV kvs (Sum.inl ((dp s.toNat t : Nat) : Int)) = some (.ref c) ∧ SqL K H c (L.map V.int) ∧ ∀ n, n * (g.toNat * s.toNat) + t < many → L[n]? = some (f t n)) ∧
  ∀ r H', Same H H' → H r = none → H' r = some (.lst (((List.range many).map fun n => f (n % (g.toNat * s.toNat)) (n / (g.toNat * s.toNat))).map V.int)) → Q (.ref r) H'
theorem ok_unlaid (T : Txt K mg) {dv : V} (D_data_places : DnK P w K mg base CX0 9 "data_places" [] "shape" dv (spPlaces K)) (D_needed : DnK P w K mg base CX0 10 "needed" ["first", "behind"] "shape" dv (spNeeded K)) (F : AtK K mg "unlaid" s_unlaid ["pieces", "many"] "shape" dv) : DnK P w K mg base CX0 11 "unlaid" ["pieces", "many"] "shape" dv (spUnlaid K) := by
  refine F.ok sc_unlaid (fun vs H Q E h => ?_) (fun f cdv A outer s H vs Q E hr h => ?_)
  · obtain ⟨d, a, many, g, s, m, kvs, f, rfl, _⟩ := h
    rfl
  · obtain ⟨d, a, many, g, z, m, kvs, fv, rfl, M, hm, ed, hp, q⟩ := h
    obtain ⟨G, Z, N, rfl, rfl, rfl⟩ := M.nat
    obtain ⟨ha, g1, g4, z1, z4, _, _⟩ := id M
    simp only [Int.toNat_natCast] at q hp
    have gz : G * Z ≤ 16 := Nat.mul_le_mul (show G ≤ 4 by omega) (show Z ≤ 4 by omega)
    have gz1 : 1 ≤ G * Z := Nat.mul_le_mul (show 1 ≤ G by omega) (show 1 ≤ Z by omega)
    refine ⟨_, (pss_cons (ps_set (i := 3) sc_unlaid.nd rfl (by first | exact Or.inl rfl | exact Or.inr rfl) (pe_callW0 D_data_places (by first | exact hr | exact hr.mono (by decide)) (pv 2)))
  (pss_cons (ps_for PassesOwn.never rfl (pi_list (pe_callW D_needed (by first | exact hr | exact hr.mono (by decide)) (pa_cons pe_int (pa_cons (pv 1) pa_nil)) (pv 2))) (pg_name (i := 4) sc_unlaid.nd rfl (by first | exact Or.inl rfl | exact Or.inr rfl))
  (pss_one (ps_if (pt_cmp (pc_dnotin (hu1 hr.units) (pv 4) (pv 0))) (pss_one ps_never) pss_nil)))
  (pss_one (ps_ret (pe_lc (own := [("at", 5)]) (g := (gName 5)) (by rfl) sc_unlaid.nd (pi_range1 (by rfl) T.n_range (pa_cons (pv 1) pa_nil)) (blkOk_by (own := [("at", 5)]) (N := ["pieces", "many", "shape", "data", "place", "at"]) (sc := defScope s_unlaid) (by decide +kernel)) (fun _ _ _ _ _ => (pg_name (i := 5) sc_unlaid.nd rfl (by first | exact Or.inl rfl | exact Or.inr rfl) (by first | exact Or.inr rfl | exact Or.inl rfl))) (fun _ _ _ _ _ => pts_nil) (fun _ _ _ _ _ => (pe_ix (r := rIxL K) ix_list (pe_dget (hu1 hr.units) (pv 0) (pe_ix (r := rIxL K) ix_list (pv 3) (pe_op op_mod (pv 5) (pe_callB (r := rLen K) call_len (by rfl) T.n_len (by decide +kernel) (pa_cons (pv 3) pa_nil))) (fun _ _ => rfl)) (fun _ _ => rfl)) (pe_op op_fdivW (pv 5) (pe_callB (r := rLen K) call_len (by rfl) T.n_len (by decide +kernel) (pa_cons (pv 3) pa_nil))) (fun _ _ => rfl)))))))), ?_⟩
    refine ⟨_, rfl, rfl, a, G, Z, N, rfl, M, fun da H1 s1 nda eda => ?_⟩
    simp only [Int.toNat_natCast] at eda
    have lp : (placesL G Z).length = G * Z := by
      unfold placesL
      rw [List.length_map, List.length_range]
    refine ⟨_, rfl, _, rfl, rfl, rfl, 0, _, a, G, Z, N, rfl, M.same s1, fun ne H2 s2 nne ene => ?_⟩
    simp only [Int.toNat_natCast] at ene
    rw [needed_from] at ene
    refine ⟨_, rfl, ⟨_, SqL.of ene⟩, ?_⟩
    refine for_list (xs := (((List.range (G * Z)).filter fun t => decide (t < many)).map fun t => ((dp Z t : Nat) : Int)).map V.int) (fun i σ H' => ∃ v4 v5, σ = [some (.ref d), some (.int many), some (.ref a), some (.ref da), v4, v5] ∧ Same H2 H') ⟨_, _, rfl, Same.refl _⟩ (fun i σ H' _ p => ?_) ?_ ?_
    · obtain ⟨_, _, _, p1⟩ := p
      exact p1.seq (SqL.of ene)
    · rintro i x σ H3 ex ⟨v4, v5, rfl, s3⟩
      obtain ⟨t, ht, rfl⟩ : ∃ t, (t < G * Z ∧ t < many) ∧ x = V.int ((dp Z t : Nat) : Int) := by
        have hx := List.mem_of_getElem? ex
        simp only [List.mem_map, List.mem_filter, List.mem_range, decide_eq_true_eq] at hx
        obtain ⟨_, ⟨t, ht, rfl⟩, rfl⟩ := hx
        exact ⟨t, ht, rfl⟩
      obtain ⟨c, L, ev, _, _⟩ := hp t ht.1 ht.2
      refine ⟨_, rfl, _, rfl, d, _, rfl, DGet.k (k := Sum.inl ((dp Z t : Nat) : Int)) (s3 _ _ (s2 _ _ (s1 _ _ ed))), ?_⟩
      rw [ev]
      exact ⟨_, rfl, _, _, rfl, s3⟩
    · rintro σ H3 ⟨v4, v5, rfl, s3⟩
      have s03 := Same.trans s1 (Same.trans s2 s3)
      have eda3 := s3 _ _ (s2 _ _ eda)
      refine ⟨_, rfl, _, rfl, by omega, by omega, fun D nD => ?_⟩
      rw [Int.toNat_natCast]
      refine lc_ints walk_range (fun n => fv (n % (G * Z)) (n / (G * Z))) nD (small1000' (by omega)) (fun _ _ => trivial) ?_ ?_
      · intro n x H4 H5 R R' hn s4 y k
        obtain ⟨rfl, rfl⟩ := y
        have hmod : n % (G * Z) < G * Z := Nat.mod_lt _ (by omega)
        have hle : n % (G * Z) ≤ n := Nat.mod_le _ _
        obtain ⟨c, L, ev, hc, hL⟩ := hp (n % (G * Z)) hmod (by omega)
        have hdm : n / (G * Z) * (G * Z) + n % (G * Z) = n := by rw [Nat.mul_comm]; exact Nat.div_add_mod n (G * Z)
        have eL := hL (n / (G * Z)) (by omega)
        have m1 : (0 + (n : Int)) % ((G * Z : Nat) : Int) = ((n % (G * Z) : Nat) : Int) := by rw [Int.zero_add, Int.natCast_emod]
        have m2 : (0 + (n : Int)) / ((G * Z : Nat) : Int) = ((n / (G * Z) : Nat) : Int) := by rw [Int.zero_add, Int.natCast_ediv]
        have at1 : atI ((placesL G Z).map V.int) ((0 + (n : Int)) % ((G * Z : Nat) : Int)) = some (.int ((dp Z (n % (G * Z)) : Nat) : Int)) := by
          rw [m1]
          refine atI_nat ?_
          unfold placesL
          simp [hmod]
        have at2 : atI (L.map V.int) ((0 + (n : Int)) / ((G * Z : Nat) : Int)) = some (.int (fv (n % (G * Z)) (n / (G * Z)))) := by
          rw [m2]
          exact atI_nat (by rw [List.getElem?_map, eL]; rfl)
        have b10 : 16 < 2 ^ 10 := by decide
        refine ⟨rfl, _, rfl, _, rfl, _, rfl, _, rfl, _, _, rfl, .inl ⟨_, SqL.of (s4 _ _ eda3), rfl⟩, ?_⟩
        rw [List.length_map, lp]
        refine ⟨_, _, rfl, rfl, (by omega), _, _, _, _, rfl, rfl, SqL.of (s4 _ _ eda3), at1, ?_⟩
        refine ⟨d, .ref c, rfl, .inl ⟨_, Sum.inl ((dp Z (n % (G * Z)) : Nat) : Int), .inl (s4 _ _ (s03 _ _ ed)), rfl, ev.symm⟩, ?_⟩
        refine ⟨_, rfl, _, rfl, _, _, rfl, .inl ⟨_, SqL.of (s4 _ _ eda3), rfl⟩, ?_⟩
        rw [List.length_map, lp]
        exact ⟨_, _, rfl, rfl, wide_div (by omega) (b := 10) (by omega) (by decide) (by decide), _, _, _, _, rfl, rfl, s4.seq (s03.seq hc), at2, k _ (Same.refl _)⟩
      · intro H4 s4 e4
        exact q D H4 (Same.trans s03 s4) (Same.low s03 nD) e4
-- F
theorem dp_eq (Z t : Nat) : dp Z t = t + t / Z := by
  unfold dp
  have h := Nat.div_add_mod t Z
  rw [Nat.mul_comm] at h
  rw [Nat.mul_succ]
  omega
theorem dp_lt {Z s t : Nat} (h : s < t) : dp Z s < dp Z t := by
  rw [dp_eq, dp_eq]
  have : s / Z ≤ t / Z := Nat.div_le_div_right (by omega)
  omega
theorem dp_bd {G Z N t : Nat} (h : t < G * Z) : dp Z t < G * (Z + 1) + N := by
  obtain ⟨i, j, hi, hj, rfl⟩ := t_cases h
  rw [dp_at hj]
  have := blk_lt (Z := Z) (j := j) hi (by omega)
  omega
theorem filter_lt (n m : Nat) : (List.range n).filter (fun t => decide (t < m)) = List.range (min n m) := by
  induction n with
  | zero => simp
  | succ n ih =>
    rw [List.range_succ, List.filter_append, ih]
    by_cases h : n < m
    · rw [show min (n + 1) m = n + 1 by omega, show min n m = n by omega, List.range_succ]
      simp [h]
    · rw [show min (n + 1) m = m by omega, show min n m = m by omega]
      simp [h]
def spReadBack (K : PySem.W.Frag) : Sp := fun vs H Q _ => ∃ (r a : Addr) (g s m : Int) (ns : List Int), vs = [.ref r, .ref a] ∧ Mould K H a g s m ∧ H r = some (.lst (ns.map V.int)) ∧ ns.length ≤ 60 ∧ (∀ d ∈ ns, 0 ≤ d ∧ d ≤ 96) ∧ ∀ H', Same H H' → Q (.bl true) H'
theorem ok_read_back (T : Txt K mg) {dv : V} (D_count : DnK P w K mg base CX0 5 "count" [] "shape" dv (spCount K)) (D_laid : DnK P w K mg base CX0 13 "laid" ["row"] "shape" dv (spLaid K)) (D_cells_for : DnK P w K mg base CX0 10 "cells_for" ["many"] "shape" dv (spCells K)) (D_is_filling : DnK P w K mg base CX0 12 "is_filling" ["thing"] "shape" dv (spFilling K))
    (D_needed : DnK P w K mg base CX0 10 "needed" ["first", "behind"] "shape" dv (spNeeded K)) (D_unlaid : DnK P w K mg base CX0 11 "unlaid" ["pieces", "many"] "shape" dv (spUnlaid K)) (F : At K mg "_law_read_back" s__law_read_back ["row", "mould"]) : Dn P w K mg base CX0 14 "_law_read_back" ["row", "mould"] (spReadBack K) := by
  refine F.ok sc__law_read_back (fun vs H Q E h => ?_) (fun f cdv A outer s H vs Q E hr h => ?_)
  · obtain ⟨r, a, g, s, m, ns, rfl, _⟩ := h
    rfl
  · obtain ⟨r, a, g, z, m, ns, rfl, M, er, hl, hd, q⟩ := h
    obtain ⟨G, Z, N, rfl, rfl, rfl⟩ := M.nat
    obtain ⟨ha, g1, g4, z1, z4, m0, m2⟩ := id M
    obtain ⟨l1, l2, l3, l4⟩ := M.le
    have mz : manyZ (G : Int) Z N = ((G * (Z + 1) + N : Nat) : Int) := by have := many_nat G Z N; omega
    have gz : G * Z ≤ 16 := Nat.mul_le_mul (show G ≤ 4 by omega) (show Z ≤ 4 by omega)
    have gz1 : 1 ≤ G * Z := Nat.mul_le_mul (show 1 ≤ G by omega) (show 1 ≤ Z by omega)
    refine ⟨_, (pss_cons (ps_set (i := 2) sc__law_read_back.nd rfl (by first | exact Or.inl rfl | exact Or.inr rfl) (pe_callW D_laid (by first | exact hr | exact hr.mono (by decide)) (pa_cons (pv 0) pa_nil) (pv 1)))
  (pss_cons (ps_for PassesOwn.never rfl (pi_range1 (by rfl) T.n_range (pa_cons (pe_callW D_cells_for (by first | exact hr | exact hr.mono (by decide)) (pa_cons (pe_callB (r := rLen K) call_len (by rfl) T.n_len (by decide +kernel) (pa_cons (pv 0) pa_nil)) pa_nil) (pv 1)) pa_nil)) (pg_name (i := 3) sc__law_read_back.nd rfl (by first | exact Or.inl rfl | exact Or.inr rfl))
  (pss_one (ps_if (pt_not (pt_val (pe_callW D_is_filling (by first | exact hr | exact hr.mono (by decide)) (pa_cons (pe_lc (own := [("place", 4)]) (g := (gName 4)) (by rfl) sc__law_read_back.nd (pi_range1 (by rfl) T.n_range (pa_cons (pe_callW0 D_count (by first | exact hr | exact hr.mono (by decide)) (pv 1)) pa_nil)) (blkOk_by (own := [("place", 4)]) (N := ["row", "mould", "pieces", "at", "place", "alone"]) (sc := defScope s__law_read_back) (by decide +kernel)) (fun _ _ _ _ _ => (pg_name (i := 4) sc__law_read_back.nd rfl (by first | exact Or.inl rfl | exact Or.inr rfl) (by first | exact Or.inr rfl | exact Or.inl rfl))) (fun _ _ _ _ _ => pts_nil) (fun _ _ _ _ _ => (pe_ix (r := rIxL K) ix_list (pe_dget (hu1 hr.units) (pv 2) (pv 4) (fun _ _ => rfl)) (pv 3) (fun _ _ => rfl)))) pa_nil) (pv 1)))) (pss_one (ps_ret pe_bl)) pss_nil)))
  (pss_cons (ps_set (i := 5) sc__law_read_back.nd rfl (by first | exact Or.inl rfl | exact Or.inr rfl) pe_dnewF)
  (pss_cons (ps_for PassesOwn.never rfl (pi_list (pe_callW D_needed (by first | exact hr | exact hr.mono (by decide)) (pa_cons pe_int (pa_cons (pe_callB (r := rLen K) call_len (by rfl) T.n_len (by decide +kernel) (pa_cons (pv 0) pa_nil)) pa_nil)) (pv 1))) (pg_name (i := 4) sc__law_read_back.nd rfl (by first | exact Or.inl rfl | exact Or.inr rfl))
  (pss_one (ps_dput (hu1 hr.units) (pv 5) (pv 4) (pe_dget (hu1 hr.units) (pv 2) (pv 4) (fun _ _ => rfl)) rfl)))
  (pss_one (ps_ret (pe_and (pe_cmpR op_eq (pe_callB call_lenD (by rfl) T.n_len (by decide +kernel) (pa_cons (pv 2) pa_nil)) (pe_callW0 D_count (by first | exact hr | exact hr.mono (by decide)) (pv 1)) (nomark _)) (pe_one (pe_cmpR (r := rEqD K) (op_eqD hr.units) (pe_callW D_unlaid (by first | exact hr | exact hr.mono (by decide)) (pa_cons (pv 5) (pa_cons (pe_callB (r := rLen K) call_len (by rfl) T.n_len (by decide +kernel) (pa_cons (pv 0) pa_nil)) pa_nil)) (pv 1)) (pv 0) (nomark _)))))))))), ?_⟩
    refine ⟨_, rfl, _, rfl, rfl, rfl, r, a, G, Z, N, ns, rfl, M, er, hl, hd, fun d ds H1 s1 MD fD => ?_⟩
    simp only [Int.toNat_natCast] at MD
    have dl : ds.length = G * (Z + 1) + N := by rw [MD.len]; unfold laidL; rw [List.length_map, List.length_range]
    have lat : ∀ {p : Nat} {c : Addr} {H' : Hp}, DMat H' d ds (laidL G Z N ns) → ds[p]? = some c → H' c = some (.lst (((List.range (cellsN (G * Z) ns.length)).map fun c => fillF G Z (fun t => ns.getD (c * (G * Z) + t) 0) p).map V.int)) := fun {p c H'} M' e => by
      have hp : p < G * (Z + 1) + N := by rw [← dl]; exact (List.getElem?_eq_some_iff.mp e).1
      exact M'.get p c _ e (by unfold laidL; rw [List.getElem?_map, List.getElem?_range hp]; rfl)
    have nsd : ∀ t, 0 ≤ ns.getD t 0 ∧ ns.getD t 0 ≤ 96 := fun t => by
      rw [List.getD_eq_getElem?_getD]
      cases h : ns[t]? with
      | none => exact ⟨Int.le_refl 0, by decide⟩
      | some v => exact hd _ (List.mem_of_getElem? h)
    refine ⟨_, rfl, _, _, rfl, .inl ⟨_, SqL.of (s1 _ _ er), rfl⟩, ?_⟩
    rw [List.length_map]
    refine ⟨_, rfl, rfl, rfl, _, a, G, Z, N, rfl, M.same s1, by omega, by omega, fun H2 s2 => ?_⟩
    rw [Int.toNat_natCast, Int.toNat_natCast, cells_int gz1]
    have cn := cells_ge (n := ns.length) gz1
    have cl := cells_le (n := ns.length) gz1
    refine ⟨_, rfl, by omega, by omega, ?_⟩
    have s02 := Same.trans s1 s2
    refine for_range (lo := 0) (fun c σ H' => ∃ v3 v4 v5, σ = [some (.ref r), some (.ref a), some (.ref d), v3, v4, v5] ∧ Same H2 H') ⟨_, _, _, rfl, Same.refl _⟩ ?_ ?_
    · rintro c σ H3 hc ⟨v3, v4, v5, rfl, s3⟩
      rw [Int.toNat_natCast] at hc
      have s03 := Same.trans s02 s3
      have MD3 := MD.same (Same.trans s2 s3)
      refine ⟨_, rfl, rfl, a, G, Z, N, rfl, M.same s03, _, rfl, by omega, by omega, fun D nD => ?_⟩
      refine lc_ints walk_range (fun p => fillF G Z (fun t => ns.getD (c * (G * Z) + t) 0) p) nD (small1000' (by omega)) (fun _ _ => trivial) ?_ ?_
      · intro p x H4 H5 R R' hp s4 y k
        obtain ⟨rfl, rfl⟩ := y
        have hp' : p < ds.length := by omega
        have ep : ds[p]? = some ds[p] := List.getElem?_eq_getElem hp'
        have e5 := s4 _ _ (lat MD3 ep)
        refine ⟨rfl, _, rfl, _, rfl, d, .ref ds[p], rfl, .inl ⟨_, Sum.inl (p : Int), .inl (s4 _ _ MD3.hd), (by show V.int (0 + (p : Int)) = V.int (p : Int); rw [Int.zero_add]), (pairsD_at ep).symm⟩, _, rfl, _, _, _, _, rfl, rfl, SqL.of e5, ?_, k _ (Same.refl _)⟩
        rw [Int.zero_add]
        exact atI_nat (by simp [hc])
      · intro H4 s4 e4
        rw [show (manyZ (G : Int) Z N).toNat = G * (Z + 1) + N by omega, ← fill_row (fun t => ns.getD (c * (G * Z) + t) 0) rfl] at e4
        have s04 := Same.trans s03 s4
        have lds : ((List.range (G * Z)).map fun t => ns.getD (c * (G * Z) + t) 0).length = G * Z := by rw [List.length_map, List.length_range]
        have lfi : ((fillL G Z N ((List.range (G * Z)).map fun t => ns.getD (c * (G * Z) + t) 0)).map V.int).length = G * (Z + 1) + N := by rw [List.length_map, fill_len]
        refine ⟨_, rfl, rfl, rfl, _, "list", a, G, Z, N, rfl, .lst (SqL.of e4), M.same s04, .inr ⟨D, _, rfl, SqL.of e4, by omega, fun x hx => ?_, fun H5 s5 => ?_⟩⟩
        · obtain ⟨i, _, rfl⟩ := List.mem_map.mp hx
          exact ⟨_, .int i⟩
        · simp only [Int.toNat_natCast]
          rw [fill_ok lds fun x hx => ?_]
          · exact ⟨_, rfl, _, _, _, rfl, Same.trans s3 (Same.trans s4 s5)⟩
          · obtain ⟨t, _, rfl⟩ := List.mem_map.mp hx
            exact nsd _
    · rintro σ H3 ⟨v3, v4, v5, rfl, s3⟩
      have s03 := Same.trans s02 s3
      refine fun al H4 nal s4 eal => ?_
      have s04 := Same.trans s03 s4
      refine ⟨_, rfl, _, _, rfl, .inl ⟨_, SqL.of (s04 _ _ er), rfl⟩, ?_⟩
      rw [List.length_map]
      refine ⟨_, rfl, rfl, rfl, 0, _, a, G, Z, N, rfl, M.same s04, fun ne H5 s5 nne ene => ?_⟩
      simp only [Int.toNat_natCast] at ene
      rw [needed_from, filter_lt] at ene
      refine ⟨_, rfl, ⟨_, SqL.of ene⟩, ?_⟩
      have MD5 := MD.same (Same.trans s2 (Same.trans s3 (Same.trans s4 s5)))
      have nal' : ∀ {c : Addr} {o : HO}, H3 c = some o → c ≠ al := fun {c o} e z => by rw [z, nal] at e; cases e
      have ind : ∀ i j, i < j → j < min (G * Z) ns.length → (Sum.inl ((dp Z i : Nat) : Int) : Key) ≠ Sum.inl ((dp Z j : Nat) : Int) := fun i j h _ => inl_ne (dp_lt h)
      refine for_list (xs := (((List.range (min (G * Z) ns.length)).map fun t => ((dp Z t : Nat) : Int))).map V.int) (fun i σ H' => ∃ v3 v4, σ = [some (.ref r), some (.ref a), some (.ref d), v3, v4, some (.ref al)] ∧ (∀ b o, H5 b = some o → b ≠ al → H' b = some o) ∧
        H' al = some (.dK ((List.range i).map fun t => ((Sum.inl ((dp Z t : Nat) : Int) : Key), V.ref (ds.getD (dp Z t) default)))) ∧ i ≤ min (G * Z) ns.length) ⟨_, _, rfl, fun _ _ h _ => h, s5 _ _ eal, Nat.zero_le _⟩ (fun i σ H' _ p => ?_) ?_ ?_
      · obtain ⟨_, _, _, p1, _⟩ := p
        have : ne ≠ al := fun z => by rw [z, eal] at nne; cases nne
        exact SqL.of (p1 _ _ ene this)
      · rintro i x σ H6 ex ⟨v3, v4, rfl, p1, p2, p3⟩
        have hi : i < min (G * Z) ns.length := by
          have := (List.getElem?_eq_some_iff.mp ex).1
          simpa using this
        have ex' : x = V.int ((dp Z i : Nat) : Int) := by
          rw [List.getElem?_map, List.getElem?_map, List.getElem?_range hi] at ex
          exact (Option.some.inj ex).symm
        subst ex'
        have hdp : dp Z i < ds.length := by rw [dl]; exact dp_bd (by omega)
        have ed : ds[dp Z i]? = some ds[dp Z i] := List.getElem?_eq_getElem hdp
        have egd : ds.getD (dp Z i) default = ds[dp Z i] := by rw [List.getD_eq_getElem?_getD, ed]; rfl
        have dal : d ≠ al := nal' ((MD.same (Same.trans s2 s3)).hd)
        refine ⟨_, rfl, _, rfl, d, .ref ds[dp Z i], rfl, .inl ⟨_, Sum.inl ((dp Z i : Nat) : Int), .inl (p1 _ _ MD5.hd dal), rfl, (pairsD_at ed).symm⟩, ?_⟩
        refine ⟨_, rfl, _, rfl, _, _, rfl, DPut.k (k := Sum.inl ((dp Z i : Nat) : Int)) p2 (by rw [List.length_map, List.length_range]; exact Nat.lt_of_lt_of_le (m := 1000) (by omega) (by decide)), ?_⟩
        refine ⟨_, _, rfl, fun b o e nb => ?_, ?_, hi⟩
        · rw [upd_ne nb]
          exact p1 b o e nb
        · rw [upd_same, putK_new, List.range_succ, List.map_append]
          · rw [← egd]
            rfl
          · refine valV_none fun q hq => ?_
            obtain ⟨t, ht, rfl⟩ := List.mem_map.mp hq
            exact inl_ne (dp_lt (List.mem_range.mp ht))
      · rintro σ H6 ⟨v3, v4, rfl, p1, p2, p3⟩
        rw [List.length_map, List.length_map, List.length_range] at p2
        have MD3 := MD.same (Same.trans s2 s3)
        have s35 := Same.trans s4 s5
        have keep : ∀ {c : Addr} {o : HO}, H3 c = some o → H6 c = some o := fun {c o} e => p1 _ _ (s35 _ _ e) (nal' e)
        have s06 : Same H H6 := fun c o e => keep (s03 _ _ e)
        refine ⟨_, rfl, d, _, rfl, keep MD3.hd, _, rfl, rfl, a, G, Z, N, rfl, M.same s06, rfl, ?_⟩
        have e1 : decide (V.int ((pairsD ds).length : Int) = V.int (manyZ (G : Int) Z N)) = true := by
          refine decide_eq_true (congrArg V.int ?_)
          unfold pairsD
          rw [List.length_map, List.length_range, dl, mz]
        rw [e1]
        refine ⟨_, rfl, ?_⟩
        refine ⟨_, rfl, _, rfl, _, _, rfl, .inl ⟨_, SqL.of (s06 _ _ er), rfl⟩, ?_⟩
        rw [List.length_map]
        refine ⟨_, rfl, rfl, rfl, al, a, ns.length, G, Z, N, _, (fun t n => fillF G Z (fun s => ns.getD (n * (G * Z) + s) 0) (dp Z t)), rfl, M.same s06, hl, p2, fun t ht ht2 => ?_, fun re H7 s7 nre ere => ?_⟩
        · rw [Int.toNat_natCast, Int.toNat_natCast] at ht
          rw [Int.toNat_natCast, Int.toNat_natCast]
          have hdp : dp Z t < ds.length := by rw [dl]; exact dp_bd ht
          have ed : ds[dp Z t]? = some ds[dp Z t] := List.getElem?_eq_getElem hdp
          have egd : ds.getD (dp Z t) default = ds[dp Z t] := by rw [List.getD_eq_getElem?_getD, ed]; rfl
          refine ⟨ds[dp Z t], _, ?_, SqL.of (keep (lat MD3 ed)), fun n hn => ?_⟩
          · rw [valV_range ind (Nat.le_refl _) (by omega), egd]
          · have hc : n < cellsN (G * Z) ns.length := by
              rcases Nat.lt_or_ge n (cellsN (G * Z) ns.length) with h | h
              · exact h
              · have := Nat.mul_le_mul_right (G * Z) h
                omega
            rw [List.getElem?_map, List.getElem?_range hc]
            rfl
        · rw [Int.toNat_natCast, Int.toNat_natCast] at ere
          have el : ((List.range ns.length).map fun n => fillF G Z (fun s => ns.getD (n / (G * Z) * (G * Z) + s) 0) (dp Z (n % (G * Z)))) = ns := by
            conv => rhs; rw [list_getD ns]
            refine List.map_congr_left fun n hn => ?_
            have hmod : n % (G * Z) < G * Z := Nat.mod_lt _ (by omega)
            have hdm : n / (G * Z) * (G * Z) + n % (G * Z) = n := by rw [Nat.mul_comm]; exact Nat.div_add_mod n (G * Z)
            obtain ⟨i, j, hi, hj, e⟩ := t_cases hmod
            rw [e, dp_at hj, fill_data _ hi hj, ← e, hdm]
          rw [el] at ere
          refine ⟨_, rfl, _, _, dpL (SqL.of ere), dpL (SqL.of (s7 _ _ (s06 _ _ er))), shL _, shL _, ?_⟩
          rw [eqvL, decide_eq_true rfl]
          exact q H7 (Same.trans s06 s7)
-- F
theorem kind_at_data {G Z i j : Nat} (hi : i < G) (hj : j < Z) : kindV G Z ((i * (Z + 1) + j : Nat) : Int) = [.str "data", .int i, .int j] := by
  unfold kindV
  rw [cdiv, cmod, blk_div (show j < Z + 1 by omega), blk_mod (show j < Z + 1 by omega), if_neg (by omega), if_neg (by omega)]
theorem kind_at_local {G Z i : Nat} (hi : i < G) : kindV G Z ((i * (Z + 1) + Z : Nat) : Int) = [.str "local", .int i] := by
  unfold kindV
  rw [cdiv, cmod, blk_div (show Z < Z + 1 by omega), blk_mod (show Z < Z + 1 by omega), if_neg (by omega), if_pos rfl]
theorem kind_at_over (G Z n : Nat) : kindV G Z ((G * (Z + 1) + n : Nat) : Int) = [.str "over", .int ((n : Int) + 1)] := by
  unfold kindV
  have := over_div G Z n
  rw [cdiv, if_pos (by omega)]
  have e : (G : Int) * ((Z : Int) + 1) = ((G * (Z + 1) : Nat) : Int) := by rw [Int.natCast_mul]; rfl
  rw [e]
  congr 3
  omega
/-- by how much the number at p is changed by a step of data number i * Z + j -/
def stepF (G Z i j : Nat) (step : Int) (p : Nat) : Int :=
  if p < G * (Z + 1) then (if p = i * (Z + 1) + j then step else if p = i * (Z + 1) + Z then step else 0) else step * (sgn i j ^ (p - G * (Z + 1) + 1) % 97) % 97
theorem step_data {G Z i j i' j' : Nat} {step : Int} (hj : j < Z) (hi' : i' < G) (hj' : j' < Z) : stepF G Z i j step (i' * (Z + 1) + j') = if i' = i ∧ j' = j then step else 0 := by
  unfold stepF
  rw [if_pos (by have := blk_lt (Z := Z) (j := j') hi' (by omega); omega)]
  have ne : ∀ {k : Nat}, k < Z + 1 → (i' * (Z + 1) + j' = i * (Z + 1) + k ↔ i' = i ∧ j' = k) := fun {k} hk => ⟨fun e => by
    have c1 := congrArg (· / (Z + 1)) e
    have c2 := congrArg (· % (Z + 1)) e
    simp only [blk_div hk, blk_div (show j' < Z + 1 by omega), blk_mod hk, blk_mod (show j' < Z + 1 by omega)] at c1 c2
    exact ⟨c1, c2⟩, fun ⟨e1, e2⟩ => by rw [e1, e2]⟩
  by_cases h : i' = i ∧ j' = j
  · rw [if_pos ((ne (by omega)).mpr h), if_pos h]
  · rw [if_neg fun e => h ((ne (by omega)).mp e), if_neg h, if_neg fun e => by have := (ne (by omega)).mp e; omega]
theorem step_local {G Z i j i' : Nat} {step : Int} (hj : j < Z) (hi' : i' < G) : stepF G Z i j step (i' * (Z + 1) + Z) = if i' = i then step else 0 := by
  unfold stepF
  rw [if_pos (by have := blk_lt (Z := Z) (j := Z) hi' (by omega); omega)]
  have ne : ∀ {k : Nat}, k < Z + 1 → (i' * (Z + 1) + Z = i * (Z + 1) + k ↔ i' = i ∧ Z = k) := fun {k} hk => ⟨fun e => by
    have c1 := congrArg (· / (Z + 1)) e
    have c2 := congrArg (· % (Z + 1)) e
    simp only [blk_div hk, blk_div (show Z < Z + 1 by omega), blk_mod hk, blk_mod (show Z < Z + 1 by omega)] at c1 c2
    exact ⟨c1, c2⟩, fun ⟨e1, e2⟩ => by rw [e1, ← e2]⟩
  rw [if_neg fun e => by have := (ne (by omega)).mp e; omega]
  by_cases h : i' = i
  · rw [if_pos ((ne (by omega)).mpr ⟨h, rfl⟩), if_pos h]
  · rw [if_neg fun e => h ((ne (by omega)).mp e).1, if_neg h]
theorem step_over {G Z i j n : Nat} {step : Int} : stepF G Z i j step (G * (Z + 1) + n) = step * (sgn i j ^ (n + 1) % 97) % 97 := by
  unfold stepF
  rw [if_neg (by omega), show G * (Z + 1) + n - G * (Z + 1) = n by omega]
def spSteps (K : PySem.W.Frag) : Sp := fun vs H Q _ => ∃ (a : Addr) (step : Int) (G Z N i j : Nat), vs = [.ref a, .int ((i * (Z + 1) + j : Nat) : Int), .int step] ∧ Mould K H a G Z N ∧ i < G ∧ j < Z ∧ 0 ≤ step ∧ step ≤ 96 ∧
  ∀ r H', Same H H' → H r = none → H' r = some (.lst (((List.range (G * (Z + 1) + N)).map (stepF G Z i j step)).map V.int)) → Q (.ref r) H'
theorem ok_steps (T : Txt K mg) {dv : V} (D_count : DnK P w K mg base CX0 5 "count" [] "shape" dv (spCount K)) (D_kind_of : DnK P w K mg base CX0 8 "kind_of" ["place"] "shape" dv (spKind K)) (D_mark : DnK P w K mg base CX0 9 "mark" ["place"] "shape" dv (spMark K)) (D_times : Dn P w K mg base CX0 1 "times" ["one", "other"] spTimes) (D_power : Dn P w K mg base CX0 2 "power" ["one", "many"] spPower)
    (F : At K mg "_law_steps" s__law_steps ["mould", "own", "step"]) : Dn P w K mg base CX0 10 "_law_steps" ["mould", "own", "step"] (spSteps K) := by
  refine F.ok sc__law_steps (fun vs H Q E h => ?_) (fun f cdv A outer s H vs Q E hr h => ?_)
  · obtain ⟨a, step, G, Z, N, i, j, rfl, _⟩ := h
    rfl
  · obtain ⟨a, step, G, Z, N, i, j, rfl, M, hi, hj, st0, st1, q⟩ := h
    obtain ⟨ha, g1, g4, z1, z4, m0, m2⟩ := id M
    obtain ⟨l1, l2, l3, l4⟩ := M.le
    have mz : manyZ (G : Int) Z N = ((G * (Z + 1) + N : Nat) : Int) := by have := many_nat G Z N; omega
    have ownlt : i * (Z + 1) + j < G * (Z + 1) + N := by have := blk_lt (Z := Z) (j := j) hi (by omega); omega
    refine ⟨_, (pss_cons (ps_set (i := 3) sc__law_steps.nd rfl (by first | exact Or.inl rfl | exact Or.inr rfl) (pe_lstF pa_nil))
  (pss_cons (ps_for PassesOwn.never rfl (pi_range1 (by rfl) T.n_range (pa_cons (pe_callW0 D_count (by first | exact hr | exact hr.mono (by decide)) (pv 0)) pa_nil)) (pg_name (i := 4) sc__law_steps.nd rfl (by first | exact Or.inl rfl | exact Or.inr rfl))
  (pss_cons (ps_set (i := 5) sc__law_steps.nd rfl (by first | exact Or.inl rfl | exact Or.inr rfl) (pe_callW D_kind_of (by first | exact hr | exact hr.mono (by decide)) (pa_cons (pv 4) pa_nil) (pv 0)))
  (pss_cons (ps_set (i := 6) sc__law_steps.nd rfl (by first | exact Or.inl rfl | exact Or.inr rfl) pe_int)
  (pss_cons (ps_if (PW.pt (pw_or (pt_cmpR op_eq (pv 4) (pv 1) (nomark _)) (pw_or1 (pt_cmpR (r := rEqD K) (op_eqD hr.units) (pv 5) (pe_tupF (pa_cons pe_str (pa_cons (pe_ix (r := rIxT K) ix_tup (pe_callW D_kind_of (by first | exact hr | exact hr.mono (by decide)) (pa_cons (pv 1) pa_nil) (pv 0)) pe_int (fun _ _ => rfl)) pa_nil))) (nomark _))))) (pss_one (ps_set (i := 6) sc__law_steps.nd rfl (by first | exact Or.inl rfl | exact Or.inr rfl) (pv 2))) pss_nil)
  (pss_cons (ps_if (pt_cmpR op_eq (pe_ix (r := rIxT K) ix_tup (pv 5) pe_int (fun _ _ => rfl)) pe_str (nomark _)) (pss_one (ps_set (i := 6) sc__law_steps.nd rfl (by first | exact Or.inl rfl | exact Or.inr rfl) (pe_callD D_times (by first | exact hr | exact hr.mono (by decide)) (pa_cons (pv 2) (pa_cons (pe_callD D_power (by first | exact hr | exact hr.mono (by decide)) (pa_cons (pe_callW D_mark (by first | exact hr | exact hr.mono (by decide)) (pa_cons (pv 1) pa_nil) (pv 0)) (pa_cons (pe_ix (r := rIxT K) ix_tup (pv 5) pe_int (fun _ _ => rfl)) pa_nil))) pa_nil))))) pss_nil)
  (pss_one (ps_expr (pe_bmK K PySem.F.plainAttrs_list PySem.F.slot_list_append PySem.F.type_list_append mt_append (pv 3) (pa_cons (pv 6) pa_nil)))))))))
  (pss_one (ps_ret (pv 3))))), ?_⟩
    refine ⟨Nat.zero_le _, fun D H1 nD s1 eD => ?_⟩
    refine ⟨_, rfl, rfl, a, G, Z, N, rfl, M.same s1, _, rfl, by omega, by omega, ?_⟩
    refine for_range (lo := 0) (fun p σ H' => ∃ v4 v5 v6, σ = [some (.ref a), some (.int ((i * (Z + 1) + j : Nat) : Int)), some (.int step), some (.ref D), v4, v5, v6] ∧ Same H H' ∧ H' D = some (.lst (((List.range p).map (stepF G Z i j step)).map V.int))) ⟨_, _, _, rfl, s1, eD⟩ ?_ ?_
    · rintro p σ H2 hp ⟨v4, v5, v6, rfl, s2, e2⟩
      rw [mz, Int.toNat_natCast] at hp
      have ik : ((0 : Int) + (p : Int)) = (p : Int) := Int.zero_add _
      refine ⟨_, rfl, _, rfl, rfl, rfl, _, a, G, Z, N, rfl, M.same s2, by omega, by omega, fun t H3 s3 et => ?_⟩
      rw [ik] at et
      have s03 := Same.trans s2 s3
      have e3 := s3 _ _ e2
      /- the end of a turn -/
      have fin : ∀ (H' : Hp) (x : Int) (v4 v5 v6 : Option V), Same H3 H' → x = stepF G Z i j step p → ∃ w4 w5 w6, [some (V.ref a), some (.int ((i * (Z + 1) + j : Nat) : Int)), some (.int step), some (.ref D), v4, v5, v6] = [some (V.ref a), some (.int ((i * (Z + 1) + j : Nat) : Int)), some (.int step), some (.ref D), w4, w5, w6] ∧ Same H (upd H' D (.lst (((List.range p).map (stepF G Z i j step)).map V.int ++ [.int x]))) ∧
          upd H' D (.lst (((List.range p).map (stepF G Z i j step)).map V.int ++ [.int x])) D = some (.lst (((List.range (p + 1)).map (stepF G Z i j step)).map V.int)) := fun H' x v4 v5 v6 s' ex => by
        refine ⟨_, _, _, rfl, fun b o e => ?_, ?_⟩
        · rw [upd_ne (ne_of_none e nD)]
          exact s' _ _ (s03 _ _ e)
        · rw [upd_same, List.range_succ, ex]
          simp only [List.map_append, List.map_cons, List.map_nil]
      have l63 : (((List.range p).map (stepF G Z i j step)).map V.int).length < sizeLine := by rw [List.length_map, List.length_map, List.length_range]; exact Nat.lt_of_lt_of_le (m := 1000) (by omega) (by decide)
      /- the second test's tuple -/
      have own_kind := kind_at_data (G := G) hi hj
      have pk : ∀ {k : Nat}, k < Z + 1 → ∀ {i' k' : Nat}, k' < Z + 1 → (i' * (Z + 1) + k' = i * (Z + 1) + k ↔ i' = i ∧ k' = k) := fun {k} hk {i' k'} hk' => ⟨fun e => by
        have c1 := congrArg (· / (Z + 1)) e
        have c2 := congrArg (· % (Z + 1)) e
        simp only [blk_div hk, blk_div hk', blk_mod hk, blk_mod hk'] at c1 c2
        exact ⟨c1, c2⟩, fun ⟨e1, e2⟩ => by rw [e1, e2]⟩
      rcases place_cases hp with ⟨i', j', hi', hj', rfl⟩ | ⟨i', hi', rfl⟩ | ⟨n, hn, rfl⟩
      · rw [kind_at_data hi' hj'] at et
        have iff1 := pk (k := j) (by omega) (i' := i') (k' := j') (by omega)
        have es := step_data (G := G) (i := i) (step := step) hj hi' hj'
        refine ⟨_, rfl, _, rfl, rfl, _, rfl, iteI (fun h1 => ?_) fun h1 => ?_⟩
        · rw [if_pos (iff1.mp (by omega))] at es
          refine ⟨_, rfl, ?_⟩
          refine ⟨_, rfl, _, _, _, _, rfl, rfl, SqT.of et, rfl, rfl, _, rfl, iteD (fun z => absurd z (by decide)) fun _ => ?_⟩
          refine ⟨_, rfl, .inl ⟨rfl, _, SqL.of e3⟩, _, rfl, _, _, _, rfl, rfl, e3, l63, ?_⟩
          exact fin H3 step _ _ _ (Same.refl _) es.symm
        · rw [if_neg fun z => h1 (by have := iff1.mpr z; omega)] at es
          refine ⟨_, rfl, _, rfl, _, rfl, rfl, rfl, _, a, G, Z, N, rfl, M.same s03, by omega, by omega, fun t2 H4 s4 et2 => ?_⟩
          rw [own_kind] at et2
          refine ⟨_, _, _, _, rfl, rfl, SqT.of et2, rfl, (by show 2 ≤ sizeLine; decide), fun t3 H5 n5 s5 et3 => ?_⟩
          have s35 := Same.trans s4 s5
          refine ⟨_, _, .tup (SqT.of (s35 _ _ et)) (.cons (.str _) (.cons (.int _) (.cons (.int _) .nil))), .tup (SqT.of et3) (.cons (.str _) (.cons (.int _) .nil)), shKd _ _, shKl _, ?_⟩
          rw [eqK3]
          refine ⟨_, rfl, ?_⟩
          refine ⟨_, rfl, _, _, _, _, rfl, rfl, SqT.of (s35 _ _ et), rfl, rfl, _, rfl, iteD (fun z => absurd z (by decide)) fun _ => ?_⟩
          have e5 := s35 _ _ e3
          refine ⟨_, rfl, .inl ⟨rfl, _, SqL.of e5⟩, _, rfl, _, _, _, rfl, rfl, e5, l63, ?_⟩
          exact fin H5 0 _ _ _ s35 es.symm
      · rw [kind_at_local hi'] at et
        have iff1 := pk (k := j) (by omega) (i' := i') (k' := Z) (by omega)
        have es := step_local (G := G) (i := i) (step := step) hj hi'
        refine ⟨_, rfl, _, rfl, rfl, _, rfl, iteI (fun h1 => ?_) fun h1 => ?_⟩
        · have := iff1.mp (by omega)
          omega
        refine ⟨_, rfl, _, rfl, _, rfl, rfl, rfl, _, a, G, Z, N, rfl, M.same s03, by omega, by omega, fun t2 H4 s4 et2 => ?_⟩
        rw [own_kind] at et2
        refine ⟨_, _, _, _, rfl, rfl, SqT.of et2, rfl, (by show 2 ≤ sizeLine; decide), fun t3 H5 n5 s5 et3 => ?_⟩
        have s35 := Same.trans s4 s5
        have e5 := s35 _ _ e3
        refine ⟨_, _, .tup (SqT.of (s35 _ _ et)) (.cons (.str _) (.cons (.int _) .nil)), .tup (SqT.of et3) (.cons (.str _) (.cons (.int _) .nil)), shKl _, shKl _, ?_⟩
        rw [eqK2]
        by_cases h2 : i' = i
        · rw [if_pos h2] at es
          rw [show (Str.ofString "local" == Str.ofString "local" && (i' : Int) == (i : Int)) = true by rw [h2]; simp]
          refine ⟨_, rfl, ?_⟩
          refine ⟨_, rfl, ?_⟩
          refine ⟨_, rfl, _, _, _, _, rfl, rfl, SqT.of (s35 _ _ et), rfl, rfl, _, rfl, iteD (fun z => absurd z (by decide)) fun _ => ?_⟩
          refine ⟨_, rfl, .inl ⟨rfl, _, SqL.of e5⟩, _, rfl, _, _, _, rfl, rfl, e5, l63, ?_⟩
          exact fin H5 step _ _ _ s35 es.symm
        · rw [if_neg h2] at es
          rw [show (Str.ofString "local" == Str.ofString "local" && (i' : Int) == (i : Int)) = false by simp; omega]
          refine ⟨_, rfl, ?_⟩
          refine ⟨_, rfl, _, _, _, _, rfl, rfl, SqT.of (s35 _ _ et), rfl, rfl, _, rfl, iteD (fun z => absurd z (by decide)) fun _ => ?_⟩
          refine ⟨_, rfl, .inl ⟨rfl, _, SqL.of e5⟩, _, rfl, _, _, _, rfl, rfl, e5, l63, ?_⟩
          exact fin H5 0 _ _ _ s35 es.symm
      · rw [kind_at_over] at et
        have es := step_over (G := G) (Z := Z) (i := i) (j := j) (n := n) (step := step)
        refine ⟨_, rfl, _, rfl, rfl, _, rfl, iteI (fun h1 => ?_) fun h1 => ?_⟩
        · have := blk_lt (Z := Z) (j := j) hi (by omega)
          omega
        refine ⟨_, rfl, _, rfl, _, rfl, rfl, rfl, _, a, G, Z, N, rfl, M.same s03, by omega, by omega, fun t2 H4 s4 et2 => ?_⟩
        rw [own_kind] at et2
        refine ⟨_, _, _, _, rfl, rfl, SqT.of et2, rfl, (by show 2 ≤ sizeLine; decide), fun t3 H5 n5 s5 et3 => ?_⟩
        have s35 := Same.trans s4 s5
        have e5 := s35 _ _ e3
        refine ⟨_, _, .tup (SqT.of (s35 _ _ et)) (.cons (.str _) (.cons (.int _) .nil)), .tup (SqT.of et3) (.cons (.str _) (.cons (.int _) .nil)), shKo _, shKl _, ?_⟩
        rw [eqK2]
        rw [show (Str.ofString "over" == Str.ofString "local" && ((n : Int) + 1) == (i : Int)) = false by rw [show (Str.ofString "over" == Str.ofString "local") = false by decide]; rfl]
        refine ⟨_, rfl, ?_⟩
        refine ⟨_, rfl, _, _, _, _, rfl, rfl, SqT.of (s35 _ _ et), rfl, rfl, _, rfl, iteD (fun _ => ?_) fun z => absurd rfl z⟩
        have hd : isData G Z ((i * (Z + 1) + j : Nat) : Int) = true := by
          unfold isData
          rw [cdiv, cmod, blk_div (show j < Z + 1 by omega), blk_mod (show j < Z + 1 by omega), decide_eq_true (by omega), decide_eq_true (by omega)]
          rfl
        have em : markZ Z ((i * (Z + 1) + j : Nat) : Int) = sgn i j := by
          unfold markZ
          rw [cdiv, cmod, blk_div (show j < Z + 1 by omega), blk_mod (show j < Z + 1 by omega)]
          rfl
        refine ⟨_, rfl, _, rfl, _, rfl, rfl, rfl, _, a, G, Z, N, rfl, M.same (Same.trans s03 s35), by omega, by omega, hd, fun H6 s6 => ?_⟩
        rw [em]
        have sb := sgn_bd (i := i) (j := j) (by omega)
        have h9 : 100 < 2 ^ 250 := by decide
        refine ⟨_, rfl, _, _, _, _, rfl, rfl, SqT.of (s6 _ _ (s35 _ _ et)), rfl, _, _, rfl, (by unfold Bd; omega), (by omega), ?_⟩
        refine ⟨_, _, rfl, (by unfold Bd; omega), Bd.mod _, ?_⟩
        have e6 := s6 _ _ e5
        refine ⟨_, rfl, .inl ⟨rfl, _, SqL.of e6⟩, _, rfl, _, _, _, rfl, rfl, e6, l63, ?_⟩
        refine fin H6 _ _ _ _ (Same.trans s35 s6) ?_
        rw [es, show ((n : Int) + 1).toNat = n + 1 by omega]
    · rintro σ H2 ⟨v4, v5, v6, rfl, s2, e2⟩
      rw [mz, Int.toNat_natCast] at e2
      exact ⟨_, rfl, q D H2 s2 nD e2⟩
-- F
theorem fill_chg {G Z M p i j : Nat} {d e : Nat → Int} {step : Int} (hi : i < G) (hj : j < Z) (hd : ∀ t, t < G * Z → 0 ≤ d t ∧ d t ≤ 96) (e1 : e (i * Z + j) = (d (i * Z + j) + step) % 97) (e2 : ∀ t, t < G * Z → t ≠ i * Z + j → e t = d t) (s0 : 0 ≤ step) (s1 : step ≤ 96) (hp : p < G * (Z + 1) + M) :
    (fillF G Z e p - fillF G Z d p) % 97 = stepF G Z i j step p := by
  have ij : ∀ {i' j'}, j' < Z → (i' * Z + j' = i * Z + j ↔ i' = i ∧ j' = j) := fun {i' j'} hj' => ⟨fun h => by
    have c1 := congrArg (· / Z) h
    have c2 := congrArg (· % Z) h
    simp only [bz_div hj, bz_div hj', bz_mod hj, bz_mod hj'] at c1 c2
    exact ⟨c1, c2⟩, fun ⟨h1, h2⟩ => by rw [h1, h2]⟩
  have d0 := hd _ (bz_lt hi hj)
  rcases place_cases hp with ⟨i', j', hi', hj', rfl⟩ | ⟨i', hi', rfl⟩ | ⟨n, hn, rfl⟩
  · rw [fill_data _ hi' hj', fill_data _ hi' hj', step_data hj hi' hj']
    by_cases h : i' = i ∧ j' = j
    · rw [if_pos h, h.1, h.2, e1]
      omega
    · rw [if_neg h, e2 _ (bz_lt hi' hj') fun z => h ((ij hj').mp z)]
      omega
  · rw [fill_local _ hi', fill_local _ hi', step_local hj hi']
    by_cases h : i' = i
    · subst h
      rw [if_pos rfl, sm_chg (f := fun j => e (i' * Z + j)) (g := fun j => d (i' * Z + j)) hj fun j' hj' ne => e2 _ (bz_lt hi' hj') fun z => ne ((ij hj').mp z).2]
      rw [e1]
      omega
    · rw [if_neg h, sm_congr (f := fun j => e (i' * Z + j)) (g := fun j => d (i' * Z + j)) fun j' hj' => e2 _ (bz_lt hi' hj') fun z => h ((ij hj').mp z).1]
      omega
  · rw [fill_over, fill_over, step_over]
    have h1 : overS G Z e n = overS G Z d n + sgn i j ^ (n + 1) * (e (i * Z + j) - d (i * Z + j)) := by
      unfold overS
      rw [sm_chg (f := fun i => sm (fun j => sgn i j ^ (n + 1) * e (i * Z + j)) Z) (g := fun i => sm (fun j => sgn i j ^ (n + 1) * d (i * Z + j)) Z) hi fun i' hi' ne => sm_congr fun j' hj' => by rw [e2 _ (bz_lt hi' hj') fun z => ne ((ij hj').mp z).1]]
      rw [sm_chg (f := fun j => sgn i j ^ (n + 1) * e (i * Z + j)) (g := fun j => sgn i j ^ (n + 1) * d (i * Z + j)) hj fun j' hj' ne => by rw [e2 _ (bz_lt hi hj') fun z => ne ((ij hj').mp z).2]]
      rw [Int.mul_sub]
      omega
    rw [h1, e1]
    have h2 : (sgn i j ^ (n + 1) * ((d (i * Z + j) + step) % 97 - d (i * Z + j))) % 97 = (step * (sgn i j ^ (n + 1) % 97)) % 97 := by
      rw [Int.mul_emod, show ((d (i * Z + j) + step) % 97 - d (i * Z + j)) % 97 = step % 97 by omega, ← Int.mul_emod, Int.mul_comm, Int.mul_emod, Int.mul_emod step (sgn i j ^ (n + 1) % 97), Int.emod_emod_of_dvd _ (Int.dvd_refl 97)]
    omega
def spChanges (K : PySem.W.Frag) : Sp := fun vs H Q _ => ∃ (m : V) (d1 d2 r : Addr) (at_ : Int) (as1 as2 : List Addr) (rows1 rows2 : List (List Int)) (ss : List Int), vs = [m, .ref d1, .ref d2, .int at_, .ref r] ∧ DMat H d1 as1 rows1 ∧ DMat H d2 as2 rows2 ∧ SqL K H r (ss.map V.int) ∧ rows1.length = ss.length ∧ rows2.length = ss.length ∧ ss.length ≤ 1000 ∧
  (∀ (p : Nat) (r1 r2 : List Int) (s : Int), rows1[p]? = some r1 → rows2[p]? = some r2 → ss[p]? = some s → r1.length = r2.length ∧ r1.length ≤ 1000 ∧ 0 ≤ s ∧ s ≤ 96 ∧ ∀ (c : Nat) (x y : Int), r1[c]? = some x → r2[c]? = some y → (y - x) % 97 = s * (if (c : Int) = at_ then 1 else 0)) ∧ ∀ H', Same H H' → Q (.bl true) H'
theorem ok_changes (T : Txt K mg) (D_minus : Dn P w K mg base CX0 1 "minus" ["one", "other"] spMinus) (F : At K mg "_law_changes" s__law_changes ["mould", "ones", "others", "at", "steps"]) : Dn P w K mg base CX0 2 "_law_changes" ["mould", "ones", "others", "at", "steps"] (spChanges K) := by
  refine F.ok sc__law_changes (fun vs H Q E h => ?_) (fun f cdv A outer s H vs Q E hr h => ?_)
  · obtain ⟨m, d1, d2, r, at_, as1, as2, rows1, rows2, ss, rfl, _⟩ := h
    rfl
  · obtain ⟨m, d1, d2, r, at_, as1, as2, rows1, rows2, ss, rfl, M1, M2, hs, l1, l2, ls, hc, q⟩ := h
    refine ⟨_, (pss_cons (ps_for PassesOwn.never rfl (pi_range1 (by rfl) T.n_range (pa_cons (pe_callB (r := rLen K) call_len (by rfl) T.n_len (by decide +kernel) (pa_cons (pv 4) pa_nil)) pa_nil)) (pg_name (i := 5) sc__law_changes.nd rfl (by first | exact Or.inl rfl | exact Or.inr rfl))
  (pss_cons (ps_if (pt_cmpR op_ne (pe_callB (r := rLen K) call_len (by rfl) T.n_len (by decide +kernel) (pa_cons (pe_dget (hu1 hr.units) (pv 1) (pv 5) (fun _ _ => rfl)) pa_nil)) (pe_callB (r := rLen K) call_len (by rfl) T.n_len (by decide +kernel) (pa_cons (pe_dget (hu1 hr.units) (pv 2) (pv 5) (fun _ _ => rfl)) pa_nil)) (nomark _)) (pss_one (ps_ret pe_bl)) pss_nil)
  (pss_one (ps_for PassesOwn.never rfl (pi_range1 (by rfl) T.n_range (pa_cons (pe_callB (r := rLen K) call_len (by rfl) T.n_len (by decide +kernel) (pa_cons (pe_dget (hu1 hr.units) (pv 1) (pv 5) (fun _ _ => rfl)) pa_nil)) pa_nil)) (pg_name (i := 6) sc__law_changes.nd rfl (by first | exact Or.inl rfl | exact Or.inr rfl))
  (pss_one (ps_if (pt_cmpR op_ne (pe_callD D_minus (by first | exact hr | exact hr.mono (by decide)) (pa_cons (pe_ix (r := rIxL K) ix_list (pe_dget (hu1 hr.units) (pv 2) (pv 5) (fun _ _ => rfl)) (pv 6) (fun _ _ => rfl)) (pa_cons (pe_ix (r := rIxL K) ix_list (pe_dget (hu1 hr.units) (pv 1) (pv 5) (fun _ _ => rfl)) (pv 6) (fun _ _ => rfl)) pa_nil))) (pe_op op_mul (pe_ix (r := rIxL K) ix_list (pv 4) (pv 5) (fun _ _ => rfl)) (pe_callTy call_int1 (by rfl) T.n_int (by decide +kernel) (pa_cons (pe_cmpR op_eq (pv 6) (pv 3) (nomark _)) pa_nil))) (nomark _)) (pss_one (ps_ret pe_bl)) pss_nil))))))
  (pss_one (ps_ret pe_bl))), ?_⟩
    refine ⟨_, rfl, _, _, rfl, .inl ⟨_, hs, rfl⟩, ?_⟩
    rw [List.length_map]
    refine ⟨_, rfl, by omega, by omega, ?_⟩
    refine for_range (lo := 0) (fun p σ H' => ∃ v5 v6, σ = [some m, some (.ref d1), some (.ref d2), some (.int at_), some (.ref r), v5, v6] ∧ Same H H') ⟨_, _, rfl, Same.refl _⟩ ?_ ?_
    · rintro p σ H1 hp ⟨v5, v6, rfl, s1⟩
      rw [Int.toNat_natCast] at hp
      have M1' := M1.same s1
      have M2' := M2.same s1
      have h1 : p < rows1.length := by omega
      have h2 : p < rows2.length := by omega
      have a1 : p < as1.length := by rw [M1.len]; omega
      have a2 : p < as2.length := by rw [M2.len]; omega
      have ea1 : as1[p]? = some as1[p] := List.getElem?_eq_getElem a1
      have ea2 : as2[p]? = some as2[p] := List.getElem?_eq_getElem a2
      have er1 := M1'.get p _ _ ea1 (List.getElem?_eq_getElem h1)
      have er2 := M2'.get p _ _ ea2 (List.getElem?_eq_getElem h2)
      obtain ⟨c1, c2, c3, c4, c5⟩ := hc p _ _ _ (List.getElem?_eq_getElem h1) (List.getElem?_eq_getElem h2) (List.getElem?_eq_getElem hp)
      have g1 : ∀ H', Same H1 H' → DGet H' d1 (.int (0 + (p : Int))) (some (.ref as1[p])) := fun H' s' => .inl ⟨_, Sum.inl (p : Int), .inl (s' _ _ M1'.hd), (by show V.int (0 + (p : Int)) = V.int (p : Int); rw [Int.zero_add]), (pairsD_at ea1).symm⟩
      have g2 : ∀ H', Same H1 H' → DGet H' d2 (.int (0 + (p : Int))) (some (.ref as2[p])) := fun H' s' => .inl ⟨_, Sum.inl (p : Int), .inl (s' _ _ M2'.hd), (by show V.int (0 + (p : Int)) = V.int (p : Int); rw [Int.zero_add]), (pairsD_at ea2).symm⟩
      refine ⟨_, rfl, _, rfl, d1, _, rfl, g1 _ (Same.refl _), _, _, rfl, .inl ⟨_, SqL.of er1, rfl⟩, _, rfl, _, rfl, d2, _, rfl, g2 _ (Same.refl _), _, _, rfl, .inl ⟨_, SqL.of er2, rfl⟩, rfl, _, rfl, iteIn (fun z => ?_) fun _ => ?_⟩
      · rw [List.length_map, List.length_map] at z
        exact absurd (by omega) z
      refine ⟨_, rfl, _, rfl, d1, _, rfl, g1 _ (Same.refl _), _, _, rfl, .inl ⟨_, SqL.of er1, rfl⟩, ?_⟩
      rw [List.length_map]
      refine ⟨_, rfl, by omega, by omega, ?_⟩
      refine for_range (lo := 0) (fun c σ H' => ∃ v6, σ = [some m, some (.ref d1), some (.ref d2), some (.int at_), some (.ref r), some (.int (0 + (p : Int))), v6] ∧ Same H1 H') ⟨_, rfl, Same.refl _⟩ ?_ ?_
      · rintro c σ H2 hcc ⟨v6, rfl, s2⟩
        rw [Int.toNat_natCast] at hcc
        have hc2 : c < rows2[p].length := by omega
        have at1 : atI ((rows1[p]).map V.int) (0 + (c : Int)) = some (.int rows1[p][c]) := by
          rw [Int.zero_add]
          exact atI_nat (by rw [List.getElem?_map, List.getElem?_eq_getElem hcc]; rfl)
        have at2 : atI ((rows2[p]).map V.int) (0 + (c : Int)) = some (.int rows2[p][c]) := by
          rw [Int.zero_add]
          exact atI_nat (by rw [List.getElem?_map, List.getElem?_eq_getElem hc2]; rfl)
        have at3 : atI (ss.map V.int) (0 + (p : Int)) = some (.int ss[p]) := by
          rw [Int.zero_add]
          exact atI_nat (by rw [List.getElem?_map, List.getElem?_eq_getElem hp]; rfl)
        have key := c5 c _ _ (List.getElem?_eq_getElem hcc) (List.getElem?_eq_getElem hc2)
        refine ⟨_, rfl, _, rfl, d2, _, rfl, g2 _ s2, _, rfl, _, _, _, _, rfl, rfl, SqL.of (s2 _ _ er2), at2, _, rfl, _, rfl, d1, _, rfl, g1 _ s2, _, rfl, _, _, _, _, rfl, rfl, SqL.of (s2 _ _ er1), at1, ?_⟩
        refine ⟨_, _, rfl, ?_⟩
        refine ⟨_, rfl, _, rfl, _, _, _, _, rfl, rfl, s2.seq (s1.seq hs), at3, _, rfl, _, rfl, rfl, .inr ⟨_, rfl, ?_⟩⟩
        have ed : decide (V.int (0 + (c : Int)) = V.int at_) = decide ((c : Int) = at_) := by simp
        rw [ed]
        refine ⟨_, _, rfl, rfl, .inl ⟨by omega, by omega⟩, rfl, _, rfl, iteIn (fun z => ?_) fun _ => ?_⟩
        · exfalso
          apply z
          rw [key]
          by_cases h : (c : Int) = at_ <;> simp [h]
        · exact ⟨_, rfl, s2⟩
      · rintro σ H2 ⟨v6, rfl, s2⟩
        exact ⟨_, _, rfl, Same.trans s1 s2⟩
    · rintro σ H1 ⟨v5, v6, rfl, s1⟩
      exact q H1 s1
-- F
theorem times_size4 (n : Nat) (h : n ≤ 63) : 0 ≤ (if (if (4 : Int) < (n : Int) then (4 : Int) else (n : Int)) > 1 then (if (4 : Int) < (n : Int) then (4 : Int) else (n : Int)) else 1) ∧ (if (if (4 : Int) < (n : Int) then (4 : Int) else (n : Int)) > 1 then (if (4 : Int) < (n : Int) then (4 : Int) else (n : Int)) else 1) ≤ 4 := by
  split <;> split <;> omega
def spLaw (K : PySem.W.Frag) : Sp := fun vs H Q _ => ∃ (a : Addr) (ns : List Int), vs = [.ref a] ∧ SqL K H a (ns.map V.int) ∧ ns.length ≤ 63 ∧ ∀ H', Q (.bl true) H'
theorem ok_law (T : Txt K mg) {dv : V} (D__law_purse : Dn P w K mg base CX0 1 "_law_purse" ["script", "k"] (spPurse K)) (D__law_drawn : Dn P w K mg base CX0 1 "_law_drawn" ["purse", "many"] spDrawn) (D__law_shape : Dn P w K mg base CX0 2 "_law_shape" ["purse", "most"] (spMould K))
    (D__law_row : Dn P w K mg base CX0 2 "_law_row" ["purse", "most"] (spRow K)) (D__law_read_back : Dn P w K mg base CX0 14 "_law_read_back" ["row", "mould"] (spReadBack K)) (D_needed : DnK P w K mg base CX0 10 "needed" ["first", "behind"] "shape" dv (spNeeded K)) (D_laid : DnK P w K mg base CX0 13 "laid" ["row"] "shape" dv (spLaid K))
    (D__law_changes : Dn P w K mg base CX0 2 "_law_changes" ["mould", "ones", "others", "at", "steps"] (spChanges K)) (D__law_steps : Dn P w K mg base CX0 10 "_law_steps" ["mould", "own", "step"] (spSteps K))
    {f : Addr} {fd : FuncData} (F : FunD K "law" "law" (defArgs s_law) (defBody s_law) (defScope s_law) [] [] f fd) : FnOk P w K mg base CX0 15 f fd ["script"] (spLaw K) := by
  refine ok0 F sc_law (fun vs H Q E h => ?_) (fun f cdv A outer s H vs Q E hr h => ?_)
  · obtain ⟨a, ns, rfl, _⟩ := h
    rfl
  · obtain ⟨a, zs, rfl, hS, hl, q⟩ := h
    refine ⟨_, (pss_cons (ps_for PassesOwn.never rfl (pi_range1 (by rfl) T.n_range (pa_cons (pe_callB (call_max2 rfl) (by rfl) T.n_max (by decide +kernel) (pa_cons pe_int (pa_cons (pe_callB (call_min2 rfl) (by rfl) T.n_min (by decide +kernel) (pa_cons pe_int (pa_cons (pe_callB (r := rLen K) call_len (by rfl) T.n_len (by decide +kernel) (pa_cons (pv 0) pa_nil)) pa_nil))) pa_nil))) pa_nil)) (pg_name (i := 1) sc_law.nd rfl (by first | exact Or.inl rfl | exact Or.inr rfl))
  (pss_cons (ps_set (i := 2) sc_law.nd rfl (by first | exact Or.inl rfl | exact Or.inr rfl) (pe_callD D__law_purse (by first | exact hr | exact hr.mono (by decide)) (pa_cons (pv 0) (pa_cons (pv 1) pa_nil))))
  (pss_cons (ps_set (i := 3) sc_law.nd rfl (by first | exact Or.inl rfl | exact Or.inr rfl) (pe_op op_add pe_int (pe_callD D__law_drawn (by first | exact hr | exact hr.mono (by decide)) (pa_cons (pv 2) (pa_cons pe_int pa_nil)))))
  (pss_cons (ps_set (i := 4) sc_law.nd rfl (by first | exact Or.inl rfl | exact Or.inr rfl) (pe_callD D__law_shape (by first | exact hr | exact hr.mono (by decide)) (pa_cons (pv 2) (pa_cons pe_int pa_nil))))
  (pss_cons (ps_set (i := 5) sc_law.nd rfl (by first | exact Or.inl rfl | exact Or.inr rfl) (pe_callD D__law_row (by first | exact hr | exact hr.mono (by decide)) (pa_cons (pv 2) (pa_cons pe_int pa_nil))))
  (pss_cons (ps_if (pt_not (pt_val (pe_callD D__law_read_back (by first | exact hr | exact hr.mono (by decide)) (pa_cons (pv 5) (pa_cons (pv 4) pa_nil))))) (pss_one (ps_ret pe_bl)) pss_nil)
  (pss_one (ps_if (pt_cmpR (r := rNeD K) (op_neD hr.units) (pv 5) (pe_lstF pa_nil) (nomark _)) (pss_cons (ps_set (i := 6) sc_law.nd rfl (by first | exact Or.inl rfl | exact Or.inr rfl) (pe_callD D__law_drawn (by first | exact hr | exact hr.mono (by decide)) (pa_cons (pv 2) (pa_cons (pe_callB (r := rLen K) call_len (by rfl) T.n_len (by decide +kernel) (pa_cons (pv 5) pa_nil)) pa_nil))))
  (pss_cons (ps_set (i := 7) sc_law.nd rfl (by first | exact Or.inl rfl | exact Or.inr rfl) (pe_callTy (r := rListF K) call_listF (by rfl) T.n_list (by decide +kernel) (pa_cons (pv 5) pa_nil)))
  (pss_cons (ps_asg (pe_op op_mod (pe_op op_add (pe_ix (r := rIxL K) ix_list (pv 5) (pv 6) (fun _ _ => rfl)) (pv 3)) pe_int) (pg_sub (pv 7) (pv 6) set_list))
  (pss_cons (ps_set (i := 8) sc_law.nd rfl (by first | exact Or.inl rfl | exact Or.inr rfl) (pe_ix (r := rIxL K) ix_list (pe_callW D_needed (by first | exact hr | exact hr.mono (by decide)) (pa_cons (pv 6) (pa_cons (pe_op op_add (pv 6) pe_int) pa_nil)) (pv 4)) pe_int (fun _ _ => rfl)))
  (pss_cons (ps_set (i := 9) sc_law.nd rfl (by first | exact Or.inl rfl | exact Or.inr rfl) (pe_op op_fdivW (pv 6) (pe_op op_mul (pe_ix (r := rIxT K) ix_tup (pv 4) pe_int (fun _ _ => rfl)) (pe_ix (r := rIxT K) ix_tup (pv 4) pe_int (fun _ _ => rfl)))))
  (pss_cons (ps_set (i := 10) sc_law.nd rfl (by first | exact Or.inl rfl | exact Or.inr rfl) (pe_callW D_laid (by first | exact hr | exact hr.mono (by decide)) (pa_cons (pv 5) pa_nil) (pv 4)))
  (pss_one (ps_if (pt_not (pt_val (pe_callD D__law_changes (by first | exact hr | exact hr.mono (by decide)) (pa_cons (pv 4) (pa_cons (pv 10) (pa_cons (pe_callW D_laid (by first | exact hr | exact hr.mono (by decide)) (pa_cons (pv 7) pa_nil) (pv 4)) (pa_cons (pv 9) (pa_cons (pe_callD D__law_steps (by first | exact hr | exact hr.mono (by decide)) (pa_cons (pv 4) (pa_cons (pv 8) (pa_cons (pv 3) pa_nil)))) pa_nil)))))))) (pss_one (ps_ret pe_bl)) pss_nil)))))))) pss_nil))))))))
  (pss_one (ps_ret pe_bl))), ?_⟩
    obtain ⟨z0, z1⟩ := times_size4 (zs.map V.int).length (by rw [List.length_map]; exact hl)
    refine ⟨_, rfl, _, _, rfl, .inl ⟨_, hS, rfl⟩, _, _, rfl, _, _, rfl, _, rfl, by omega, by omega, ?_⟩
    refine for_range (lo := 0) (fun i σ H' => ∃ v1 v2 v3 v4 v5 v6 v7 v8 v9 v10, σ = [some (.ref a), v1, v2, v3, v4, v5, v6, v7, v8, v9, v10] ∧ SqL K H' a (zs.map V.int)) ⟨none, none, none, none, none, none, none, none, none, none, rfl, hS⟩ ?_ ?_
    · rintro i_ σ H0 hi ⟨v1, v2, v3, v4, v5, v6, v7, v8, v9, v10, rfl, hS0⟩
      refine ⟨_, rfl, _, rfl, a, zs, _, rfl, hS0, by omega, by omega, by omega, fun p x y np x0 y0 y1 => ?_⟩
      have hp0 : Purse (upd H0 p (.lst [.int x, .int y, .int 0])) p 0 := ⟨x, y, 0, upd_same, x0, y0, y1, by omega, by omega⟩
      have s01 : Same H0 (upd H0 p (.lst [.int x, .int y, .int 0])) := Same.new np
      generalize upd H0 p (.lst [.int x, .int y, .int 0]) = H1 at *
      refine ⟨_, rfl, p, 0, _, rfl, hp0, by omega, by decide, by decide, fun st H2 st0 st1 hp2 k2 => ?_⟩
      refine ⟨_, _, rfl, rfl, ?_⟩
      refine ⟨_, rfl, p, _, 22, rfl, hp2, by omega, by omega, fun b g z m H3 M3 lm hp3 k3 nb => ?_⟩
      have pb : b ≠ p := Ne.symm (hp2.ne nb)
      obtain ⟨G, Z, N, rfl, rfl, rfl⟩ := M3.nat
      obtain ⟨l1', l2', l3', l4'⟩ := M3.le
      obtain ⟨hb3, g1, g4, z1', z4, m0, m2⟩ := id M3
      have gz : G * Z ≤ 16 := Nat.mul_le_mul (show G ≤ 4 by omega) (show Z ≤ 4 by omega)
      have gz1 : 1 ≤ G * Z := Nat.mul_le_mul (show 1 ≤ G by omega) (show 1 ≤ Z by omega)
      have mz := many_nat G Z N
      have egz : (G : Int) * Z = ((G * Z : Nat) : Int) := (Int.natCast_mul ..).symm
      refine ⟨_, rfl, p, _, 60, rfl, hp3, by omega, by omega, by omega, fun ns r H4 nl nd er nr k4 hp4 => ?_⟩
      have M4 := M3.kp pb k4
      have nl' : ns.length ≤ 60 := by omega
      have s04 : Same H0 H4 := Kp.same s01 np (k2.trans (k3.trans k4))
      refine ⟨_, rfl, _, rfl, r, b, G, Z, N, ns, rfl, M4, er, nl', nd, fun H5 s5 => ?_⟩
      refine ⟨_, rfl, ?_⟩
      have er5 := s5 _ _ er
      refine ⟨_, rfl, Nat.zero_le _, fun l0 H6 nl0 s6 el0 => ?_⟩
      refine ⟨_, _, dpL (SqL.of (s6 _ _ er5)), dpL (xs := []) (SqL.of el0), shL _, shL _, ?_⟩
      rw [eqvL]
      have s46 := Same.trans s5 s6
      have s06 := Same.trans s04 s46
      have er6 := s6 _ _ er5
      have hp6 := hp4.same s46
      have M6 := M4.same s46
      refine ⟨_, rfl, iteDn (fun h0 => ?_) fun h0 => ?_⟩
      · have lpos : 0 < ns.length := by
          cases ns with
          | nil => exact absurd rfl h0
          | cons x xs => simp
        have b200 : (1000 : Int) < 2 ^ 200 := by decide
        refine ⟨_, rfl, _, rfl, _, _, rfl, .inl ⟨_, SqL.of er6, rfl⟩, p, _, _, rfl, hp6, by omega, by rw [List.length_map]; omega, by rw [List.length_map]; omega, fun sp H7 sp0 sp1 hp7 k7 => ?_⟩
        rw [List.length_map] at sp1
        obtain ⟨S, rfl⟩ : ∃ S : Nat, sp = S := ⟨sp.toNat, by omega⟩
        have hS' : S < ns.length := by omega
        have rp : r ≠ p := Ne.symm (hp3.ne nr)
        have er7 := k7 _ _ er6 rp
        have M7 := M6.kp pb k7
        have s07 : Same H0 H7 := fun c o e => k7 _ _ (s06 _ _ e) (ne_of_none e np)
        refine ⟨_, rfl, _, _, rfl, .inl (SqL.of er7), fun ot H8 not s8 eot => ?_⟩
        have eat : atI (ns.map V.int) (S : Int) = some (.int (ns.getD S 0)) := atI_nat (by rw [List.getElem?_map, List.getElem?_eq_getElem hS', List.getD_eq_getElem?_getD, List.getElem?_eq_getElem hS']; rfl)
        have nsd : ∀ t, 0 ≤ ns.getD t 0 ∧ ns.getD t 0 ≤ 96 := fun t => by
          rw [List.getD_eq_getElem?_getD]
          cases h : ns[t]? with
          | none => exact ⟨Int.le_refl 0, by decide⟩
          | some v => exact nd _ (List.mem_of_getElem? h)
        refine ⟨_, rfl, _, rfl, _, _, _, _, rfl, rfl, SqL.of (s8 _ _ er7), eat, _, rfl, _, _, rfl, rfl, _, _, rfl, rfl, (by show (0 : Int) < 97; decide), ?_⟩
        have hix : ixN (ns.map V.int).length (S : Int) = some S := by
          rw [List.length_map]
          unfold ixN
          rw [if_pos (by omega), if_pos (by omega), Int.toNat_natCast]
        refine ⟨_, rfl, _, rfl, _, _, _, _, rfl, rfl, eot, hix, ?_⟩
        show _
        rw [← List.map_set]
        have s79 : Same H7 (upd H8 ot (.lst ((ns.set S ((ns.getD S 0 + (1 + st)) % 97)).map V.int))) := fun c o e => by
          rw [upd_ne (ne_of_none e not)]
          exact s8 _ _ e
        have eot9 : upd H8 ot (.lst ((ns.set S ((ns.getD S 0 + (1 + st)) % 97)).map V.int)) ot = some (.lst ((ns.set S ((ns.getD S 0 + (1 + st)) % 97)).map V.int)) := upd_same
        generalize upd H8 ot (.lst ((ns.set S ((ns.getD S 0 + (1 + st)) % 97)).map V.int)) = H9 at *
        generalize hwo : ns.set S ((ns.getD S 0 + (1 + st)) % 97) = wo at *
        have lwo : wo.length = ns.length := by rw [← hwo, List.length_set]
        have wat : ∀ t, wo.getD t 0 = if t = S then (ns.getD S 0 + (1 + st)) % 97 else ns.getD t 0 := fun t => by
          rw [← hwo, List.getD_eq_getElem?_getD, List.getElem?_set]
          by_cases h : t = S
          · subst h
            rw [if_pos rfl, if_pos rfl, if_pos hS']
            rfl
          · rw [if_neg (Ne.symm h), if_neg h, ← List.getD_eq_getElem?_getD]
        have bwo : ∀ x ∈ wo, 0 ≤ x ∧ x ≤ 96 := fun x hx => by
          rw [← hwo] at hx
          rcases List.mem_or_eq_of_mem_set hx with h | rfl
          · exact nd x h
          · omega
        have M9 := M7.same s79
        refine ⟨_, rfl, _, rfl, _, _, rfl, rfl, _, rfl, rfl, rfl, _, _, b, G, Z, N, rfl, M9, fun ne H10 s10 nne ene => ?_⟩
        rw [Int.toNat_natCast, Int.toNat_natCast, needed_one gz1] at ene
        have hmod : S % (G * Z) < G * Z := Nat.mod_lt _ (by omega)
        have hdm : S / (G * Z) * (G * Z) + S % (G * Z) = S := by rw [Nat.mul_comm]; exact Nat.div_add_mod S (G * Z)
        obtain ⟨i, j, hi', hj', et0⟩ := t_cases hmod
        rw [et0, dp_at hj'] at ene
        refine ⟨_, _, _, _, rfl, rfl, SqL.of ene, rfl, ?_⟩
        have s710 := Same.trans s79 s10
        have M10 := M9.same s10
        have b10 : 16 < 2 ^ 10 := by decide
        refine ⟨_, rfl, _, rfl, _, _, _, _, rfl, rfl, M10.1, rfl, _, rfl, _, _, _, _, rfl, rfl, M10.1, rfl, _, _, rfl, rfl, .inl ⟨by omega, by omega⟩, ?_⟩
        refine ⟨_, _, rfl, rfl, wide_div (by omega) (b := 10) (by omega) (by decide) (by decide), ?_⟩
        have eS : (S : Int) / ((G : Int) * Z) = ((S / (G * Z) : Nat) : Int) := by rw [egz, Int.natCast_ediv]
        refine ⟨_, rfl, _, rfl, rfl, rfl, r, b, G, Z, N, ns, rfl, M10, s710 _ _ er7, nl', nd, fun d1 ds1 H11 s11 MD1 fD1 => ?_⟩
        rw [Int.toNat_natCast, Int.toNat_natCast, Int.toNat_natCast] at MD1
        have s911 := Same.trans s10 s11
        have s711 := Same.trans s710 s11
        refine ⟨_, rfl, _, rfl, _, rfl, _, rfl, rfl, rfl, ot, b, G, Z, N, wo, rfl, M10.same s11, s911 _ _ eot9, by omega, bwo, fun d2 ds2 H12 s12 MD2 fD2 => ?_⟩
        rw [Int.toNat_natCast, Int.toNat_natCast, Int.toNat_natCast] at MD2
        refine ⟨_, rfl, _, rfl, _, rfl, _, rfl, b, 1 + st, G, Z, N, i, j, rfl, M10.same (Same.trans s11 s12), hi', hj', by omega, by omega, fun sr H13 s13 nsr esr => ?_⟩
        refine ⟨_, d1, d2, sr, _, ds1, ds2, _, _, _, rfl, (MD1.same s12).same s13, MD2.same s13, SqL.of esr, (by unfold laidL; simp only [List.length_map, List.length_range]), (by unfold laidL; simp only [List.length_map, List.length_range]), (by rw [List.length_map, List.length_range]; omega), fun pp r1 r2 ss e1 e2 e3 => ?_, fun H14 s14 => ?_⟩
        · have hpp : pp < G * (Z + 1) + N := by
            have := (List.getElem?_eq_some_iff.mp e3).1
            simpa using this
          unfold laidL at e1 e2
          rw [lwo] at e2
          rw [List.getElem?_map, List.getElem?_range hpp] at e1 e2 e3
          cases e1
          cases e2
          cases e3
          have cl := cells_le (n := ns.length) gz1
          refine ⟨by simp only [List.length_map, List.length_range], by rw [List.length_map, List.length_range]; omega, ?_, ?_, fun c xx yy ex ey => ?_⟩
          · unfold stepF
            split
            · split
              · omega
              · split <;> omega
            · omega
          · unfold stepF
            split
            · split
              · omega
              · split <;> omega
            · omega
          · have hc : c < cellsN (G * Z) ns.length := by
              have := (List.getElem?_eq_some_iff.mp ex).1
              simpa using this
            rw [List.getElem?_map, List.getElem?_range hc] at ex ey
            cases ex
            cases ey
            rw [eS]
            by_cases hcs : c = S / (G * Z)
            · subst hcs
              rw [if_pos rfl, Int.mul_one]
              refine fill_chg (M := N) hi' hj' (fun t _ => nsd _) ?_ (fun t ht ne => ?_) (by omega) (by omega) hpp
              · show wo.getD _ 0 = _
                rw [wat, if_pos (by omega)]
                rw [show S / (G * Z) * (G * Z) + (i * Z + j) = S by omega]
              · show wo.getD _ 0 = _
                rw [wat, if_neg (by omega)]
            · rw [if_neg (by omega), Int.mul_zero]
              have hsame : fillF G Z (fun t => wo.getD (c * (G * Z) + t) 0) pp = fillF G Z (fun t => ns.getD (c * (G * Z) + t) 0) pp := fill_congr (M := N) (fun t ht => by
                show wo.getD _ 0 = _
                rw [wat, if_neg]
                intro e
                apply hcs
                rw [← e, Nat.mul_comm c, Nat.mul_add_div (by omega), Nat.div_eq_of_lt ht]
                omega) hpp
              show (fillF G Z (fun t => wo.getD (c * (G * Z) + t) 0) pp - fillF G Z (fun t => ns.getD (c * (G * Z) + t) 0) pp) % 97 = 0
              rw [hsame, Int.sub_self]
              rfl
        · refine ⟨_, rfl, ?_⟩
          exact ⟨_, _, _, _, _, _, _, _, _, _, rfl, (Same.trans s07 (Same.trans s711 (Same.trans s12 (Same.trans s13 s14)))).seq hS0⟩
      · have s07 : Same H0 H6 := s06
        exact ⟨_, _, _, _, _, _, _, _, _, _, rfl, s06.seq hS0⟩
    · rintro σ H1 ⟨v1, v2, v3, v4, v5, v6, v7, v8, v9, v10, rfl, hS0⟩
      exact q _
end
def d_is_whole : He.DefD := ⟨("is_whole", none), "is_whole", "is_whole", defArgs s_is_whole, defBody s_is_whole, defScope s_is_whole, [], []⟩
def d_is_between : He.DefD := ⟨("is_between", none), "is_between", "is_between", defArgs s_is_between, defBody s_is_between, defScope s_is_between, [], []⟩
def d_is_rest : He.DefD := ⟨("is_rest", none), "is_rest", "is_rest", defArgs s_is_rest, defBody s_is_rest, defScope s_is_rest, [], []⟩
def d_minus : He.DefD := ⟨("minus", none), "minus", "minus", defArgs s_minus, defBody s_minus, defScope s_minus, [], []⟩
def d_times : He.DefD := ⟨("times", none), "times", "times", defArgs s_times, defBody s_times, defScope s_times, [], []⟩
def d_power : He.DefD := ⟨("power", none), "power", "power", defArgs s_power, defBody s_power, defScope s_power, [], []⟩
def d_sum_of_products : He.DefD := ⟨("sum_of_products", none), "sum_of_products", "sum_of_products", defArgs s_sum_of_products, defBody s_sum_of_products, defScope s_sum_of_products, [], []⟩
def d_is_shape : He.DefD := ⟨("is_shape", none), "is_shape", "is_shape", defArgs s_is_shape, defBody s_is_shape, defScope s_is_shape, [], []⟩
def d_check_shape : He.DefD := ⟨("check_shape", none), "check_shape", "check_shape", defArgs s_check_shape, defBody s_check_shape, defScope s_check_shape, [], []⟩
def d_count : He.DefD := ⟨("count", none), "count", "count", defArgs s_count, defBody s_count, defScope s_count, [], [("shape", .glo "PLAIN")]⟩
def d_is_place : He.DefD := ⟨("is_place", none), "is_place", "is_place", defArgs s_is_place, defBody s_is_place, defScope s_is_place, [], [("shape", .glo "PLAIN")]⟩
def d_check_place : He.DefD := ⟨("check_place", none), "check_place", "check_place", defArgs s_check_place, defBody s_check_place, defScope s_check_place, [], []⟩
def d_kind_of : He.DefD := ⟨("kind_of", none), "kind_of", "kind_of", defArgs s_kind_of, defBody s_kind_of, defScope s_kind_of, [], [("shape", .glo "PLAIN")]⟩
def d_data_places : He.DefD := ⟨("data_places", none), "data_places", "data_places", defArgs s_data_places, defBody s_data_places, defScope s_data_places, [], [("shape", .glo "PLAIN")]⟩
def d_mark : He.DefD := ⟨("mark", none), "mark", "mark", defArgs s_mark, defBody s_mark, defScope s_mark, [], [("shape", .glo "PLAIN")]⟩
def d_local_factor : He.DefD := ⟨("local_factor", none), "local_factor", "local_factor", defArgs s_local_factor, defBody s_local_factor, defScope s_local_factor, [], []⟩
def d_over_factor : He.DefD := ⟨("over_factor", none), "over_factor", "over_factor", defArgs s_over_factor, defBody s_over_factor, defScope s_over_factor, [], []⟩
def d_checks : He.DefD := ⟨("checks", none), "checks", "checks", defArgs s_checks, defBody s_checks, defScope s_checks, [], [("shape", .glo "PLAIN")]⟩
def d_is_filling : He.DefD := ⟨("is_filling", none), "is_filling", "is_filling", defArgs s_is_filling, defBody s_is_filling, defScope s_is_filling, [], [("shape", .glo "PLAIN")]⟩
def d_units : He.DefD := ⟨("units", none), "units", "units", defArgs s_units, defBody s_units, defScope s_units, [], []⟩
def d_filled : He.DefD := ⟨("filled", none), "filled", "filled", defArgs s_filled, defBody s_filled, defScope s_filled, [], []⟩
def d_check_row : He.DefD := ⟨("check_row", none), "check_row", "check_row", defArgs s_check_row, defBody s_check_row, defScope s_check_row, [], []⟩
def d_cells_for : He.DefD := ⟨("cells_for", none), "cells_for", "cells_for", defArgs s_cells_for, defBody s_cells_for, defScope s_cells_for, [], [("shape", .glo "PLAIN")]⟩
def d_laid : He.DefD := ⟨("laid", none), "laid", "laid", defArgs s_laid, defBody s_laid, defScope s_laid, [], [("shape", .glo "PLAIN")]⟩
def d_unlaid : He.DefD := ⟨("unlaid", none), "unlaid", "unlaid", defArgs s_unlaid, defBody s_unlaid, defScope s_unlaid, [], [("shape", .glo "PLAIN")]⟩
def d_needed : He.DefD := ⟨("needed", none), "needed", "needed", defArgs s_needed, defBody s_needed, defScope s_needed, [], [("shape", .glo "PLAIN")]⟩
def d__law_purse : He.DefD := ⟨("_law_purse", none), "_law_purse", "_law_purse", defArgs s__law_purse, defBody s__law_purse, defScope s__law_purse, [], []⟩
def d__law_drawn : He.DefD := ⟨("_law_drawn", none), "_law_drawn", "_law_drawn", defArgs s__law_drawn, defBody s__law_drawn, defScope s__law_drawn, [], []⟩
def d__law_shape : He.DefD := ⟨("_law_shape", none), "_law_shape", "_law_shape", defArgs s__law_shape, defBody s__law_shape, defScope s__law_shape, [], []⟩
def d__law_row : He.DefD := ⟨("_law_row", none), "_law_row", "_law_row", defArgs s__law_row, defBody s__law_row, defScope s__law_row, [], []⟩
def d__law_read_back : He.DefD := ⟨("_law_read_back", none), "_law_read_back", "_law_read_back", defArgs s__law_read_back, defBody s__law_read_back, defScope s__law_read_back, [], []⟩
def d__law_steps : He.DefD := ⟨("_law_steps", none), "_law_steps", "_law_steps", defArgs s__law_steps, defBody s__law_steps, defScope s__law_steps, [], []⟩
def d__law_changes : He.DefD := ⟨("_law_changes", none), "_law_changes", "_law_changes", defArgs s__law_changes, defBody s__law_changes, defScope s__law_changes, [], []⟩
def d_law : He.DefD := ⟨("law", none), "law", "law", defArgs s_law, defBody s_law, defScope s_law, [], []⟩
def fn : List He.DefD := [d_is_whole, d_is_between, d_is_rest, d_minus, d_times, d_power, d_sum_of_products, d_is_shape, d_check_shape, d_count, d_is_place, d_check_place, d_kind_of, d_data_places, d_mark, d_local_factor, d_over_factor, d_checks, d_is_filling, d_units, d_filled, d_check_row, d_cells_for, d_laid, d_unlaid, d_needed, d__law_purse, d__law_drawn, d__law_shape, d__law_row, d__law_read_back, d__law_steps, d__law_changes, d_law]
def fa : List He.Fa := [.glo "is_whole", .glo "is_between", .glo "is_rest", .glo "minus", .glo "times", .glo "power", .glo "sum_of_products", .glo "is_shape", .glo "check_shape", .glo "count", .glo "is_place", .glo "check_place", .glo "kind_of", .glo "data_places", .glo "mark", .glo "local_factor", .glo "over_factor", .glo "checks", .glo "is_filling", .glo "units", .glo "filled", .glo "check_row", .glo "cells_for", .glo "laid", .glo "unlaid", .glo "needed", .glo "_law_purse", .glo "_law_drawn", .glo "_law_shape", .glo "_law_row", .glo "_law_read_back", .glo "_law_steps", .glo "_law_changes", .glo "law", .free "len", .free "max", .free "min", .free "range", .free "isinstance", .free "int", .free "bool", .free "tuple", .free "list", .free "divmod", .free "all", .free "sum", .free "zip", .free "dict", .free "enumerate", .int "PRIME" 97, .int "MOST" 60, .glo "PLAIN", .glo "MARKS"]
abbrev R : PySem.W.OpenRow := PySem.W.OpenLaw.row PySem.Challenge.rw_sherdhall_k11_whole_one_number_changed
def ex (K : PySem.W.Frag) : Bool := He.tupB K "PLAIN" [.int 2, .int 3, .int 2] && (He.tupB K "MARKS" [.int 1, .int 11, .int 40, .int 30])
abbrev hk : PySem.W.Hook := hookB 4 fa fn ex
def ob (s : PySem.W.SharedT) : AlB := obsB 4 fa fn ex (HandSHeadRun.getT s)
theorem ob_eq (s : PySem.W.SharedT) : ob s = hk.obs s.abs := obsB_eq (HandSHeadRun.getT_eq s)
def loose0 : List Str := ["__name__", "SherdError", "NoShape", "NoPlace", "NoRow", "is_whole", "is_between", "is_rest", "minus", "times", "power", "sum_of_products", "is_shape", "check_shape", "count", "is_place", "check_place", "kind_of", "data_places", "mark", "local_factor", "over_factor", "checks", "is_filling", "units", "filled", "check_row", "cells_for", "laid", "unlaid"]
def loose1 : List Str := ["needed", "_law_purse", "_law_drawn", "_law_shape", "_law_row", "_law_read_back", "_law_steps", "_law_changes", "PRIME", "PLAIN", "MARKS", "MOST"]
def loose : List Str := loose0 ++ loose1
theorem run (w : World) : HandSHeadRun.RunEq R (PySem.W.view R.prog [47]) hk ob 12000 loose w := by
  intro os
  kernel_rfl
theorem facts {P : Program} {w : World} {K : PySem.W.Frag} {h : Heap} {mg : Str → Option Value} {f : Addr} (X : K.In h) (G : h.Ns mainGlobals mg) (hfa : mg ("law" : Str) = some (.ref f)) (c : He.SaysD fa fn K) (cx : ex K = true) :
    ∃ fd : FuncData, (∀ (s : Shared) (v : Value), BindsTo s fd ⟨[v], []⟩ [("script", v)]) ∧ ∀ base : Heap, K.In base → base.Ns mainGlobals mg → FnOk P w K mg base CX0 15 f fd ["script"] (spLaw K) := by
  obtain ⟨fd_is_whole, F_is_whole⟩ := c.def_ 0 (d := d_is_whole) rfl
  have A_is_whole : At K mg "is_whole" s_is_whole ["thing"] := ⟨_, _, F_is_whole, He.glo_ok X G (c.fact 0 (f := .glo "is_whole") rfl), F_is_whole.bindsN fun _ _ _ _ _ _ us hl => match us, hl with | [_], _ => rfl⟩
  obtain ⟨fd_is_between, F_is_between⟩ := c.def_ 1 (d := d_is_between) rfl
  have A_is_between : At K mg "is_between" s_is_between ["thing", "least", "most"] := ⟨_, _, F_is_between, He.glo_ok X G (c.fact 1 (f := .glo "is_between") rfl), F_is_between.bindsN fun _ _ _ _ _ _ us hl => match us, hl with | [_, _, _], _ => rfl⟩
  obtain ⟨fd_is_rest, F_is_rest⟩ := c.def_ 2 (d := d_is_rest) rfl
  have A_is_rest : At K mg "is_rest" s_is_rest ["thing"] := ⟨_, _, F_is_rest, He.glo_ok X G (c.fact 2 (f := .glo "is_rest") rfl), F_is_rest.bindsN fun _ _ _ _ _ _ us hl => match us, hl with | [_], _ => rfl⟩
  obtain ⟨fd_minus, F_minus⟩ := c.def_ 3 (d := d_minus) rfl
  have A_minus : At K mg "minus" s_minus ["one", "other"] := ⟨_, _, F_minus, He.glo_ok X G (c.fact 3 (f := .glo "minus") rfl), F_minus.bindsN fun _ _ _ _ _ _ us hl => match us, hl with | [_, _], _ => rfl⟩
  obtain ⟨fd_times, F_times⟩ := c.def_ 4 (d := d_times) rfl
  have A_times : At K mg "times" s_times ["one", "other"] := ⟨_, _, F_times, He.glo_ok X G (c.fact 4 (f := .glo "times") rfl), F_times.bindsN fun _ _ _ _ _ _ us hl => match us, hl with | [_, _], _ => rfl⟩
  obtain ⟨fd_power, F_power⟩ := c.def_ 5 (d := d_power) rfl
  have A_power : At K mg "power" s_power ["one", "many"] := ⟨_, _, F_power, He.glo_ok X G (c.fact 5 (f := .glo "power") rfl), F_power.bindsN fun _ _ _ _ _ _ us hl => match us, hl with | [_, _], _ => rfl⟩
  obtain ⟨fd_sum_of_products, F_sum_of_products⟩ := c.def_ 6 (d := d_sum_of_products) rfl
  have A_sum_of_products : At K mg "sum_of_products" s_sum_of_products ["factors", "numbers"] := ⟨_, _, F_sum_of_products, He.glo_ok X G (c.fact 6 (f := .glo "sum_of_products") rfl), F_sum_of_products.bindsN fun _ _ _ _ _ _ us hl => match us, hl with | [_, _], _ => rfl⟩
  obtain ⟨fd_is_shape, F_is_shape⟩ := c.def_ 7 (d := d_is_shape) rfl
  have A_is_shape : At K mg "is_shape" s_is_shape ["thing"] := ⟨_, _, F_is_shape, He.glo_ok X G (c.fact 7 (f := .glo "is_shape") rfl), F_is_shape.bindsN fun _ _ _ _ _ _ us hl => match us, hl with | [_], _ => rfl⟩
  obtain ⟨fd_check_shape, F_check_shape⟩ := c.def_ 8 (d := d_check_shape) rfl
  have A_check_shape : At K mg "check_shape" s_check_shape ["shape"] := ⟨_, _, F_check_shape, He.glo_ok X G (c.fact 8 (f := .glo "check_shape") rfl), F_check_shape.bindsN fun _ _ _ _ _ _ us hl => match us, hl with | [_], _ => rfl⟩
  obtain ⟨fd_count, F_count⟩ := c.def_ 9 (d := d_count) rfl
  have A_count : AtK K mg "count" s_count [] "shape" (.ref (He.ga K "PLAIN")) := atK_mk F_count (He.glo_ok X G (c.fact 9 (f := .glo "count") rfl)) (fun _ _ _ _ _ _ us ks l1 l2 => match us, ks, l1, l2 with | [], [_], _, _ => ⟨_, _, _, _, _, _, rfl, rfl, rfl⟩) (fun _ _ _ _ _ _ us ws l1 l2 => match us, ws, l1, l2 with | [], [_], _, _ => rfl)
  obtain ⟨fd_is_place, F_is_place⟩ := c.def_ 10 (d := d_is_place) rfl
  have A_is_place : AtK K mg "is_place" s_is_place ["thing"] "shape" (.ref (He.ga K "PLAIN")) := atK_mk F_is_place (He.glo_ok X G (c.fact 10 (f := .glo "is_place") rfl)) (fun _ _ _ _ _ _ us ks l1 l2 => match us, ks, l1, l2 with | [_], [_], _, _ => ⟨_, _, _, _, _, _, rfl, rfl, rfl⟩) (fun _ _ _ _ _ _ us ws l1 l2 => match us, ws, l1, l2 with | [_], [_], _, _ => rfl)
  obtain ⟨fd_check_place, F_check_place⟩ := c.def_ 11 (d := d_check_place) rfl
  have A_check_place : At K mg "check_place" s_check_place ["thing", "shape"] := ⟨_, _, F_check_place, He.glo_ok X G (c.fact 11 (f := .glo "check_place") rfl), F_check_place.bindsN fun _ _ _ _ _ _ us hl => match us, hl with | [_, _], _ => rfl⟩
  obtain ⟨fd_kind_of, F_kind_of⟩ := c.def_ 12 (d := d_kind_of) rfl
  have A_kind_of : AtK K mg "kind_of" s_kind_of ["place"] "shape" (.ref (He.ga K "PLAIN")) := atK_mk F_kind_of (He.glo_ok X G (c.fact 12 (f := .glo "kind_of") rfl)) (fun _ _ _ _ _ _ us ks l1 l2 => match us, ks, l1, l2 with | [_], [_], _, _ => ⟨_, _, _, _, _, _, rfl, rfl, rfl⟩) (fun _ _ _ _ _ _ us ws l1 l2 => match us, ws, l1, l2 with | [_], [_], _, _ => rfl)
  obtain ⟨fd_data_places, F_data_places⟩ := c.def_ 13 (d := d_data_places) rfl
  have A_data_places : AtK K mg "data_places" s_data_places [] "shape" (.ref (He.ga K "PLAIN")) := atK_mk F_data_places (He.glo_ok X G (c.fact 13 (f := .glo "data_places") rfl)) (fun _ _ _ _ _ _ us ks l1 l2 => match us, ks, l1, l2 with | [], [_], _, _ => ⟨_, _, _, _, _, _, rfl, rfl, rfl⟩) (fun _ _ _ _ _ _ us ws l1 l2 => match us, ws, l1, l2 with | [], [_], _, _ => rfl)
  obtain ⟨fd_mark, F_mark⟩ := c.def_ 14 (d := d_mark) rfl
  have A_mark : AtK K mg "mark" s_mark ["place"] "shape" (.ref (He.ga K "PLAIN")) := atK_mk F_mark (He.glo_ok X G (c.fact 14 (f := .glo "mark") rfl)) (fun _ _ _ _ _ _ us ks l1 l2 => match us, ks, l1, l2 with | [_], [_], _, _ => ⟨_, _, _, _, _, _, rfl, rfl, rfl⟩) (fun _ _ _ _ _ _ us ws l1 l2 => match us, ws, l1, l2 with | [_], [_], _, _ => rfl)
  obtain ⟨fd_local_factor, F_local_factor⟩ := c.def_ 15 (d := d_local_factor) rfl
  have A_local_factor : At K mg "local_factor" s_local_factor ["place", "group", "shape"] := ⟨_, _, F_local_factor, He.glo_ok X G (c.fact 15 (f := .glo "local_factor") rfl), F_local_factor.bindsN fun _ _ _ _ _ _ us hl => match us, hl with | [_, _, _], _ => rfl⟩
  obtain ⟨fd_over_factor, F_over_factor⟩ := c.def_ 16 (d := d_over_factor) rfl
  have A_over_factor : At K mg "over_factor" s_over_factor ["place", "number", "shape"] := ⟨_, _, F_over_factor, He.glo_ok X G (c.fact 16 (f := .glo "over_factor") rfl), F_over_factor.bindsN fun _ _ _ _ _ _ us hl => match us, hl with | [_, _, _], _ => rfl⟩
  obtain ⟨fd_checks, F_checks⟩ := c.def_ 17 (d := d_checks) rfl
  have A_checks : AtK K mg "checks" s_checks [] "shape" (.ref (He.ga K "PLAIN")) := atK_mk F_checks (He.glo_ok X G (c.fact 17 (f := .glo "checks") rfl)) (fun _ _ _ _ _ _ us ks l1 l2 => match us, ks, l1, l2 with | [], [_], _, _ => ⟨_, _, _, _, _, _, rfl, rfl, rfl⟩) (fun _ _ _ _ _ _ us ws l1 l2 => match us, ws, l1, l2 with | [], [_], _, _ => rfl)
  obtain ⟨fd_is_filling, F_is_filling⟩ := c.def_ 18 (d := d_is_filling) rfl
  have A_is_filling : AtK K mg "is_filling" s_is_filling ["thing"] "shape" (.ref (He.ga K "PLAIN")) := atK_mk F_is_filling (He.glo_ok X G (c.fact 18 (f := .glo "is_filling") rfl)) (fun _ _ _ _ _ _ us ks l1 l2 => match us, ks, l1, l2 with | [_], [_], _, _ => ⟨_, _, _, _, _, _, rfl, rfl, rfl⟩) (fun _ _ _ _ _ _ us ws l1 l2 => match us, ws, l1, l2 with | [_], [_], _, _ => rfl)
  obtain ⟨fd_units, F_units⟩ := c.def_ 19 (d := d_units) rfl
  have A_units : AtN K mg "units" s_units [] "shape" := atN_mk F_units (He.glo_ok X G (c.fact 19 (f := .glo "units") rfl)) (fun _ _ _ _ _ _ us ws l1 l2 => match us, ws, l1, l2 with | [], [_], _, _ => rfl)
  obtain ⟨fd_filled, F_filled⟩ := c.def_ 20 (d := d_filled) rfl
  have A_filled : At K mg "filled" s_filled ["numbers", "basis"] := ⟨_, _, F_filled, He.glo_ok X G (c.fact 20 (f := .glo "filled") rfl), F_filled.bindsN fun _ _ _ _ _ _ us hl => match us, hl with | [_, _], _ => rfl⟩
  obtain ⟨fd_check_row, F_check_row⟩ := c.def_ 21 (d := d_check_row) rfl
  have A_check_row : At K mg "check_row" s_check_row ["thing"] := ⟨_, _, F_check_row, He.glo_ok X G (c.fact 21 (f := .glo "check_row") rfl), F_check_row.bindsN fun _ _ _ _ _ _ us hl => match us, hl with | [_], _ => rfl⟩
  obtain ⟨fd_cells_for, F_cells_for⟩ := c.def_ 22 (d := d_cells_for) rfl
  have A_cells_for : AtK K mg "cells_for" s_cells_for ["many"] "shape" (.ref (He.ga K "PLAIN")) := atK_mk F_cells_for (He.glo_ok X G (c.fact 22 (f := .glo "cells_for") rfl)) (fun _ _ _ _ _ _ us ks l1 l2 => match us, ks, l1, l2 with | [_], [_], _, _ => ⟨_, _, _, _, _, _, rfl, rfl, rfl⟩) (fun _ _ _ _ _ _ us ws l1 l2 => match us, ws, l1, l2 with | [_], [_], _, _ => rfl)
  obtain ⟨fd_laid, F_laid⟩ := c.def_ 23 (d := d_laid) rfl
  have A_laid : AtK K mg "laid" s_laid ["row"] "shape" (.ref (He.ga K "PLAIN")) := atK_mk F_laid (He.glo_ok X G (c.fact 23 (f := .glo "laid") rfl)) (fun _ _ _ _ _ _ us ks l1 l2 => match us, ks, l1, l2 with | [_], [_], _, _ => ⟨_, _, _, _, _, _, rfl, rfl, rfl⟩) (fun _ _ _ _ _ _ us ws l1 l2 => match us, ws, l1, l2 with | [_], [_], _, _ => rfl)
  obtain ⟨fd_unlaid, F_unlaid⟩ := c.def_ 24 (d := d_unlaid) rfl
  have A_unlaid : AtK K mg "unlaid" s_unlaid ["pieces", "many"] "shape" (.ref (He.ga K "PLAIN")) := atK_mk F_unlaid (He.glo_ok X G (c.fact 24 (f := .glo "unlaid") rfl)) (fun _ _ _ _ _ _ us ks l1 l2 => match us, ks, l1, l2 with | [_, _], [_], _, _ => ⟨_, _, _, _, _, _, rfl, rfl, rfl⟩) (fun _ _ _ _ _ _ us ws l1 l2 => match us, ws, l1, l2 with | [_, _], [_], _, _ => rfl)
  obtain ⟨fd_needed, F_needed⟩ := c.def_ 25 (d := d_needed) rfl
  have A_needed : AtK K mg "needed" s_needed ["first", "behind"] "shape" (.ref (He.ga K "PLAIN")) := atK_mk F_needed (He.glo_ok X G (c.fact 25 (f := .glo "needed") rfl)) (fun _ _ _ _ _ _ us ks l1 l2 => match us, ks, l1, l2 with | [_, _], [_], _, _ => ⟨_, _, _, _, _, _, rfl, rfl, rfl⟩) (fun _ _ _ _ _ _ us ws l1 l2 => match us, ws, l1, l2 with | [_, _], [_], _, _ => rfl)
  obtain ⟨fd__law_purse, F__law_purse⟩ := c.def_ 26 (d := d__law_purse) rfl
  have A__law_purse : At K mg "_law_purse" s__law_purse ["script", "k"] := ⟨_, _, F__law_purse, He.glo_ok X G (c.fact 26 (f := .glo "_law_purse") rfl), F__law_purse.bindsN fun _ _ _ _ _ _ us hl => match us, hl with | [_, _], _ => rfl⟩
  obtain ⟨fd__law_drawn, F__law_drawn⟩ := c.def_ 27 (d := d__law_drawn) rfl
  have A__law_drawn : At K mg "_law_drawn" s__law_drawn ["purse", "many"] := ⟨_, _, F__law_drawn, He.glo_ok X G (c.fact 27 (f := .glo "_law_drawn") rfl), F__law_drawn.bindsN fun _ _ _ _ _ _ us hl => match us, hl with | [_, _], _ => rfl⟩
  obtain ⟨fd__law_shape, F__law_shape⟩ := c.def_ 28 (d := d__law_shape) rfl
  have A__law_shape : At K mg "_law_shape" s__law_shape ["purse", "most"] := ⟨_, _, F__law_shape, He.glo_ok X G (c.fact 28 (f := .glo "_law_shape") rfl), F__law_shape.bindsN fun _ _ _ _ _ _ us hl => match us, hl with | [_, _], _ => rfl⟩
  obtain ⟨fd__law_row, F__law_row⟩ := c.def_ 29 (d := d__law_row) rfl
  have A__law_row : At K mg "_law_row" s__law_row ["purse", "most"] := ⟨_, _, F__law_row, He.glo_ok X G (c.fact 29 (f := .glo "_law_row") rfl), F__law_row.bindsN fun _ _ _ _ _ _ us hl => match us, hl with | [_, _], _ => rfl⟩
  obtain ⟨fd__law_read_back, F__law_read_back⟩ := c.def_ 30 (d := d__law_read_back) rfl
  have A__law_read_back : At K mg "_law_read_back" s__law_read_back ["row", "mould"] := ⟨_, _, F__law_read_back, He.glo_ok X G (c.fact 30 (f := .glo "_law_read_back") rfl), F__law_read_back.bindsN fun _ _ _ _ _ _ us hl => match us, hl with | [_, _], _ => rfl⟩
  obtain ⟨fd__law_steps, F__law_steps⟩ := c.def_ 31 (d := d__law_steps) rfl
  have A__law_steps : At K mg "_law_steps" s__law_steps ["mould", "own", "step"] := ⟨_, _, F__law_steps, He.glo_ok X G (c.fact 31 (f := .glo "_law_steps") rfl), F__law_steps.bindsN fun _ _ _ _ _ _ us hl => match us, hl with | [_, _, _], _ => rfl⟩
  obtain ⟨fd__law_changes, F__law_changes⟩ := c.def_ 32 (d := d__law_changes) rfl
  have A__law_changes : At K mg "_law_changes" s__law_changes ["mould", "ones", "others", "at", "steps"] := ⟨_, _, F__law_changes, He.glo_ok X G (c.fact 32 (f := .glo "_law_changes") rfl), F__law_changes.bindsN fun _ _ _ _ _ _ us hl => match us, hl with | [_, _, _, _, _], _ => rfl⟩
  obtain ⟨fd_law, F_law⟩ := c.def_ 33 (d := d_law) rfl
  obtain ⟨t_PRIME, g_PRIME⟩ := He.int_ok X G (c.fact 49 (f := .int "PRIME" 97) rfl)
  obtain ⟨t_MOST, g_MOST⟩ := He.int_ok X G (c.fact 50 (f := .int "MOST" 60) rfl)
  have T : Txt K mg := ⟨He.free_ok X G (c.fact 34 (f := .free "len") rfl), He.free_ok X G (c.fact 35 (f := .free "max") rfl), He.free_ok X G (c.fact 36 (f := .free "min") rfl), He.free_ok X G (c.fact 37 (f := .free "range") rfl), He.free_ok X G (c.fact 38 (f := .free "isinstance") rfl), He.free_ok X G (c.fact 39 (f := .free "int") rfl), He.free_ok X G (c.fact 40 (f := .free "bool") rfl), He.free_ok X G (c.fact 41 (f := .free "tuple") rfl), He.free_ok X G (c.fact 42 (f := .free "list") rfl), He.free_ok X G (c.fact 43 (f := .free "divmod") rfl), He.free_ok X G (c.fact 44 (f := .free "all") rfl), He.free_ok X G (c.fact 45 (f := .free "sum") rfl), He.free_ok X G (c.fact 46 (f := .free "zip") rfl), He.free_ok X G (c.fact 47 (f := .free "dict") rfl), He.free_ok X G (c.fact 48 (f := .free "enumerate") rfl), _, g_PRIME, ⟨_, rfl⟩, _, g_MOST, ⟨_, rfl⟩, He.glo_ok X G (c.fact 51 (f := .glo "PLAIN") rfl), fun H => He.tupB_ok (He.ba cx).1 H, He.glo_ok X G (c.fact 52 (f := .glo "MARKS") rfl), fun H => He.tupB_ok (He.ba cx).2 H⟩
  have e := hfa.symm.trans (He.glo_ok X G (c.fact 33 (f := .glo "law") rfl))
  cases e
  have b := FunD.bindsA (ps := ["script"]) F_law fun _ _ _ _ _ _ us hl => match us, hl with | [_], _ => rfl
  refine ⟨fd_law, fun s v => b s [v] rfl, fun base _ _ => ?_⟩
  have D_is_whole := ok_whole (P := P) (w := w) (base := base) T A_is_whole
  have D_is_between := ok_between D_is_whole A_is_between
  have D_is_rest := ok_rest T D_is_between A_is_rest
  have D_times := ok_times (P := P) (w := w) (base := base) T A_times
  have D_power := ok_power D_times A_power
  have D_sop := ok_sop (P := P) (w := w) (base := base) T A_sum_of_products
  have D_is_shape := ok_is_shape T D_is_between A_is_shape
  have D_check_shape := ok_check_shape D_is_shape A_check_shape
  have D_count := ok_count D_check_shape A_count
  have D_is_place := ok_is_place D_is_between D_count A_is_place
  have D_check_place := ok_check_place D_is_place A_check_place
  have D_kind_of := ok_kind_of T D_check_place A_kind_of
  have D_mark := ok_mark T D_kind_of A_mark
  have D_local := ok_local T D_kind_of A_local_factor
  have D_over := ok_over_factor T D_power D_kind_of D_mark A_over_factor
  have D_checks := ok_checks T D_count D_local D_over A_checks
  have D_places := ok_places T D_count D_kind_of A_data_places
  have D_units := ok_units T D_count D_checks D_places A_units
  have D_filledU := ok_filledU T D_sop A_filled
  have D_check_row := ok_check_row T D_is_rest A_check_row
  have D_cells := ok_cells T D_places A_cells_for
  have D_laid := ok_laid T D_count D_units D_check_row D_cells D_filledU A_laid
  have D_purse := ok_purse (P := P) (w := w) (base := base) T A__law_purse
  have D_drawn := ok_drawn (P := P) (w := w) (base := base) A__law_drawn
  have D_shape := ok_law_shape T D_drawn A__law_shape
  have D_row := ok_row T D_drawn A__law_row
  have D_minus := ok_minus (P := P) (w := w) (base := base) T A_minus
  have D_filling := ok_filling T D_count D_checks D_is_rest D_sop A_is_filling
  have D_needed := ok_needed T D_places A_needed
  have D_unlaid := ok_unlaid T D_places D_needed A_unlaid
  have D_read := ok_read_back T D_count D_laid D_cells D_filling D_needed D_unlaid A__law_read_back
  have D_steps := ok_steps T D_count D_kind_of D_mark D_times D_power A__law_steps
  have D_changes := ok_changes T D_minus A__law_changes
  exact ok_law T D_purse D_drawn D_shape D_row D_read D_needed D_laid D_changes D_steps F_law
end Hx
open PySem PySem.W PySem.Calls PyProof.Rows in
set_option maxRecDepth 100000 in
set_option maxHeartbeats 0 in
theorem PySem.Challenge.cw_sherdhall_k11_whole_one_number_changed_holds : PySem.Challenge.rw_sherdhall_k11_whole_one_number_changed.Holds := by
  w_on; o_law
  refine HandSHeadRun.head_any (r := OpenLaw.row PySem.Challenge.rw_sherdhall_k11_whole_one_number_changed) (q := view (OpenLaw.row PySem.Challenge.rw_sherdhall_k11_whole_one_number_changed).prog [47]) (H := Hx.hk) (ob := Hx.ob) (M := 12000) (loose := Hx.loose) (d := HandSHeadRun.topDef (OpenLaw.row PySem.Challenge.rw_sherdhall_k11_whole_one_number_changed).prog 47) (kwd := []) Hx.ob_eq
    (by kernel_rfl) (fun s => by kernel_rfl) Hx.run (by kernel_rfl) (by kernel_rfl) (by kernel_rfl) (by rfl) (by first | assumption | decide +kernel) (by decide +kernel) ⟨rfl, rfl, rfl, rfl, rfl, by decide +kernel⟩ ?hw ?hc
  case hw => w_witness2
  case hc =>
    refine L2.walk_ofE (l := PySem.Challenge.rw_sherdhall_k11_whole_one_number_changed) (n := 63) (k := 15) (x := "script") (CX := L2.CX0) rfl (by decide) (by kernel_rfl) ⟨rfl, by decide, by decide⟩ ?F (fun _ _ _ _ z => z)
    intro w mg fa h Y G hmg0
    obtain ⟨K, KX, c, cx⟩ := Y
    have hmg : mg ("law" : PySem.Str) = some (.ref fa) := by
      have e : (HandSHeadRun.topDef (OpenLaw.row PySem.Challenge.rw_sherdhall_k11_whole_one_number_changed).prog 47).name = ("law" : PySem.Str) := by kernel_rfl
      rw [← e]
      exact hmg0
    obtain ⟨fd, hb, hF⟩ := Hx.facts (P := (PySem.Challenge.rw_sherdhall_k11_whole_one_number_changed).prog) (w := w) KX G hmg c cx
    exact ⟨K, fd, Hx.spLaw K, KX, hb, fun H a ns hl _ hS => ⟨a, ns, rfl, hS, hl, fun _ => rfl⟩, hF⟩
