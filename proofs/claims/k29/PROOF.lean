import PyProof.Rows.All
import Wide.All
import OpenK.AllK
import Wide.FinOn
import KE.KStateDown
import HandS.Base
import HandS.Call
import HandS.Ends
import HandS.List
import HandS.Comp
import HandS.Iter
import HandS.More
import HandS.Words
import HandS.WordsList
import HandS.WordsExc
import HandS.Defaults
import HandS.Wide
import HandS.IsInst
import HandS.Walk
import HandS.Star
import HandS.Conv
import HandS.Zip
import HandS.TupAny
import KE.KEqSeq
import KE.KEqDeep
import KE.KRevSl
import HandS.Head0
import HandS.Head1
import HandS.Head2
import HandS.HeadEnd
import HandS.HeadHook1
import HandS.HeadHook2
import PySem.Challenge.RW_sherdhall_k29_how_cards_lie_wrong
set_option Elab.async false
set_option linter.all false
set_option maxRecDepth 100000
set_option maxHeartbeats 4000000
namespace Cm
open PySem PySem.Spec PyProof.Rows L2
/-! ### a def, known by its name -/
def Dn (P : Program) (w : World) (K : PySem.W.Frag) (mg : Str → Option Value) (base : Heap) (CX : CXT) (k : Nat) (x : Str) (ps : List Str) (sp : Sp) : Prop :=
  ∃ (f : Addr) (fd : FuncData), FnOk P w K mg base CX k f fd ps sp ∧ mg x = some (.ref f) ∧ PySem.W.keepIn K (.ref f) = true ∧ Binds K fd ps [] ∧ ∃ oc od osl, K.lookup f = some ⟨oc, od, .func fd, osl⟩
/-- where a def without defaults stands -/
def At (K : PySem.W.Frag) (mg : Str → Option Value) (x : Str) (st : Stmt) (ps : List Str) : Prop :=
  ∃ (f : Addr) (fd : FuncData), FunD K x x (defArgs st) (defBody st) (defScope st) [] [] f fd ∧ mg x = some (.ref f) ∧ Binds K fd ps []
theorem _root_.L2.FunD.look {K : PySem.W.Frag} {x qual : Str} {params : Arguments} {body : List Stmt} {scope : Scope} {dvs : List V} {kws : List (Str × V)} {f : Addr} {fd : FuncData} (F : FunD K x qual params body scope dvs kws f fd) : ∃ oc od osl, K.lookup f = some ⟨oc, od, .func fd, osl⟩ := by
  obtain ⟨oc, od, dV, kV, doc, pm, an, cdv, ct, osl, rfl, lk, _⟩ := F.ex
  exact ⟨_, _, _, lk⟩
section
variable {P : Program} {w : World} {K : PySem.W.Frag} {mg : Str → Option Value} {base : Heap}
theorem ok0 {x : Str} {st : Stmt} {N ps : List Str} {k : Nat} {sp : Sp} {f : Addr} {fd : FuncData} (F : FunD K x x (defArgs st) (defBody st) (defScope st) [] [] f fd) (S : FnScope N ps (defScope st)) (len : ∀ vs H Q E, sp vs H Q E → vs.length = ps.length)
    (hbody : ∀ (f : Addr) (cdv : Value) (A : Around) (outer : List Env) (s : Shared) (H : Hp) (vs : List V) (Q : VK) (E : XK), Room k (A.deeper (envOfC x (defScope st) s.heap.objs.size f cdv)) → sp vs H Q E →
      ∃ t, PSs (cxOf CX0 P w K mg base N x (defScope st) f cdv A outer s H E).nox (defBody st) t ∧ t { nx := fun _ H' => Q .non H', rt := Q } (start N vs) H) : FnOk P w K mg base CX0 (k + 1) f fd ps sp := by
  refine F.ok S len fun cdv A outer s H vs Q E hr h => ?_
  obtain ⟨t, h1, h2⟩ := hbody f cdv A outer s H vs Q E hr h
  exact ⟨t, h1.nox, h2⟩
theorem At.ok {x : Str} {st : Stmt} {N ps : List Str} {k : Nat} {sp : Sp} (F : At K mg x st ps) (S : FnScope N ps (defScope st)) (len : ∀ vs H Q E, sp vs H Q E → vs.length = ps.length)
    (hbody : ∀ (f : Addr) (cdv : Value) (A : Around) (outer : List Env) (s : Shared) (H : Hp) (vs : List V) (Q : VK) (E : XK), Room k (A.deeper (envOfC x (defScope st) s.heap.objs.size f cdv)) → sp vs H Q E →
      ∃ t, PSs (cxOf CX0 P w K mg base N x (defScope st) f cdv A outer s H E).nox (defBody st) t ∧ t { nx := fun _ H' => Q .non H', rt := Q } (start N vs) H) : Dn P w K mg base CX0 (k + 1) x ps sp := by
  obtain ⟨f, fd, F, hm, hb⟩ := F
  refine ⟨f, fd, F.ok S len fun cdv A outer s H vs Q E hr h => ?_, hm, F.kp, hb, F.look⟩
  obtain ⟨t, h1, h2⟩ := hbody f cdv A outer s H vs Q E hr h
  exact ⟨t, h1.nox, h2⟩
end
section
variable {X : Cx} {k : Nat} {x : Str} {ps : List Str} {sp : Sp} {p pos : Pos} {e : Expr} {es : List Expr} {t : TA}
theorem pe_callD (D : Dn X.prog X.w X.K X.mg X.base CX0 k x ps sp) (hr : Room k X.A) (ha : PA X (e :: es) t) (hg : Gl X x := by rfl) (hdb : (x == ("__debug__" : Str)) = false := by decide)
    (he : starEach (e :: es) X.env = (false, eval e X.env) :: starEach es X.env := by rfl) (hpl : (backTo pos (starEach es X.env)).any (·.1) = false := by rfl) :
    PE X (.Call (.Name x p) (e :: es) [] pos) (tCall sp [] E0 t) := by
  obtain ⟨f, fd, F, hm, hk, hb, _⟩ := D
  exact pe_call F hr hg hm hk hb .nil pass0 ha hdb he hpl
end
/-! ### powers of ints of any size -/
def CPowW (i j : Int) : Prop := 0 ≤ j ∧ (Builtin.Int.intBits i : Int) * j ≤ 2 ^ 27
theorem CPowW.mk {i : Int} {n a : Nat} (ha : i.natAbs < 2 ^ a) (h0 : 0 < a) (h : a * n ≤ 100000000) : CPowW i n := by
  refine ⟨Int.natCast_nonneg _, ?_⟩
  have b : Builtin.Int.intBits i ≤ i.natAbs.log2 + 1 := by
    unfold Builtin.Int.intBits
    split <;> omega
  have x := PySem.Flt.log2_lt_of h0 ha
  have c : Builtin.Int.intBits i ≤ a := by omega
  have d : Builtin.Int.intBits i * n ≤ a * n := Nat.mul_le_mul_right _ c
  have e : ((Builtin.Int.intBits i * n : Nat) : Int) ≤ ((100000000 : Nat) : Int) := Int.ofNat_le.mpr (Nat.le_trans d h)
  rw [Int.natCast_mul] at e
  have e2 : ((100000000 : Nat) : Int) ≤ 2 ^ 27 := by decide
  exact Int.le_trans e e2
theorem op_powW {X : Cx} : OpR X (binaryOp .Pow) (rI CPowW fun i j => .int (i ^ j.toNat)) := opI fun _ _ _ _ _ _ _ hc q => pow_int hc.1 hc.2 q
/-! ### tests -/
theorem iteD {c A B : Prop} [Decidable c] (h1 : c → A) (h2 : ¬ c → B) : if decide c = true then A else B := by
  by_cases h : c
  · rw [decide_eq_true h]; exact iteT (h1 h)
  · rw [decide_eq_false h]; exact iteF (h2 h)
theorem iteDn {c A B : Prop} [Decidable c] (h1 : ¬ c → A) (h2 : c → B) : if (!decide c) = true then A else B := by
  by_cases h : c
  · rw [decide_eq_true h]; exact iteF (h2 h)
  · rw [decide_eq_false h]; exact iteT (h1 h)
theorem iteI {x y : Int} {A B : Prop} (h1 : x = y → A) (h2 : ¬ x = y → B) : if decide (V.int x = V.int y) = true then A else B :=
  iteD (fun h => h1 (V.int.inj h)) (fun h => h2 fun e => h (congrArg V.int e))
theorem iteIn {x y : Int} {A B : Prop} (h1 : ¬ x = y → A) (h2 : x = y → B) : if (!decide (V.int x = V.int y)) = true then A else B :=
  iteDn (fun h => h1 fun e => h (congrArg V.int e)) (fun h => h2 (V.int.inj h))
theorem iteB {b : Bool} {A B : Prop} (h1 : b = true → A) (h2 : b = false → B) : if b = true then A else B := by
  cases b with
  | true => exact iteT (h1 rfl)
  | false => exact iteF (h2 rfl)
theorem iteBn {b : Bool} {A B : Prop} (h1 : b = false → A) (h2 : b = true → B) : if (!b) = true then A else B := by
  cases b with
  | true => exact iteF (h2 rfl)
  | false => exact iteT (h1 rfl)
/-! ### heaps -/
/-- all that was tracked, but p, is as it was -/
def Kp (p : Addr) (H H' : Hp) : Prop := ∀ b o, H b = some o → b ≠ p → H' b = some o
theorem Kp.refl (p : Addr) (H : Hp) : Kp p H H := fun _ _ h _ => h
theorem Kp.trans {p : Addr} {H H1 H2 : Hp} (a : Kp p H H1) (b : Kp p H1 H2) : Kp p H H2 := fun c o h n => b c o (a c o h n) n
theorem Kp.of {p : Addr} {H H1 : Hp} (a : Same H H1) : Kp p H H1 := fun c o h _ => a c o h
theorem Kp.new {p a : Addr} {H : Hp} {o : HO} (n : H a = none) : Kp p H (upd H a o) := fun c u h _ => by rw [upd_ne (ne_of_none h n)]; exact h
theorem Kp.put {p : Addr} {H : Hp} {o : HO} : Kp p H (upd H p o) := fun c u h n => by rw [upd_ne n]; exact h
theorem Same.new {a : Addr} {H : Hp} {o : HO} (n : H a = none) : Same H (upd H a o) := fun c u h => by rw [upd_ne (ne_of_none h n)]; exact h
theorem old {H : Hp} {a p : Addr} {o u : HO} (h : H a = some u) (n : H p = none) : upd H p o a = some u := by rw [upd_ne (ne_of_none h n)]; exact h
/-- p was free ahead: what is kept but p is kept -/
theorem Kp.same {p : Addr} {H0 H H' : Hp} (s : Same H0 H) (n : H0 p = none) (k : Kp p H H') : Same H0 H' := fun b o h => k b o (s b o h) (ne_of_none h n)
end Cm
namespace Cm
open PySem PySem.Spec PyProof.Rows L2
theorem at_ints {ns : List Int} {k : Int} (h0 : 0 ≤ k) (h : k < ns.length) : ∃ z, z ∈ ns ∧ ns[k.toNat]? = some z ∧ atI (ns.map V.int) k = some (.int z) := by
  have hk : k.toNat < ns.length := by omega
  refine ⟨ns[k.toNat], List.getElem_mem _, List.getElem?_eq_getElem hk, ?_⟩
  obtain ⟨j, rfl⟩ : ∃ j : Nat, k = (j : Int) := ⟨k.toNat, by omega⟩
  refine atI_nat ?_
  rw [List.getElem?_map, List.getElem?_eq_getElem (by omega)]
  rfl
theorem p10_18 : (10 : Int) ^ (18 : Int).toNat = 1000000000000000000 := by decide
end Cm
namespace Cm
open PySem PySem.Spec PyProof.Rows L2
/-! ### comprehensions that leave what stood -/
section
variable {J : It} {n : Nat} {G : Hp → Prop} {Y : Nat → Hp → V → Hp → Prop}
theorem lc_map (w : Walk J n G Y) {g : TG} {tt : TT} {te : TE} {vs : List Nat} {σ : L2.St} {H1 : Hp} {D : Addr} {Qd : Hp → Prop} (f : Nat → V) (hD : H1 D = none) (hn : n ≤ sizeLine) (hG : ∀ H, Same H1 H → G H)
    (hs : ∀ i x H H' (R : V → Hp → Prop) (R' : Hp → Prop), i < n → Same H1 H → Y i H x H' → (∀ H4, Same H H4 → R (f i) H4) → g x (wipe σ vs) H' fun σ2 H2 => wipe σ2 vs = wipe σ vs ∧ tt σ2 H2 fun b H3 => if b = true then te σ2 H3 R else R' H3)
    (hd : ∀ H, Same H1 H → H D = some (.lst ((List.range n).map f)) → Qd H) :
    ∃ W : Nat → Nat → Hp → Prop, (∃ m, W 0 m (upd H1 D (.lst []))) ∧ ∀ i m H, W i m H →
      (J.stop i H ∧ Qd H) ∨ (J.go i H ∧ ∃ Nx : Hp → Prop, (∀ H', Nx H' → ∃ m', m' < m ∧ W (i + 1) m' H') ∧ ∀ x H', J.yld i H x H' → g x (wipe σ vs) H' fun σ2 H2 => wipe σ2 vs = wipe σ vs ∧ tt σ2 H2 fun b H3 =>
        if b = true then te σ2 H3 fun y H4 => ∃ acc, H4 D = some (.lst acc) ∧ acc.length < sizeLine ∧ Nx (upd H4 D (.lst (acc ++ [y]))) else Nx H3) := by
  refine lc_it w (fun i H => Same H1 H ∧ H D = some (.lst ((List.range i).map f))) ⟨Same.new hD, upd_same⟩ (fun i H _ p => hG H p.1) ?_ (fun H p => hd H p.1 p.2)
  intro i x H H' hi p y
  refine hs i x H H' _ _ hi p.1 y fun H4 s4 => ?_
  refine ⟨_, s4 _ _ p.2, by rw [List.length_map, List.length_range]; omega, fun b o e => ?_, ?_⟩
  · rw [upd_ne (ne_of_none e hD)]
    exact s4 _ _ (p.1 _ _ e)
  · rw [upd_same, List.range_succ, List.map_append]
    rfl
theorem lc_ints (w : Walk J n G Y) {g : TG} {tt : TT} {te : TE} {vs : List Nat} {σ : L2.St} {H1 : Hp} {D : Addr} {Qd : Hp → Prop} (f : Nat → Int) (hD : H1 D = none) (hn : n ≤ sizeLine) (hG : ∀ H, Same H1 H → G H)
    (hs : ∀ i x H H' (R : V → Hp → Prop) (R' : Hp → Prop), i < n → Same H1 H → Y i H x H' → (∀ H4, Same H H4 → R (.int (f i)) H4) → g x (wipe σ vs) H' fun σ2 H2 => wipe σ2 vs = wipe σ vs ∧ tt σ2 H2 fun b H3 => if b = true then te σ2 H3 R else R' H3)
    (hd : ∀ H, Same H1 H → H D = some (.lst (((List.range n).map f).map V.int)) → Qd H) :
    ∃ W : Nat → Nat → Hp → Prop, (∃ m, W 0 m (upd H1 D (.lst []))) ∧ ∀ i m H, W i m H →
      (J.stop i H ∧ Qd H) ∨ (J.go i H ∧ ∃ Nx : Hp → Prop, (∀ H', Nx H' → ∃ m', m' < m ∧ W (i + 1) m' H') ∧ ∀ x H', J.yld i H x H' → g x (wipe σ vs) H' fun σ2 H2 => wipe σ2 vs = wipe σ vs ∧ tt σ2 H2 fun b H3 =>
        if b = true then te σ2 H3 fun y H4 => ∃ acc, H4 D = some (.lst acc) ∧ acc.length < sizeLine ∧ Nx (upd H4 D (.lst (acc ++ [y]))) else Nx H3) :=
  lc_map w (fun i => .int (f i)) hD hn hG hs fun H s e => hd H s (by rw [e, List.map_map]; rfl)
theorem lc_bools (w : Walk J n G Y) {g : TG} {tt : TT} {te : TE} {vs : List Nat} {σ : L2.St} {H1 : Hp} {D : Addr} {Qd : Hp → Prop} (f : Nat → Bool) (hD : H1 D = none) (hn : n ≤ sizeLine) (hG : ∀ H, Same H1 H → G H)
    (hs : ∀ i x H H' (R : V → Hp → Prop) (R' : Hp → Prop), i < n → Same H1 H → Y i H x H' → (∀ H4, Same H H4 → R (.bl (f i)) H4) → g x (wipe σ vs) H' fun σ2 H2 => wipe σ2 vs = wipe σ vs ∧ tt σ2 H2 fun b H3 => if b = true then te σ2 H3 R else R' H3)
    (hd : ∀ H, Same H1 H → H D = some (.lst (((List.range n).map f).map V.bl)) → Qd H) :
    ∃ W : Nat → Nat → Hp → Prop, (∃ m, W 0 m (upd H1 D (.lst []))) ∧ ∀ i m H, W i m H →
      (J.stop i H ∧ Qd H) ∨ (J.go i H ∧ ∃ Nx : Hp → Prop, (∀ H', Nx H' → ∃ m', m' < m ∧ W (i + 1) m' H') ∧ ∀ x H', J.yld i H x H' → g x (wipe σ vs) H' fun σ2 H2 => wipe σ2 vs = wipe σ vs ∧ tt σ2 H2 fun b H3 =>
        if b = true then te σ2 H3 fun y H4 => ∃ acc, H4 D = some (.lst acc) ∧ acc.length < sizeLine ∧ Nx (upd H4 D (.lst (acc ++ [y]))) else Nx H3) :=
  lc_map w (fun i => .bl (f i)) hD hn hG hs fun H s e => hd H s (by rw [e, List.map_map]; rfl)
end
/-! ### plain values and their built-in types -/
inductive Ty (K : PySem.W.Frag) (H : Hp) : V → String → Prop where
  | non : Ty K H .non "NoneType"
  | bl (x : Bool) : Ty K H (.bl x) "bool"
  | int (i : Int) : Ty K H (.int i) "int"
  | str (x : Str) : Ty K H (.str x) "str"
  | lst {a : Addr} {xs : List V} (e : SqL K H a xs) : Ty K H (.ref a) "list"
  | tup {a : Addr} {xs : List V} (e : SqT K H a xs) : Ty K H (.ref a) "tuple"
  | dK {a : Addr} {kvs : List (Key × V)} (e : H a = some (.dK kvs)) : Ty K H (.ref a) "dict"
theorem Ty.x {K : PySem.W.Frag} {H : Hp} {v : V} {n : String} (h : Ty K H v n) : TyX K H v (.type n) := by
  cases h with
  | non => exact .base .non
  | bl x => exact .base (.bl x)
  | int i => exact .base (.int i)
  | str x => exact .base (.str x)
  | lst e =>
    rcases e with (e | ⟨o, e⟩) | ⟨o, its, n, hk, hc, _⟩
    · exact .base (.lst e)
    · exact .base (.frz e)
    · exact .kList hk hc
  | tup e =>
    rcases e with (e | ⟨o, e⟩) | ⟨o, its, n, hk, hc, _⟩
    · exact .base (.tup e)
    · exact .fTuple e
    · exact .kTuple hk hc
  | dK e => exact .base (.dK e)
theorem Same.sqt {K : PySem.W.Frag} {H H' : Hp} {a : Addr} {xs : List V} (e : Same H H') (h : SqT K H a xs) : SqT K H' a xs := by
  rcases h with (h | ⟨o, h⟩) | h
  · exact .inl (.inl (e _ _ h))
  · exact .inl (.inr ⟨o, e _ _ h⟩)
  · exact .inr h
theorem Ty.same {K : PySem.W.Frag} {H H' : Hp} {v : V} {n : String} (s : Same H H') (h : Ty K H v n) : Ty K H' v n := by
  cases h with
  | non => exact .non
  | bl x => exact .bl x
  | int i => exact .int i
  | str x => exact .str x
  | lst e => exact .lst (s.seq e)
  | tup e => exact .tup (Same.sqt s e)
  | dK e => exact .dK (s _ _ e)
theorem Ty.names {K : PySem.W.Frag} {H : Hp} {v : V} {n : String} (h : Ty K H v n) : n ∈ ["NoneType", "bool", "int", "str", "list", "tuple", "dict"] := by
  cases h <;> decide
theorem kit_names {c : String} (hc : c ∈ ["bool", "int", "str", "list", "tuple", "dict"]) {n : String} (h : n ∈ ["NoneType", "bool", "int", "str", "list", "tuple", "dict"]) : kitB n c = some (n == c || (n == "bool" && c == "int")) := by
  have key : ∀ c ∈ ["bool", "int", "str", "list", "tuple", "dict"], ∀ n ∈ ["NoneType", "bool", "int", "str", "list", "tuple", "dict"], kitB n c = some (n == c || (n == "bool" && c == "int")) := by decide +kernel
  exact key c hc n h
theorem Ty.kit {K : PySem.W.Frag} {H : Hp} {v : V} {n : String} (h : Ty K H v n) (c : String) (hc : c ∈ ["bool", "int", "str", "list", "tuple", "dict"] := by decide) : PySem.W.kitOne K (.type n) (.type c) = some (n == c || (n == "bool" && c == "int")) := kit_ty (kit_names hc h.names)
end Cm
namespace Cm
open L2
theorem small1000' {n : Nat} (h : n ≤ 1000000) : n ≤ PySem.sizeLine := Nat.le_trans h (by decide)
end Cm
namespace Cm
open L2
theorem map_get {α : Type} [Inhabited α] {c : α → V} {xs : List α} {i : Nat} {x : V} (h : i < xs.length) (e : (xs.map c)[i]? = some x) : x = c (xs.getD i default) := by
  rw [List.getElem?_map, List.getElem?_eq_getElem h] at e
  simp [List.getD, h]
  exact (Option.some.inj e).symm
theorem getD_in {α : Type} [Inhabited α] {xs : List α} {i : Nat} (h : i < xs.length) : xs.getD i default ∈ xs := by
  simp [List.getD, h]
end Cm
namespace Cm
open PySem PySem.Spec PyProof.Rows L2
/-! ### == of lists and tuples of ints -/
theorem dp_ints {K : PySem.W.Frag} {H : Hp} : ∀ xs : List Int, DpAll K H (xs.map V.int) (xs.map PyData.int)
  | [] => .nil
  | x :: xs => .cons (.int x) (dp_ints xs)
theorem dpL {K : PySem.W.Frag} {H : Hp} {a : Addr} {xs : List Int} (h : SqL K H a (xs.map V.int)) : Dp K H (.ref a) (.list (xs.map PyData.int)) := .lst h (dp_ints xs)
theorem dpT {K : PySem.W.Frag} {H : Hp} {a : Addr} {xs : List Int} (h : SqT K H a (xs.map V.int)) : Dp K H (.ref a) (.tuple (xs.map PyData.int)) := .tup h (dp_ints xs)
theorem shL (ns : List Int) : SeqAt.shaped (.list (ns.map PyData.int)) = true := PySem.W.ke_shaped_ints ns
theorem shT (ns : List Int) : SeqAt.shaped (.tuple (ns.map PyData.int)) = true := by
  have h := shL ns
  unfold SeqAt.shaped at h ⊢
  simp only [PyData.canLay0, PyData.depth] at h ⊢
  exact h
theorem eqvL (xs ys : List Int) : PyData.eqv (.list (xs.map PyData.int)) (.list (ys.map PyData.int)) = decide (xs = ys) := by rw [PyData.eqv, PySem.W.ked_eqvAll]
theorem eqvT (xs ys : List Int) : PyData.eqv (.tuple (xs.map PyData.int)) (.tuple (ys.map PyData.int)) = decide (xs = ys) := by rw [PyData.eqv, PySem.W.ked_eqvAll]
end Cm
namespace Cm
theorem range_map {α β : Type} [Inhabited α] (g : α → β) (xs : List α) : (List.range xs.length).map (fun i => g (xs.getD i default)) = xs.map g := by
  apply List.ext_getElem?
  intro i
  by_cases h : i < xs.length
  · simp [List.getD, h]
  · have h2 : xs.length ≤ i := by omega
    rw [List.getElem?_eq_none (by simpa using h2), List.getElem?_eq_none (by simpa using h2)]
end Cm
namespace Cm
open PySem PySem.Spec PyProof.Rows L2
/-- zip of two tuples, as a walk -/
theorem walk_zipT {K : PySem.W.Frag} {a b : Addr} {xs ys : List V} {n : Nat} (hn : n = min xs.length ys.length) : Walk (RZ.ItzT K a b) n (fun H => SqT K H a xs ∧ SqT K H b ys) (YPair (fun i => xs[i]?) (fun i => ys[i]?)) := by
  subst hn
  refine ⟨fun i _ hi q => ?_, fun _ q => ⟨xs, ys, q.1, q.2, by omega⟩, fun i H v H' _ q y => ?_⟩
  · have h1 : i < xs.length := by omega
    have h2 : i < ys.length := by omega
    exact ⟨xs, ys, xs[i], ys[i], q.1, q.2, by simp [h1], by simp [h2]⟩
  · obtain ⟨T, x, z, h1, h2, h3, h4, h5⟩ := y
    exact ⟨T, x, z, h1, h2, h3, h4 xs q.1, h5 ys q.2⟩
/-- a def that is never called so -/
theorem At.none {P : Program} {w : World} {K : PySem.W.Frag} {mg : Str → Option Value} {base : Heap} {x : Str} {st : Stmt} {ps : List Str} (F : At K mg x st ps) (k : Nat) : Dn P w K mg base CX0 k x ps (fun _ _ _ _ => False) := by
  obtain ⟨f, fd, F, hm, hb⟩ := F
  exact ⟨f, fd, ⟨fun _ _ _ _ h => h.elim, fun _ _ _ _ _ _ _ _ _ _ _ _ _ h => h.elim⟩, hm, F.kp, hb, F.look⟩
end Cm
namespace Cm
open PySem PySem.Spec PyProof.Rows L2
theorem Dn.mono {P : Program} {w : World} {K : PySem.W.Frag} {mg : Str → Option Value} {base : Heap} {j k : Nat} {x : Str} {ps : List Str} {sp : Sp} (D : Dn P w K mg base CX0 j x ps sp) (h : j ≤ k) : Dn P w K mg base CX0 k x ps sp := by
  obtain ⟨f, fd, F, r⟩ := D
  exact ⟨f, fd, F.mono h, r⟩
theorem Dn.imp {P : Program} {w : World} {K : PySem.W.Frag} {mg : Str → Option Value} {base : Heap} {k : Nat} {x : Str} {ps : List Str} {sp sp' : Sp} (D : Dn P w K mg base CX0 k x ps sp) (h : ∀ vs H Q E, sp' vs H Q E → sp vs H Q E) : Dn P w K mg base CX0 k x ps sp' := by
  obtain ⟨f, fd, F, r⟩ := D
  exact ⟨f, fd, F.imp h, r⟩
/-- two promises of one def -/
theorem Dn.or {P : Program} {w : World} {K : PySem.W.Frag} {mg : Str → Option Value} {base : Heap} {k : Nat} {x : Str} {ps : List Str} {sp1 sp2 : Sp} (D : Dn P w K mg base CX0 k x ps sp1) (D' : Dn P w K mg base CX0 k x ps sp2) :
    Dn P w K mg base CX0 k x ps (fun vs H Q E => sp1 vs H Q E ∨ sp2 vs H Q E) := by
  obtain ⟨f, fd, F, hm, hk, hb, oc, od, osl, lk⟩ := D
  obtain ⟨f', fd', F', hm', _, _, oc', od', osl', lk'⟩ := D'
  rw [hm] at hm'
  cases hm'
  rw [lk] at lk'
  cases lk'
  refine ⟨f, fd, ⟨fun vs H Q E h => ?_, fun A outer s H args us vs Q E hr e b v h => ?_⟩, hm, hk, hb, oc, od, osl, lk⟩
  · rcases h with h | h
    · exact F.len _ _ _ _ h
    · exact F'.len _ _ _ _ h
  · rcases h with h | h
    · exact F.run A outer s H args us vs Q E hr e b v h
    · exact F'.run A outer s H args us vs Q E hr e b v h
end Cm
namespace Cm
open PySem PySem.Spec PyProof.Rows L2
section
variable {J : It} {n : Nat} {G : Hp → Prop} {Y : Nat → Hp → V → Hp → Prop}
/-- .. with a test: the values f i for which p holds -/
theorem lc_filt {α : Type} (c : α → V) (w : Walk J n G Y) {g : TG} {tt : TT} {te : TE} {vs : List Nat} {σ : L2.St} {H1 : Hp} {D : Addr} {Qd : Hp → Prop} (f : Nat → α) (p : α → Bool) (hD : H1 D = none) (hn : n ≤ sizeLine) (hG : ∀ H, Same H1 H → G H)
    (hs : ∀ i x H H' (R : V → Hp → Prop) (R' : Hp → Prop), i < n → Same H1 H → Y i H x H' → (∀ H4, Same H H4 → p (f i) = true → R (c (f i)) H4) → (∀ H4, Same H H4 → p (f i) = false → R' H4) → g x (wipe σ vs) H' fun σ2 H2 => wipe σ2 vs = wipe σ vs ∧ tt σ2 H2 fun b H3 => if b = true then te σ2 H3 R else R' H3)
    (hd : ∀ H, Same H1 H → H D = some (.lst ((((List.range n).map f).filter p).map c)) → Qd H) :
    ∃ W : Nat → Nat → Hp → Prop, (∃ m, W 0 m (upd H1 D (.lst []))) ∧ ∀ i m H, W i m H →
      (J.stop i H ∧ Qd H) ∨ (J.go i H ∧ ∃ Nx : Hp → Prop, (∀ H', Nx H' → ∃ m', m' < m ∧ W (i + 1) m' H') ∧ ∀ x H', J.yld i H x H' → g x (wipe σ vs) H' fun σ2 H2 => wipe σ2 vs = wipe σ vs ∧ tt σ2 H2 fun b H3 =>
        if b = true then te σ2 H3 fun y H4 => ∃ acc, H4 D = some (.lst acc) ∧ acc.length < sizeLine ∧ Nx (upd H4 D (.lst (acc ++ [y]))) else Nx H3) := by
  refine lc_it w (fun i H => Same H1 H ∧ H D = some (.lst ((((List.range i).map f).filter p).map c))) ⟨Same.new hD, upd_same⟩ (fun i H _ p => hG H p.1) ?_ (fun H p => hd H p.1 p.2)
  intro i x H H' hi ps y
  have e : ((((List.range (i + 1)).map f).filter p).map c) = ((((List.range i).map f).filter p).map c) ++ (if p (f i) = true then [c (f i)] else []) := by
    rw [List.range_succ, List.map_append, List.filter_append, List.map_append]
    congr 1
    by_cases h : p (f i) = true
    · simp [h]
    · simp [h]
  refine hs i x H H' _ _ hi ps.1 y (fun H4 s4 pt => ?_) fun H4 s4 pf => ?_
  · refine ⟨_, s4 _ _ ps.2, ?_, fun b o e => ?_, ?_⟩
    · have := List.length_filter_le p ((List.range i).map f)
      rw [List.length_map] at this ⊢
      rw [List.length_range] at this
      omega
    · rw [upd_ne (ne_of_none e hD)]
      exact s4 _ _ (ps.1 _ _ e)
    · rw [upd_same, e, if_pos pt]
  · refine ⟨fun b o e => s4 _ _ (ps.1 _ _ e), ?_⟩
    rw [e, if_neg (by rw [pf]; decide), List.append_nil]
    exact s4 _ _ ps.2
end
end Cm
namespace Cm
open PySem PySem.Spec PyProof.Rows L2
/-! ### sum of a tuple of ints -/
section
variable {prog : Program} {w : World} {A : Around} {E : Value → Shared → Prop} {s : Shared} {l : Addr} {xs : Array (Int × Tok)}
theorem sum_tupG {Q : Value → Shared → Prop} (hh : A.handled = none) (hl : s.heap.IsTuple l (intItems xs))
    (h : ∀ h' tk t', (∀ b o, s.heap.get? b = some o → h'.get? b = some o) → Q (.int (preSum (numAt xs) xs.size) t') { s with heap := h', toks := tk }) :
    wpAny (model prog w) A (call (.builtin "sum") [.ref l]) Q E s := by
  have hlt : l < s.heap.objs.size := by obtain ⟨_, e, _⟩ := hl; exact Heap.lt_size e
  refine call_sum_walkG (wpAny_pyIter_tuple hl ?_)
  refine ⟨_, _, _, _, _, _, numAt xs, rfl, Walks.tuple (A := A.in1) hh _ l (Nat.ne_of_lt hlt) (intItems xs), ⟨⟨_, Heap.get?_push_size _ rfl, rfl, rfl⟩, hl.push _⟩, (fun b hb => ?_), (fun _ _ => intItems_at), fun h' tk t' hk => ?_⟩
  · show b < (s.heap.push _).objs.size
    rw [Heap.size_push]
    rcases List.mem_cons.mp hb with rfl | hb
    · exact Nat.lt_succ_self _
    · rcases List.mem_cons.mp hb with rfl | hb
      · exact Nat.lt_succ_of_lt hlt
      · cases hb
  · have := h h' tk t' fun b o e => by
      refine hk b o (fun hm => ?_) (Heap.get?_push_of_some _ e)
      rcases List.mem_cons.mp hm with e1 | hm
      · exact absurd (e1 ▸ Heap.lt_size e) (Nat.lt_irrefl _)
      · cases hm
    simpa [intItems] using this
end
def rSumT (K : PySem.W.Frag) : List V → Hp → VK → Prop := fun vs H Q => ∃ (a : Addr) (ns : List Int), vs = [V.ref a] ∧ SqT K H a (ns.map V.int) ∧ Q (.int ns.sum) H
theorem cr_sumT {X : Cx} (hc : X.calm = true) : CallR X (.builtin "sum") (rSumT X.K) := by
  intro pins s σ H vs us Q I r h
  obtain ⟨a, ns, rfl, hs, q⟩ := h
  obtain ⟨its, rv, hl, _⟩ := I.tuple hs
  rw [Vals.ref1 r]
  have hi := rv.ints
  obtain ⟨xs, e⟩ := hi.allInts.items
  have hn : numsOf (intItems xs).toList = ns := by rw [← e]; exact hi.numsOf
  rw [nums_intItems] at hn
  rw [e] at hl
  refine sum_tupG (I.ok.hd hc) hl fun h' tk t' hk => ?_
  rw [preSum_eq, List.take_of_length_le (by simp), hn]
  exact ⟨.int _, H, I.kept hk, ⟨_, rfl⟩, q⟩
end Cm
namespace Cm
open PySem PySem.Spec PyProof.Rows L2
section
variable {X : Cx} {o e : Expr} {es : List Expr} {to : TE} {t : TA} {name : Str} {apos cpos : Pos} {T id : String} {r : V → List V → Hp → VK → Prop}
theorem pe_bmK (K : PySem.W.Frag) (pa : PlainAttrs T) (slot : Slot T name id) (hty : typeOf (.builtin id) = pure (.type "method_descriptor")) (hm : MtR X id r) (ho : PE X o to) (ha : PA X (e :: es) t)
    (hK : X.K = K := by rfl) (hbase : attributeBase o name X.env (eval o X.env) = eval o X.env := by rfl)
    (hfew : ((backTo cpos (starEach (e :: es) X.env)).all (fun x => !x.1) && (backToKw cpos (keywordEach [] X.env)).all (fun x => x.1.isSome)
      && decide ((e :: es).length + ([] : List Keyword).length + (if ([] : List Keyword).isEmpty then 0 else 1) < 30)) = true := by rfl)
    (hline : (apos.endLine == cpos.line) = true := by rfl) (hs : starEach (e :: es) X.env = (false, eval e X.env) :: starEach es X.env := by rfl) (hplain : (backTo cpos (starEach es X.env)).any (·.1) = false := by rfl) :
    PE X (.Call (.Attribute o name apos) (e :: es) [] cpos) (tBM K T r to t) := by
  subst hK
  exact pe_bm pa slot hty hm ho ha hbase hfew hline hs hplain
end
end Cm
namespace Cm
open PySem PySem.Spec PyProof.Rows L2 HT
/-! ### t[::-1] of a tuple -/
section
variable {prog : Program} {w : World} {A : Around} {E : Value → Shared → Prop} {s : Shared}
theorem rev_adjust (n : Nat) : Builtin.Slice.sliceAdjust none none (-1) (n : Int) = ((n : Int) - 1, -1) := by
  unfold Builtin.Slice.sliceAdjust
  simp
theorem rev_places (n : Nat) : Builtin.Slice.slicePlaces ((n : Int) - 1) (-1) (-1) = n := by
  unfold Builtin.Slice.slicePlaces
  simp
  omega
theorem fm_congr {α β : Type} {f g : α → Option β} : ∀ {l : List α}, (∀ x ∈ l, f x = g x) → l.filterMap f = l.filterMap g
  | [], _ => rfl
  | x :: l, h => by
    rw [List.filterMap_cons, List.filterMap_cons, h x (List.mem_cons_self ..), fm_congr (l := l) fun y hy => h y (List.mem_cons_of_mem _ hy)]
theorem rev_pick (xs : Array Value) : ((List.range xs.size).filterMap fun (m : Nat) => xs[(((xs.size : Nat) : Int) - 1 + (m : Int) * (-1)).toNat]?).toArray = xs.toList.reverse.toArray := by
  have e : (List.range xs.size).filterMap (fun (m : Nat) => xs[(((xs.size : Nat) : Int) - 1 + (m : Int) * (-1)).toNat]?) = ((List.range xs.size).map fun k => xs.size - 1 - k).filterMap (xs[·]?) := by
    rw [List.filterMap_map]
    apply fm_congr
    intro m hm
    have := List.mem_range.mp hm
    show xs[_]? = xs[xs.size - 1 - m]?
    congr 1
    omega
  rw [e, PySem.W.krv_range, List.filterMap_reverse, PySem.W.krv_all]
theorem sliceApplied_rev {sl : Addr} {t : Tok} {n : Nat} {Q : Int × Int × Nat → Shared → Prop} (hs : s.heap.IsSliceOf sl .none .none (.int (-1) t))
    (h : Q ((n : Int) - 1, -1, n) s) : wpAny (model prog w) A (Builtin.Slice.sliceApplied (.ref sl) (pure (n : Int))) Q E s := by
  obtain ⟨os, hos, hcs, hds⟩ := id hs
  unfold Builtin.Slice.sliceApplied Builtin.Slice.sliceFields
  refine wpAny_bind (wpAny_bind (wpAny_field hos hds (x := .none) rfl (wpAny_bind (wpAny_field hos hds (x := .none) rfl (wpAny_bind (wpAny_field hos hds (x := .int (-1) t) rfl (wpAny_pure ?_)))))))
  refine wpAny_bind (slicePart_int ?_)
  show wpAny _ _ (if ((-1 : Int) == 0) = true then _ else _) _ _ s
  rw [if_neg (by decide)]
  refine wpAny_bind (slicePart_none (wpAny_bind (slicePart_none (wpAny_bind (wpAny_pure ?_)))))
  show wpAny _ _ (match Builtin.Slice.sliceAdjust none none (-1) (n : Int) with | (lo, hi) => pure (lo, (-1 : Int), Builtin.Slice.slicePlaces lo hi (-1))) _ _ s
  rw [rev_adjust n]
  show wpAny _ _ (pure ((n : Int) - 1, (-1 : Int), Builtin.Slice.slicePlaces ((n : Int) - 1) (-1) (-1))) _ _ s
  rw [rev_places]
  exact wpAny_pure h
theorem getItem_tuple_rev {t sl : Addr} {items : Array Value} {u : Tok} {Q : Value → Shared → Prop} (ht : IsTup s.heap t items) (hs : s.heap.IsSliceOf sl .none .none (.int (-1) u))
    (h : Q (.ref s.heap.objs.size) { s with heap := s.heap.push { cls := .type "tuple", data := .seq items.toList.reverse.toArray } })
    (hsz : items.size ≤ sizeLine) : wpAny (model prog w) A (getItem (.ref t) (.ref sl)) Q E s := by
  have htake : sizeOk (.seq items.toList.reverse.toArray) := by
    show items.toList.reverse.toArray.size ≤ sizeLine
    rw [List.size_toArray, List.length_reverse, Array.length_toList]
    exact hsz
  obtain ⟨os, hos, hcs, hds⟩ := id hs
  have hTs : s.TypeIs (.ref sl) "slice" := ⟨os, hos, hcs⟩
  unfold getItem
  try with_reducible refine wpAny_holding ?_
  first | refine wpAny_bind (wpAny_pure ?_) | skip
  refine wpAny_bind (wpAny_sequenceKey ht.typeIs (by decide) ?_)
  refine wpAny_bind (wpAny_callSpecial?_slot (name := Str.ofString "__getitem__") ht.typeIs PyProof.Rows.slot_tuple_getitem
    (wpAny_call_entry PyProof.Rows.slot_tuple_getitem ht.typeIs entry_tuple_getitem ?_ (args_tuple_getitem _ _)))
  show wpAny _ _ (Builtin.Tuple.tupleItemsOf (.ref t) >>= _) _ _ s
  refine wpAny_bind (tupleItemsOf_ ht ?_)
  refine wpAny_bind (wpAny_typeOf hTs ?_)
  rw [if_pos (by decide)]
  refine wpAny_bind (sliceApplied_rev hs ?_)
  have hno : ¬ ((((items.size : Nat) : Int) - 1 == 0 && (-1 : Int) == 1 && items.size == items.size) = true) := by
    intro q
    rw [Bool.and_eq_true, Bool.and_eq_true] at q
    exact absurd q.1.2 (by decide)
  show wpAny _ _ (if (((items.size : Nat) : Int) - 1 == 0 && (-1 : Int) == 1 && items.size == items.size) = true then _ else _) _ _ s
  rw [if_neg hno, rev_pick]
  first
    | exact wpAny_bind (m := Builtin.Tuple.tupleExact _) (wpAny_newObj_type (wpAny_pure ⟨_, rfl, wpAny_pure h⟩) htake)
    | exact wpAny_bind (m := Builtin.Tuple.tupleExact _) (wpAny_newObj_type (wpAny_bind (wpAny_pure (wpAny_pure ⟨_, rfl, wpAny_pure h⟩))) htake)
    | exact wpAny_bind (wpAny_bind (m := Builtin.Tuple.tupleExact _) (wpAny_newObj_type (wpAny_pure (wpAny_pure ⟨_, rfl, wpAny_pure h⟩)) htake))
    | exact wpAny_bind (wpAny_bind (m := Builtin.Tuple.tupleExact _) (wpAny_newObj_type (wpAny_pure ⟨_, rfl, wpAny_pure h⟩) htake))
end
def tRevT (K : PySem.W.Frag) (te : TE) : TE := fun σ H Q => te σ H fun x H1 => ∃ a xs, x = .ref a ∧ SqT K H1 a xs ∧ ∀ p, H1 p = none → Q (.ref p) (upd H1 p (.tup xs.reverse))
theorem pe_revT {X : Cx} {e : Expr} {te : TE} {p1 p2 p3 pos : Pos} (he : PE X e te) : PE X (.Subscript e (.Slice none none (some (.UnaryOp .USub (.Constant (.int 1) 0 p1) p2)) p3) pos) (tRevT X.K te) := by
  refine ⟨fun pins s σ H Q I h => ?_⟩
  refine Subscript_ (thn (he.run pins s σ H _ I h) fun v s1 ⟨x, H1, I1, r1, q1⟩ => ?_)
  refine wpAny_Slice ?_
  rw [evalPart_none]
  refine wpAny_pure (wpAny_pure ?_)
  rw [evalPart_some]
  refine thn ((pe_un un_neg pe_int).run pins s1 σ H1 (fun y H2 => y = .int (-1) ∧ H2 = H1) I1 ⟨_, rfl, rfl, rfl⟩) fun u s2 ⟨y, H2, I2, r2, e1, e2⟩ => ?_
  subst e1 e2
  obtain ⟨t, rfl⟩ := r2
  obtain ⟨a, xs, rfl, hx, q⟩ := q1
  cases r1
  have I4 : Inv X pins σ H2 { s2 with heap := s2.heap.push { cls := .type "slice", data := .fields #[.none, .none, .int (-1) t] } } := I2.kept (t' := s2.toks) fun b ob q => Heap.get?_push_of_some _ q
  obtain ⟨its, r, ht, hz⟩ := I4.tuple hx
  show wpAny (model X.prog X.w) X.A (subscriptTail e _ (.ref a) (.ref s2.heap.objs.size)) (EP X pins σ Q) X.xe { s2 with heap := s2.heap.push { cls := .type "slice", data := .fields #[.none, .none, .int (-1) t] } }
  refine tail_any (ops := [.ref a, .ref s2.heap.objs.size]) ht.typeIs PyProof.Rows.slot_tuple_getitem.lookup (getItem_tuple_rev ht (Heap.IsSliceOf.new ..) ?_ (by rw [List.size_toArray, ← r.length]; exact hz)) (by with_unfolding_all rfl)
  refine ⟨.ref _, _, I4.laid (t' := s2.toks) (o := .tup xs.reverse) (fun b ob q => Heap.get?_push_of_some _ q) (Nat.le_refl _) ?_, rfl, q _ (I4.hok.fresh (Nat.le_refl _))⟩
  exact ⟨by rw [List.length_reverse]; exact hz, _, r.reverse, IsTup.new _ _⟩
end Cm
namespace Cm
open PySem PySem.Spec PyProof.Rows L2
section
variable {X : Cx}
theorem _root_.L2.OpR.imp {f : Value → Value → Sem Value} {r r' : R2} (h : OpR X f r) (i : ∀ x y H Q, r' x y H Q → r x y H Q) : OpR X f r' :=
  fun pins s σ H x y v u Q I rx ry q => h pins s σ H x y v u Q I rx ry (i _ _ _ _ q)
/-- t + u, whatever object it is -/
def rCatS (K : PySem.W.Frag) : R2 := fun x y H Q => ∃ a b xs ys, x = .ref a ∧ y = .ref b ∧ SqT K H a xs ∧ SqT K H b ys ∧ xs.length + ys.length ≤ sizeLine ∧ ∀ r H', Same H H' → SqT K H' r (xs ++ ys) → Q (.ref r) H'
theorem op_catS : OpR X (binaryOp .Add) (rCatS X.K) := op_catA.imp fun x y H Q h => by
  obtain ⟨a, b, xs, ys, rfl, rfl, ha, hb, hl, q⟩ := h
  refine ⟨a, b, xs, ys, rfl, rfl, ha, hb, hl, fun e => ?_, fun _ e => ?_, fun _ _ p np => q p _ (Same.new np) (SqT.of upd_same)⟩
  · subst e
    exact q b H (Same.refl _) hb
  · subst e
    exact q a H (Same.refl _) (by rw [List.append_nil]; exact ha)
/-- t[lo:hi], whatever object it is -/
def rSlS (K : PySem.W.Frag) : V → Option Int → Option Int → Hp → VK → Prop := fun x lo hi H Q => ∃ a xs, x = .ref a ∧ SqT K H a xs ∧ ∀ r H', Same H H' → SqT K H' r (cutV xs lo hi) → Q (.ref r) H'
theorem cut_whole {xs : List V} {lo hi : Option Int} (h : HT.sIx xs.length 0 lo = 0 ∧ HT.sIx xs.length xs.length hi = xs.length) : cutV xs lo hi = xs := by
  unfold cutV
  rw [h.1, h.2, List.drop_zero, Nat.sub_zero, List.take_length]
theorem sl_tupS : SlR X (rSlS X.K) := by
  intro pins s σ H x v vl vu lo hi sl Q I rx hs pl pu h
  obtain ⟨a, xs, rfl, ha, q⟩ := h
  refine sl_tupA pins s σ H (.ref a) v vl vu lo hi sl Q I rx hs pl pu ⟨a, xs, rfl, ha, fun e => q a H (Same.refl _) (by rw [cut_whole e]; exact ha), fun _ p np => q p _ (Same.new np) (SqT.of upd_same)⟩
end
end Cm

set_option Elab.async false
set_option linter.all false
set_option maxRecDepth 100000
set_option maxHeartbeats 4000000

namespace Hx
open PySem PySem.Spec PyProof.Rows L2 Cm
def top (i : Nat) : Stmt := PySem.Challenge.pw_sherdhall_k29_how_cards_lie_wrong.main.body.getD i (.Pass ⟨0, 0, 0, 0⟩)
abbrev s_is_whole : Stmt := top 2
abbrev s_is_between : Stmt := top 3
abbrev s_is_rest : Stmt := top 4
abbrev s_sum_of_products : Stmt := top 5
abbrev s_sums_of : Stmt := top 8
abbrev s_cells_of : Stmt := top 9
abbrev s_looked : Stmt := top 10
abbrev s__law_cell : Stmt := top 12
abbrev s__law_source : Stmt := top 13
abbrev s__law_pick : Stmt := top 14
abbrev s__law_alike : Stmt := top 15
abbrev s__law_made : Stmt := top 16
abbrev s__law_some_cells : Stmt := top 17
abbrev s__law_some_key : Stmt := top 18
abbrev s__law_state : Stmt := top 19
abbrev s__law_bent : Stmt := top 20
abbrev s_law : Stmt := top 21
structure Txt (mg : Str → Option Value) where
  n_len : mg "len" = none
  n_max : mg "max" = none
  n_min : mg "min" = none
  n_range : mg "range" = none
  n_zip : mg "zip" = none
  n_sum : mg "sum" = none
  n_all : mg "all" = none
  n_isinstance : mg "isinstance" = none
  n_int : mg "int" = none
  n_bool : mg "bool" = none
  n_str : mg "str" = none
  n_tuple : mg "tuple" = none
  n_list : mg "list" = none
  u_PRIME : Value
  g_PRIME : mg "PRIME" = some u_PRIME
  v_PRIME : RelV (.int 97) u_PRIME
  u_BESIDES : Value
  g_BESIDES : mg "BESIDES" = some u_BESIDES
  v_BESIDES : RelV (.int 5) u_BESIDES
/-! ### numbers by 97 -/
theorem mod_ml (a b : Int) : (a % 97 * b) % 97 = a * b % 97 := by rw [Int.mul_emod, Int.emod_emod, ← Int.mul_emod]
theorem mod_mr (a b : Int) : (a * (b % 97)) % 97 = a * b % 97 := by rw [Int.mul_emod, Int.emod_emod, ← Int.mul_emod]
theorem mod_pw (a : Int) : ∀ n : Nat, (a % 97) ^ n % 97 = a ^ n % 97
  | 0 => by rw [Int.pow_zero, Int.pow_zero]
  | n + 1 => by rw [Int.pow_succ, Int.pow_succ, Int.mul_emod, mod_pw a n, Int.emod_emod, ← Int.mul_emod]
theorem fermat {a : Int} (h : a % 97 ≠ 0) : a ^ 96 % 97 = 1 := by
  rw [← mod_pw]
  have h0 : 0 ≤ a % 97 := Int.emod_nonneg _ (by decide)
  have h1 : a % 97 < 97 := Int.emod_lt_of_pos _ (by decide)
  obtain ⟨n, hn⟩ : ∃ n : Nat, a % 97 = (n : Int) := ⟨(a % 97).toNat, by omega⟩
  rw [hn] at h h0 h1 ⊢
  have key : ∀ n : Fin 97, n.val ≠ 0 → ((n.val : Int)) ^ 96 % 97 = 1 := by decide +kernel
  exact key ⟨n, by omega⟩ (by simp; omega)
/-- a small enough number -/
def Bd (a : Int) : Prop := a.natAbs < 2 ^ 250
theorem Bd.mod (a : Int) : Bd (a % 97) := by
  have h0 : 0 ≤ a % 97 := Int.emod_nonneg _ (by decide)
  have h1 : a % 97 < 97 := Int.emod_lt_of_pos _ (by decide)
  have h2 : 97 < 2 ^ 250 := by decide
  unfold Bd
  omega
local macro_rules | `(tactic| walk_at "bd") => `(tactic| first | assumption | exact Bd.mod _ | (unfold Bd; decide))
local macro_rules | `(tactic| walk_at "rd") => `(tactic| repeat (first | refine ⟨_, rfl, ?_⟩ | refine ⟨_, _, rfl, rfl, ?_⟩ | refine ⟨_, _, rfl, ?_⟩ | refine ⟨_, _, _, rfl, ?_⟩ | refine ⟨rfl, ?_⟩ | refine ⟨(by walk_at "bd" : Bd _), ?_⟩))
local macro_rules | `(tactic| walk_at "mem") => `(tactic| first | assumption | exact upd_same | (refine old ?_ ?_ <;> walk_at "mem"))
local macro_rules | `(tactic| walk_at "sq") => `(tactic| first | assumption | (refine SqL.of ?_; walk_at "mem"))
section
variable {P : Program} {w : World} {K : PySem.W.Frag} {mg : Str → Option Value} {base : Heap}
theorem sc_is_whole : FnScope ["thing"] ["thing"] (defScope s_is_whole) := ⟨rfl, rfl, rfl, by decide +kernel, rfl, by decide +kernel, by decide +kernel⟩
theorem sc_is_between : FnScope ["thing", "least", "most"] ["thing", "least", "most"] (defScope s_is_between) := ⟨rfl, rfl, rfl, by decide +kernel, rfl, by decide +kernel, by decide +kernel⟩
theorem sc_is_rest : FnScope ["thing"] ["thing"] (defScope s_is_rest) := ⟨rfl, rfl, rfl, by decide +kernel, rfl, by decide +kernel, by decide +kernel⟩
theorem sc_sum_of_products : FnScope ["factors", "numbers", "factor", "number"] ["factors", "numbers"] (defScope s_sum_of_products) := ⟨rfl, rfl, rfl, by decide +kernel, rfl, by decide +kernel, by decide +kernel⟩
theorem sc_sums_of : FnScope ["cells", "many"] ["cells"] (defScope s_sums_of) := ⟨rfl, rfl, rfl, by decide +kernel, rfl, by decide +kernel, by decide +kernel⟩
theorem sc_cells_of : FnScope ["card"] ["card"] (defScope s_cells_of) := ⟨rfl, rfl, rfl, by decide +kernel, rfl, by decide +kernel, by decide +kernel⟩
theorem sc_looked : FnScope ["card", "ticket", "place", "cells", "cell"] ["card", "ticket", "place"] (defScope s_looked) := ⟨rfl, rfl, rfl, by decide +kernel, rfl, by decide +kernel, by decide +kernel⟩
theorem sc__law_cell : FnScope ["script", "k"] ["script", "k"] (defScope s__law_cell) := ⟨rfl, rfl, rfl, by decide +kernel, rfl, by decide +kernel, by decide +kernel⟩
theorem sc__law_source : FnScope ["cell", "place"] ["cell", "place"] (defScope s__law_source) := ⟨rfl, rfl, rfl, by decide +kernel, rfl, by decide +kernel, by decide +kernel⟩
theorem sc__law_pick : FnScope ["urn", "many", "found", "mixed"] ["urn", "many"] (defScope s__law_pick) := ⟨rfl, rfl, rfl, by decide +kernel, rfl, by decide +kernel, by decide +kernel⟩
theorem sc__law_alike : FnScope ["found", "due", "one", "other"] ["found", "due"] (defScope s__law_alike) := ⟨rfl, rfl, rfl, by decide +kernel, rfl, by decide +kernel, by decide +kernel⟩
theorem sc__law_made : FnScope ["ticket", "place", "cells", "one", "i", "two"] ["ticket", "place", "cells"] (defScope s__law_made) := ⟨rfl, rfl, rfl, by decide +kernel, rfl, by decide +kernel, by decide +kernel⟩
theorem sc__law_some_cells : FnScope ["urn", "way", "many", "wide", "k"] ["urn"] (defScope s__law_some_cells) := ⟨rfl, rfl, rfl, by decide +kernel, rfl, by decide +kernel, by decide +kernel⟩
theorem sc__law_some_key : FnScope ["urn", "way", "wide"] ["urn"] (defScope s__law_some_key) := ⟨rfl, rfl, rfl, by decide +kernel, rfl, by decide +kernel, by decide +kernel⟩
theorem sc__law_state : FnScope ["card", "ticket", "place", "cells", "cell", "one", "i", "two"] ["card", "ticket", "place"] (defScope s__law_state) := ⟨rfl, rfl, rfl, by decide +kernel, rfl, by decide +kernel, by decide +kernel⟩
theorem sc__law_bent : FnScope ["urn", "card", "way", "spot", "step"] ["urn", "card"] (defScope s__law_bent) := ⟨rfl, rfl, rfl, by decide +kernel, rfl, by decide +kernel, by decide +kernel⟩
theorem sc_law : FnScope ["script", "k", "urn", "turns", "aside", "ticket", "place", "card", "turn"] ["script"] (defScope s_law) := ⟨rfl, rfl, rfl, by decide +kernel, rfl, by decide +kernel, by decide +kernel⟩
def isInt : V → Bool
  | .int _ => true
  | _ => false
def betw (v : V) (lo hi : Int) : Bool := match v with
  | .int i => decide (lo ≤ i) && decide (i ≤ hi)
  | _ => false
theorem ty_isInt {K : PySem.W.Frag} {H : Hp} {v : V} {n : String} (h : Ty K H v n) : ((n == "int" || (n == "bool" && "int" == "int")) && !(n == "bool" || (n == "bool" && "bool" == "int"))) = isInt v := by
  cases h <;> rfl
def spWhole (K : PySem.W.Frag) : Sp := fun vs H Q _ => ∃ v n, vs = [v] ∧ Ty K H v n ∧ Q (.bl (isInt v)) H
def spBetw (K : PySem.W.Frag) : Sp := fun vs H Q _ => ∃ v n lo hi, vs = [v, .int lo, .int hi] ∧ Ty K H v n ∧ Q (.bl (betw v lo hi)) H
def spRest (K : PySem.W.Frag) : Sp := fun vs H Q _ => ∃ v n, vs = [v] ∧ Ty K H v n ∧ Q (.bl (betw v 0 96)) H
theorem ok_whole (T : Txt mg) (F : At K mg "is_whole" s_is_whole ["thing"]) : Dn P w K mg base CX0 1 "is_whole" ["thing"] (spWhole K) := by
  refine F.ok sc_is_whole (fun vs H Q E h => ?_) (fun f cdv A outer s H vs Q E hr h => ?_)
  · obtain ⟨v, n, rfl, _⟩ := h
    rfl
  · obtain ⟨v, n, rfl, ty, q⟩ := h
    refine ⟨_, (pss_one (ps_ret (pe_and (pe_callB (r := rIsi K) call_isi (by rfl) T.n_isinstance (by decide +kernel) (pa_cons (pv 0) (pa_cons (pe_bltn (v := .ty "int") (u := .type "int") (by rfl) T.n_int (by decide +kernel) (by exact rfl)) pa_nil))) (pe_one (pe_not (pe_callB (r := rIsi K) call_isi (by rfl) T.n_isinstance (by decide +kernel) (pa_cons (pv 0) (pa_cons (pe_bltn (v := .ty "bool") (u := .type "bool") (by rfl) T.n_bool (by decide +kernel) (by exact rfl)) pa_nil)))))))), ?_⟩
    rw [← ty_isInt ty] at q
    refine ⟨_, rfl, _, _, _, _, _, rfl, .ty "int", ty.x, ty.kit "int", ?_⟩
    refine ⟨_, rfl, iteB (fun h => ?_) fun h => ?_⟩
    · rw [h, Bool.true_and] at q
      exact ⟨_, rfl, _, _, _, _, _, rfl, .ty "bool", ty.x, ty.kit "bool", _, rfl, q⟩
    · rw [h, Bool.false_and] at q
      exact q
theorem ok_between (D_is_whole : Dn P w K mg base CX0 1 "is_whole" ["thing"] (spWhole K)) (F : At K mg "is_between" s_is_between ["thing", "least", "most"]) : Dn P w K mg base CX0 2 "is_between" ["thing", "least", "most"] (spBetw K) := by
  refine F.ok sc_is_between (fun vs H Q E h => ?_) (fun f cdv A outer s H vs Q E hr h => ?_)
  · obtain ⟨v, n, lo, hi, rfl, _⟩ := h
    rfl
  · obtain ⟨v, n, lo, hi, rfl, ty, q⟩ := h
    refine ⟨_, (pss_one (ps_ret (pe_and (pe_callD D_is_whole (by first | exact hr | exact hr.mono (by decide)) (pa_cons (pv 0) pa_nil)) (pe_one (pe_chain op_le op_le (pv 1) (pv 0) (pv 2)))))), ?_⟩
    refine ⟨_, rfl, _, _, rfl, ty, _, rfl, iteB (fun h => ?_) fun h => ?_⟩
    · obtain ⟨i, rfl⟩ : ∃ i, v = .int i := by
        cases v with
        | int i => exact ⟨i, rfl⟩
        | _ => cases h
      refine ⟨_, rfl, _, rfl, _, _, rfl, rfl, _, rfl, iteD (fun h1 => ?_) fun h1 => ?_⟩
      · refine ⟨_, rfl, _, _, rfl, rfl, ?_⟩
        have q' : Q (.bl (decide (lo ≤ i) && decide (i ≤ hi))) H := q
        rw [decide_eq_true h1, Bool.true_and] at q'
        exact q'
      · have q' : Q (.bl (decide (lo ≤ i) && decide (i ≤ hi))) H := q
        rw [decide_eq_false h1, Bool.false_and] at q'
        exact q'
    · have e : betw v lo hi = false := by
        cases v with
        | int i => cases h
        | _ => rfl
      rw [e] at q
      exact q
theorem ok_rest (T : Txt mg) (D_is_between : Dn P w K mg base CX0 2 "is_between" ["thing", "least", "most"] (spBetw K)) (F : At K mg "is_rest" s_is_rest ["thing"]) : Dn P w K mg base CX0 3 "is_rest" ["thing"] (spRest K) := by
  refine F.ok sc_is_rest (fun vs H Q E h => ?_) (fun f cdv A outer s H vs Q E hr h => ?_)
  · obtain ⟨v, n, rfl, _⟩ := h
    rfl
  · obtain ⟨v, n, rfl, ty, q⟩ := h
    refine ⟨_, (pss_one (ps_ret (pe_callD D_is_between (by first | exact hr | exact hr.mono (by decide)) (pa_cons (pv 0) (pa_cons pe_int (pa_cons (pe_op op_sub (pe_glob rfl T.g_PRIME (by exact T.v_PRIME)) pe_int) pa_nil)))))), ?_⟩
    exact ⟨_, rfl, _, _, rfl, rfl, v, n, _, _, rfl, ty, q⟩
/-- the products of both, each with each, added up -/
def dot (fs ns : List Int) : Int := (List.zipWith (· * ·) fs ns).sum
def spSop (K : PySem.W.Frag) : Sp := fun vs H Q _ => ∃ (a b : Addr) (fs ns : List Int), vs = [.ref a, .ref b] ∧ SqL K H a (fs.map V.int) ∧ SqL K H b (ns.map V.int) ∧ fs.length ≤ 100000 ∧ (∀ f ∈ fs, -(2 ^ 64) < f ∧ f < 2 ^ 64) ∧
  ∀ H', Same H H' → Q (.int (dot fs ns % 97)) H'
theorem zip_range {α β γ : Type} [Inhabited α] [Inhabited β] (f : α → β → γ) (xs : List α) (ys : List β) : (List.range (min xs.length ys.length)).map (fun i => f (xs.getD i default) (ys.getD i default)) = List.zipWith f xs ys := by
  apply List.ext_getElem?
  intro i
  rw [List.getElem?_map, List.getElem?_zipWith]
  by_cases h : i < min xs.length ys.length
  · rw [List.getElem?_range h]
    have h1 : i < xs.length := by omega
    have h2 : i < ys.length := by omega
    simp [List.getD, h1, h2]
  · have e : (List.range (min xs.length ys.length))[i]? = none := by rw [List.getElem?_eq_none_iff, List.length_range]; omega
    rw [e]
    by_cases h1 : i < xs.length
    · have h2 : ys[i]? = none := by rw [List.getElem?_eq_none_iff]; omega
      rw [h2]
      cases xs[i]? <;> rfl
    · have h2 : xs[i]? = none := by rw [List.getElem?_eq_none_iff]; omega
      rw [h2]
      rfl
theorem ok_sop (T : Txt mg) (F : At K mg "sum_of_products" s_sum_of_products ["factors", "numbers"]) : Dn P w K mg base CX0 1 "sum_of_products" ["factors", "numbers"] (spSop K) := by
  refine F.ok sc_sum_of_products (fun vs H Q E h => ?_) (fun f cdv A outer s H vs Q E hr h => ?_)
  · obtain ⟨a, b, fs, ns, rfl, _⟩ := h
    rfl
  · obtain ⟨a, b, fs, ns, rfl, ha, hb, hl, hf, q⟩ := h
    refine ⟨_, (pss_one (ps_ret (pe_op op_mod (pe_callB (r := rSum K) (cr_sum rfl) (by rfl) T.n_sum (by decide +kernel) (pa_cons (pe_lc (own := [("factor", 2), ("number", 3)]) (g := (gTup K 2 (gCons (gName 2) (gCons (gName 3) gNil)))) (by rfl) sc_sum_of_products.nd (pi_zip (by rfl) T.n_zip (pa_cons (pv 0) (pa_cons (pv 1) pa_nil))) (blkOk_by (own := [("factor", 2), ("number", 3)]) (N := ["factors", "numbers", "factor", "number"]) (sc := defScope s_sum_of_products) (by decide +kernel)) (fun _ _ _ _ _ => (pg_tup rfl (pgs_cons (pg_name (i := 2) sc_sum_of_products.nd rfl (Or.inl rfl) (Or.inr rfl)) (pgs_cons (pg_name (i := 3) sc_sum_of_products.nd rfl (Or.inl rfl) (Or.inr rfl)) pgs_nil)))) (fun _ _ _ _ _ => pts_nil) (fun _ _ _ _ _ => (pe_op op_mul (pv 2) (pv 3)))) pa_nil)) (pe_glob rfl T.g_PRIME (by exact T.v_PRIME))))), ?_⟩
    refine ⟨_, rfl, _, rfl, _, _, _, _, rfl, ha, hb, fun D nD => lc_ints (walk_zip rfl) (fun i => fs.getD i default * ns.getD i default) nD ?_ (fun H' s => ⟨s.seq ha, s.seq hb⟩) ?_ ?_⟩
    · rw [List.length_map, List.length_map]
      exact small1000' (by omega)
    · intro i x H1 H2 R R' hi s1 y k
      obtain ⟨t, x1, x2, rfl, nt, rfl, e1, e2⟩ := y
      have z1 : i < fs.length := by simp at hi; omega
      have z2 : i < ns.length := by simp at hi; omega
      obtain rfl := map_get z1 e1
      obtain rfl := map_get z2 e2
      refine ⟨_, _, rfl, SqT.of upd_same, rfl, _, _, rfl, _, _, rfl, rfl, rfl, _, rfl, _, rfl, _, _, rfl, rfl, .inl (hf _ (getD_in z1)), k _ (Same.new nt)⟩
    · intro H1 s1 e1
      refine ⟨_, _, rfl, SqL.of e1, ?_⟩
      refine ⟨_, _, rfl, rfl, (by show (0 : Int) < 97; decide), ?_⟩
      have z := q H1 s1
      unfold dot at z
      rw [← zip_range] at z
      simpa using z
def upTo (n : Nat) : List Int := (List.range n).map fun (i : Nat) => 1 + (i : Int)
def sum0 (cs : List Int) : Int := cs.sum % 97
def sum1 (cs : List Int) : Int := dot (upTo cs.length) cs % 97
theorem dot_ones : ∀ cs : List Int, dot (List.replicate cs.length 1) cs = cs.sum
  | [] => rfl
  | c :: cs => by
    have ih := dot_ones cs
    unfold dot at ih ⊢
    rw [List.length_cons, List.replicate_succ, List.zipWith_cons_cons, List.sum_cons, List.sum_cons, ih, Int.one_mul]
def spSums (K : PySem.W.Frag) : Sp := fun vs H Q _ => ∃ (a : Addr) (cs : List Int), vs = [.ref a] ∧ SqL K H a (cs.map V.int) ∧ cs.length ≤ 10000 ∧
  ∀ p H', Same H H' → H' p = some (.tup [.int (sum0 cs), .int (sum1 cs)]) → Q (.ref p) H'
theorem rep1 (n : Nat) : (List.replicate n [V.int 1]).flatten = (List.replicate n (1 : Int)).map V.int := by
  induction n with
  | zero => rfl
  | succ n ih => rw [List.replicate_succ, List.flatten_cons, ih, List.replicate_succ]; rfl
theorem rg_upTo (n : Nat) : rgV 1 ((n : Int) + 1) = (upTo n).map V.int := by
  unfold rgV upTo
  rw [List.map_map, show ((n : Int) + 1 - 1).toNat = n by omega]
  rfl
theorem upTo_bd {n : Nat} (h : n ≤ 10000) : ∀ f ∈ upTo n, -(2 ^ 64) < f ∧ f < 2 ^ 64 := by
  intro f hf
  obtain ⟨i, hi, rfl⟩ := List.mem_map.mp hf
  have := List.mem_range.mp hi
  omega
theorem ok_sums_of (T : Txt mg) (D_sum_of_products : Dn P w K mg base CX0 1 "sum_of_products" ["factors", "numbers"] (spSop K)) (F : At K mg "sums_of" s_sums_of ["cells"]) : Dn P w K mg base CX0 2 "sums_of" ["cells"] (spSums K) := by
  refine F.ok sc_sums_of (fun vs H Q E h => ?_) (fun f cdv A outer s H vs Q E hr h => ?_)
  · obtain ⟨a, cs, rfl, _⟩ := h
    rfl
  · obtain ⟨a, cs, rfl, ha, hl, q⟩ := h
    refine ⟨_, (pss_cons (ps_set (i := 1) sc_sums_of.nd rfl (by first | exact Or.inl rfl | exact Or.inr rfl) (pe_callB (r := rLen K) call_len (by rfl) T.n_len (by decide +kernel) (pa_cons (pv 0) pa_nil)))
  (pss_one (ps_ret (pe_tup (pa_cons (pe_callD D_sum_of_products (by first | exact hr | exact hr.mono (by decide)) (pa_cons (pe_op op_rep (pe_lst (pa_cons pe_int pa_nil)) (pv 1)) (pa_cons (pv 0) pa_nil))) (pa_cons (pe_callD D_sum_of_products (by first | exact hr | exact hr.mono (by decide)) (pa_cons (pe_listRg rfl (by rfl) T.n_list (prg_2 (by rfl) T.n_range pe_int (pe_op op_add (pv 1) pe_int))) (pa_cons (pv 0) pa_nil))) pa_nil)))))), ?_⟩
    refine ⟨_, rfl, _, _, rfl, .inl ⟨_, ha, rfl⟩, ?_⟩
    rw [List.length_map]
    refine ⟨by show 1 ≤ sizeLine; decide, fun l nl => ?_⟩
    refine ⟨_, rfl, _, _, _, rfl, rfl, upd_same, by omega, by omega, by show 1 * _ ≤ sizeLine; rw [Nat.one_mul]; exact small1000' (by omega), fun m nm => ?_⟩
    rw [Int.toNat_natCast, rep1]
    have s1 := Same.new (o := .lst [V.int 1]) nl
    have s2 := Same.trans s1 (Same.new (o := .lst ((List.replicate cs.length (1 : Int)).map V.int)) nm)
    refine ⟨_, rfl, _, _, _, _, rfl, SqL.of upd_same, s2.seq ha, by rw [List.length_replicate]; omega, fun f hf => by rw [List.eq_of_mem_replicate hf]; decide, fun H1 t1 => ?_⟩
    rw [dot_ones]
    refine ⟨_, rfl, _, _, rfl, rfl, _, _, rfl, rfl, RgOk.of_le (by omega) (by omega) (by omega) (by omega), fun r nr => ?_⟩
    rw [rg_upTo]
    have s3 := Same.trans (Same.trans s2 t1) (Same.new (o := .lst ((upTo cs.length).map V.int)) nr)
    refine ⟨_, rfl, _, _, _, _, rfl, SqL.of upd_same, s3.seq ha, by unfold upTo; rw [List.length_map, List.length_range]; omega, upTo_bd hl, fun H2 t2 => ?_⟩
    refine ⟨by show 2 ≤ sizeLine; decide, fun p np => ?_⟩
    exact q p _ (Same.trans (Same.trans s3 t2) (Same.new np)) upd_same
/-- a card's members -/
def cardOf (t pl : Int) (cs : List Int) : List Int := (5 + (cs.length : Int)) :: t :: pl :: (cs ++ [sum0 cs, sum1 cs])
/-- the cells of a card's members -/
def cellsOf (c : List Int) : List Int := (c.drop 3).take (c.length - 5)
def spCells (K : PySem.W.Frag) : Sp := fun vs H Q _ => ∃ (a : Addr) (c : List Int), vs = [.ref a] ∧ SqT K H a (c.map V.int) ∧ 5 ≤ c.length ∧
  ∀ p H', Same H H' → H p = none → H' p = some (.lst ((cellsOf c).map V.int)) → Q (.ref p) H'
theorem cut_cells {c : List Int} (h : 5 ≤ c.length) : cutV (c.map V.int) (some 3) (some (-2)) = (cellsOf c).map V.int := by
  unfold cutV cellsOf
  have e1 : HT.sIx (c.map V.int).length 0 (some 3) = 3 := by
    unfold HT.sIx
    simp
    omega
  have e2 : HT.sIx (c.map V.int).length (c.map V.int).length (some (-2)) = c.length - 2 := by
    unfold HT.sIx
    simp
    omega
  rw [e1, e2, List.map_take, List.map_drop, show c.length - 2 - 3 = c.length - 5 by omega]
theorem ok_cells_of (T : Txt mg) (F : At K mg "cells_of" s_cells_of ["card"]) : Dn P w K mg base CX0 1 "cells_of" ["card"] (spCells K) := by
  refine F.ok sc_cells_of (fun vs H Q E h => ?_) (fun f cdv A outer s H vs Q E hr h => ?_)
  · obtain ⟨a, c, rfl, _⟩ := h
    rfl
  · obtain ⟨a, c, rfl, ha, hl, q⟩ := h
    refine ⟨_, (pss_one (ps_ret (pe_callTy call_list_of (by rfl) T.n_list (by decide +kernel) (pa_cons (pe_slice (r := rSlT K) sl_tup (pv 0) (po_some pe_int) (po_some (pe_un un_neg pe_int))) pa_nil)))), ?_⟩
    refine ⟨_, rfl, _, rfl, _, rfl, _, rfl, _, _, rfl, ha, ?_, fun r nr => ?_⟩
    · intro z
      have z1 := z.1
      rw [show HT.sIx (c.map V.int).length 0 (some 3) = 3 from by unfold HT.sIx; simp; omega] at z1
      omega
    · rw [cut_cells hl]
      refine ⟨_, _, rfl, .inr (SqT.of upd_same), fun p np => ?_⟩
      exact q p _ (Same.trans (Same.new nr) (Same.new np)) (by
        cases e : H p with
        | none => rfl
        | some o => rw [old e nr] at np; cases np) upd_same
/-- how a card lies under a key -/
def rightCells (cs : List Int) : Bool := cs.all fun c => decide (0 ≤ c) && decide (c ≤ 96)
def lookF (c : List Int) (t pl : Int) : Str :=
  if c.length < 5 ∨ (c.length : Int) ≠ c.headD 0 then "torn" else if (c.drop 1).take 2 ≠ [t, pl] then "strange"
  else if rightCells (cellsOf c) = false ∨ c.drop (c.length - 2) ≠ [sum0 (cellsOf c), sum1 (cellsOf c)] then "spoilt" else "whole"
def spLooked (K : PySem.W.Frag) : Sp := fun vs H Q _ => ∃ (a : Addr) (c : List Int) (t pl : Int), vs = [.ref a, .int t, .int pl] ∧ SqT K H a (c.map V.int) ∧ c.length ≤ 10000 ∧ c ≠ [] ∧ ∀ H', Same H H' → Q (.str (lookF c t pl)) H'
theorem cut12 {c : List Int} (h : 5 ≤ c.length) : cutV (c.map V.int) (some 1) (some 3) = ((c.drop 1).take 2).map V.int := by
  unfold cutV
  have e1 : HT.sIx (c.map V.int).length 0 (some 1) = 1 := by
    unfold HT.sIx
    simp
    omega
  have e2 : HT.sIx (c.map V.int).length (c.map V.int).length (some 3) = 3 := by
    unfold HT.sIx
    simp
    omega
  rw [e1, e2, List.map_take, List.map_drop]
theorem cut2 {c : List Int} (h : 5 ≤ c.length) : cutV (c.map V.int) (some (-2)) none = (c.drop (c.length - 2)).map V.int := by
  unfold cutV
  have e1 : HT.sIx (c.map V.int).length 0 (some (-2)) = c.length - 2 := by
    unfold HT.sIx
    simp
    omega
  have e2 : HT.sIx (c.map V.int).length (c.map V.int).length none = c.length := by
    unfold HT.sIx
    simp
  rw [e1, e2, List.map_drop, List.take_of_length_le]
  rw [List.length_drop, List.length_map]
  omega
theorem ok_looked (T : Txt mg) (D_cells_of : Dn P w K mg base CX0 1 "cells_of" ["card"] (spCells K)) (D_is_rest : Dn P w K mg base CX0 3 "is_rest" ["thing"] (spRest K)) (D_sums_of : Dn P w K mg base CX0 2 "sums_of" ["cells"] (spSums K))
    (F : At K mg "looked" s_looked ["card", "ticket", "place"]) : Dn P w K mg base CX0 4 "looked" ["card", "ticket", "place"] (spLooked K) := by
  refine F.ok sc_looked (fun vs H Q E h => ?_) (fun f cdv A outer s H vs Q E hr h => ?_)
  · obtain ⟨a, c, t, pl, rfl, _⟩ := h
    rfl
  · obtain ⟨a, c, t, pl, rfl, ha, hl, hc, q⟩ := h
    obtain ⟨c0, cr, rfl⟩ : ∃ c0 cr, c = c0 :: cr := by
      cases c with
      | nil => exact absurd rfl hc
      | cons x y => exact ⟨x, y, rfl⟩
    refine ⟨_, (pss_cons (ps_if (PW.pt (pw_or (pt_cmpR op_lt (pe_callB (r := rLen K) call_len (by rfl) T.n_len (by decide +kernel) (pa_cons (pv 0) pa_nil)) (pe_glob rfl T.g_BESIDES (by exact T.v_BESIDES)) (nomark _)) (pw_or1 (pt_cmpR op_ne (pe_callB (r := rLen K) call_len (by rfl) T.n_len (by decide +kernel) (pa_cons (pv 0) pa_nil)) (pe_ix (r := rIxT K) ix_tup (pv 0) pe_int (fun _ _ => rfl)) (nomark _))))) (pss_one (ps_ret pe_str)) pss_nil)
  (pss_cons (ps_if (pt_cmpR (r := rNeD K) (op_neD hr.units) (pe_slice (r := rSlT K) sl_tup (pv 0) (po_some pe_int) (po_some pe_int)) (pe_tup (pa_cons (pv 1) (pa_cons (pv 2) pa_nil))) (nomark _)) (pss_one (ps_ret pe_str)) pss_nil)
  (pss_cons (ps_set (i := 3) sc_looked.nd rfl (by first | exact Or.inl rfl | exact Or.inr rfl) (pe_callD D_cells_of (by first | exact hr | exact hr.mono (by decide)) (pa_cons (pv 0) pa_nil)))
  (pss_cons (ps_if (PW.pt (pw_or (pt_not (pt_val (pe_callB (r := rAll K) (cr_all rfl) (by rfl) T.n_all (by decide +kernel) (pa_cons (pe_lc (own := [("cell", 4)]) (g := (gName 4)) (by rfl) sc_looked.nd (pi_list (pv 3)) (blkOk_by (own := [("cell", 4)]) (N := ["card", "ticket", "place", "cells", "cell"]) (sc := defScope s_looked) (by decide +kernel)) (fun _ _ _ _ _ => (pg_name (i := 4) sc_looked.nd rfl (Or.inl rfl) (Or.inr rfl))) (fun _ _ _ _ _ => pts_nil) (fun _ _ _ _ _ => (pe_callD D_is_rest (by first | exact hr | exact hr.mono (by decide)) (pa_cons (pv 4) pa_nil)))) pa_nil)))) (pw_or1 (pt_cmpR (r := rNeD K) (op_neD hr.units) (pe_slice (r := rSlT K) sl_tup (pv 0) (po_some (pe_un un_neg pe_int)) po_none) (pe_callD D_sums_of (by first | exact hr | exact hr.mono (by decide)) (pa_cons (pv 3) pa_nil)) (nomark _))))) (pss_one (ps_ret pe_str)) pss_nil)
  (pss_one (ps_ret pe_str)))))), ?_⟩
    refine ⟨_, rfl, _, _, rfl, .inr ⟨_, ha, rfl⟩, _, _, rfl, rfl, _, rfl, iteD (fun h1 => ?_) fun h1 => ?_⟩
    · have e : lookF (c0 :: cr) t pl = "torn" := if_pos (.inl (by rw [List.length_map] at h1; omega))
      rw [e] at q
      exact q H (Same.refl _)
    refine ⟨_, rfl, _, _, rfl, .inr ⟨_, ha, rfl⟩, _, rfl, _, _, _, _, rfl, rfl, ha, at_of (j := 0) rfl rfl, ?_⟩
    rw [List.length_map] at h1 ⊢
    refine ⟨rfl, _, rfl, iteIn (fun h2 => ?_) fun h2 => ?_⟩
    · have e : lookF (c0 :: cr) t pl = "torn" := if_pos (.inr h2)
      rw [e] at q
      exact q H (Same.refl _)
    have l5 : 5 ≤ (c0 :: cr).length := by omega
    have nt : ¬ ((c0 :: cr).length < 5 ∨ (((c0 :: cr).length : Nat) : Int) ≠ (c0 :: cr).headD 0) := by
      rintro (z | z)
      · omega
      · exact z h2
    refine ⟨_, rfl, _, rfl, _, rfl, _, _, rfl, ha, ?_, fun r nr => ?_⟩
    · intro z
      have z1 := z.1
      unfold HT.sIx at z1
      simp at z1
    rw [cut12 l5]
    have s1 := Same.new (o := .tup ((((c0 :: cr).drop 1).take 2).map V.int)) nr
    refine ⟨_, rfl, _, rfl, by show 2 ≤ sizeLine; decide, fun k nk => ?_⟩
    have s2 := Same.trans s1 (Same.new (o := .tup [.int t, .int pl]) nk)
    refine ⟨_, _, dpT (SqT.of (old upd_same nk)), dpT (xs := [t, pl]) (SqT.of upd_same), shT _, shT _, ?_⟩
    rw [eqvT]
    refine ⟨_, rfl, iteDn (fun h3 => ?_) fun h3 => ?_⟩
    · have e : lookF (c0 :: cr) t pl = "strange" := by unfold lookF; rw [if_neg nt, if_pos h3]
      rw [e] at q
      exact q _ s2
    refine ⟨_, rfl, _, _, rfl, Same.sqt s2 ha, l5, fun g H3 s3 ng eg => ?_⟩
    have s3' := Same.trans s2 s3
    refine ⟨_, rfl, _, rfl, ?_⟩
    refine ⟨⟨_, SqL.of eg⟩, fun D nD => ?_⟩
    have cl : (cellsOf (c0 :: cr)).length ≤ 10000 := by unfold cellsOf; rw [List.length_take, List.length_drop]; omega
    refine lc_bools (walk_list (xs := (cellsOf (c0 :: cr)).map V.int)) (fun i => betw (.int ((cellsOf (c0 :: cr)).getD i default)) 0 96) nD (by rw [List.length_map]; exact small1000' (by omega)) (fun H s => s.seq (SqL.of eg)) ?_ ?_
    · intro i x H4 H5 R R' hi s4 y k4
      obtain ⟨rfl, ex⟩ := y
      rw [List.length_map] at hi
      obtain rfl := map_get hi ex
      exact ⟨rfl, _, rfl, _, _, rfl, .int _, k4 _ (Same.refl _)⟩
    · intro H4 s4 e4
      rw [List.length_map, range_map (fun x => betw (.int x) 0 96)] at e4
      refine ⟨_, _, rfl, SqL.of e4, _, rfl, ?_⟩
      have ea : (((cellsOf (c0 :: cr)).map fun x => betw (.int x) 0 96).all id) = rightCells (cellsOf (c0 :: cr)) := by
        rw [List.all_map]
        rfl
      rw [ea]
      have s4' := Same.trans s3' (Same.trans (Same.new (o := .lst []) nD) (Same.refl _))
      have s5 := Same.trans s3' s4
      refine iteBn (fun h4 => ?_) fun h4 => ?_
      · have e : lookF (c0 :: cr) t pl = "spoilt" := by
          unfold lookF
          rw [if_neg nt, if_neg (by rw [h3]; exact fun z => z rfl), if_pos (.inl h4)]
        rw [e] at q
        exact q _ s5
      refine ⟨_, rfl, _, rfl, _, rfl, _, _, rfl, Same.sqt s5 ha, ?_, fun u nu => ?_⟩
      · intro z
        have z1 := z.1
        rw [show HT.sIx ((c0 :: cr).map V.int).length 0 (some (-2)) = (c0 :: cr).length - 2 from by unfold HT.sIx; simp; omega] at z1
        omega
      rw [cut2 l5]
      have s6 := Same.trans s5 (Same.new (o := .tup (((c0 :: cr).drop ((c0 :: cr).length - 2)).map V.int)) nu)
      refine ⟨_, rfl, g, _, rfl, SqL.of (Same.trans s4 (Same.new nu) _ _ eg), cl, fun v H6 s7 ev => ?_⟩
      refine ⟨_, _, dpT (SqT.of (s7 _ _ upd_same)), dpT (xs := [sum0 (cellsOf (c0 :: cr)), sum1 (cellsOf (c0 :: cr))]) (SqT.of ev), shT _, shT _, ?_⟩
      rw [eqvT]
      refine ⟨_, rfl, iteDn (fun h5 => ?_) fun h5 => ?_⟩
      · have e : lookF (c0 :: cr) t pl = "spoilt" := by
          unfold lookF
          rw [if_neg nt, if_neg (by rw [h3]; exact fun z => z rfl), if_pos (.inr h5)]
        rw [e] at q
        exact q _ (Same.trans s6 s7)
      · have e : lookF (c0 :: cr) t pl = "whole" := by
          unfold lookF
          rw [if_neg nt, if_neg (by rw [h3]; exact fun z => z rfl), if_neg (by
            rintro (z | z)
            · rw [h4] at z; cases z
            · exact z h5)]
        rw [e] at q
        exact q _ (Same.trans s6 s7)
/-- a purse at p, of which at most c turns are taken -/
def Purse (H : Hp) (p : Addr) (c : Int) : Prop := ∃ x y z : Int, H p = some (.lst [.int x, .int y, .int z]) ∧ 0 ≤ x ∧ 0 ≤ y ∧ y < 2 ^ 210 ∧ 0 ≤ z ∧ z ≤ c
theorem Purse.mono {H : Hp} {p : Addr} {c d : Int} (h : Purse H p c) (l : c ≤ d) : Purse H p d := by
  obtain ⟨x, y, z, h1, h2, h3, h4, h5, h6⟩ := h
  exact ⟨x, y, z, h1, h2, h3, h4, h5, by omega⟩
theorem Purse.same {H H' : Hp} {p : Addr} {c : Int} (h : Purse H p c) (s : Same H H') : Purse H' p c := by
  obtain ⟨x, y, z, h1, h2⟩ := h
  exact ⟨x, y, z, s _ _ h1, h2⟩
/-- a draw: any number below many -/
def spDrawn : Sp := fun vs H Q _ => ∃ (p : Addr) (c many : Int), vs = [.ref p, .int many] ∧ Purse H p c ∧ c ≤ 100000 ∧ 0 < many ∧ many < 2 ^ 200 ∧
  ∀ v H', 0 ≤ v → v < many → Purse H' p (c + 1) → Kp p H H' → Q (.int v) H'
theorem Purse.ne {H : Hp} {p l : Addr} {c : Int} (h : Purse H p c) (n : H l = none) : l ≠ p := by
  obtain ⟨x, y, z, h1, _⟩ := h
  exact (ne_of_none h1 n).symm
/-- .. where p itself is not written -/
theorem Purse.upd {H : Hp} {p l : Addr} {c : Int} {o : HO} (h : Purse H p c) (n : l ≠ p) : Purse (upd H l o) p c := by
  obtain ⟨x, y, z, h1, h2⟩ := h
  exact ⟨x, y, z, by rw [upd_ne n.symm]; exact h1, h2⟩
theorem dot_range (cs : List Int) : ((List.range cs.length).map fun (i : Nat) => (1 + (i : Int)) * cs.getD i default).sum = dot (upTo cs.length) cs := by
  unfold dot
  rw [← zip_range]
  congr 1
  have hu : (upTo cs.length).length = cs.length := by unfold upTo; rw [List.length_map, List.length_range]
  rw [hu, Nat.min_self]
  apply List.map_congr_left
  intro i hi
  have := List.mem_range.mp hi
  unfold upTo
  simp [List.getD, this]
theorem two_more {c0 : Int} {cr : List Int} (h : 5 ≤ (c0 :: cr).length) : ∃ c1 c2 cs, cr = c1 :: c2 :: cs := by
  cases cr with
  | nil => simp at h
  | cons c1 r =>
    cases r with
    | nil => simp at h
    | cons c2 cs => exact ⟨c1, c2, cs, rfl⟩
def spState (K : PySem.W.Frag) : Sp := spLooked K
theorem ok_state (T : Txt mg) (F : At K mg "_law_state" s__law_state ["card", "ticket", "place"]) : Dn P w K mg base CX0 1 "_law_state" ["card", "ticket", "place"] (spState K) := by
  refine F.ok sc__law_state (fun vs H Q E h => ?_) (fun f cdv A outer s H vs Q E hr h => ?_)
  · obtain ⟨a, c, t, pl, rfl, _⟩ := h
    rfl
  · obtain ⟨a, c, t, pl, rfl, ha, hl, hc, q⟩ := h
    obtain ⟨c0, cr, rfl⟩ : ∃ c0 cr, c = c0 :: cr := by
      cases c with
      | nil => exact absurd rfl hc
      | cons x y => exact ⟨x, y, rfl⟩
    refine ⟨_, (pss_cons (ps_if (PW.pt (pw_or (pt_cmpR op_ne (pe_callB (r := rLen K) call_len (by rfl) T.n_len (by decide +kernel) (pa_cons (pv 0) pa_nil)) (pe_ix (r := rIxT K) ix_tup (pv 0) pe_int (fun _ _ => rfl)) (nomark _)) (pw_or1 (pt_cmpR op_lt (pe_callB (r := rLen K) call_len (by rfl) T.n_len (by decide +kernel) (pa_cons (pv 0) pa_nil)) pe_int (nomark _))))) (pss_one (ps_ret pe_str)) pss_nil)
  (pss_cons (ps_if (PW.pt (pw_or (pt_cmpR op_ne (pe_ix (r := rIxT K) ix_tup (pv 0) pe_int (fun _ _ => rfl)) (pv 1) (nomark _)) (pw_or1 (pt_cmpR op_ne (pe_ix (r := rIxT K) ix_tup (pv 0) pe_int (fun _ _ => rfl)) (pv 2) (nomark _))))) (pss_one (ps_ret pe_str)) pss_nil)
  (pss_cons (ps_set (i := 3) sc__law_state.nd rfl (by first | exact Or.inl rfl | exact Or.inr rfl) (pe_slice (r := rSlT K) sl_tup (pv 0) (po_some pe_int) (po_some (pe_op op_sub (pe_callB (r := rLen K) call_len (by rfl) T.n_len (by decide +kernel) (pa_cons (pv 0) pa_nil)) pe_int))))
  (pss_cons (ps_if (pt_cmpR (r := rNeD K) (op_neD hr.units) (pe_lc (own := [("cell", 4)]) (g := (gName 4)) (by rfl) sc__law_state.nd (pi_tup (pv 3)) (blkOk_by (own := [("cell", 4)]) (N := ["card", "ticket", "place", "cells", "cell", "one", "i", "two"]) (sc := defScope s__law_state) (by decide +kernel)) (fun _ _ _ _ _ => (pg_name (i := 4) sc__law_state.nd rfl (Or.inl rfl) (Or.inr rfl))) (fun _ _ _ _ _ => (pts_one (PW.pt (pw_or (pt_cmpR op_lt (pv 4) pe_int (nomark _)) (pw_or1 (pt_cmpR op_gt (pv 4) pe_int (nomark _))))))) (fun _ _ _ _ _ => (pv 4))) (pe_lst pa_nil) (nomark _)) (pss_one (ps_ret pe_str)) pss_nil)
  (pss_cons (ps_set (i := 5) sc__law_state.nd rfl (by first | exact Or.inl rfl | exact Or.inr rfl) (pe_op op_mod (pe_callB (r := rSumT K) (cr_sumT rfl) (by rfl) T.n_sum (by decide +kernel) (pa_cons (pv 3) pa_nil)) pe_int))
  (pss_cons (ps_set (i := 7) sc__law_state.nd rfl (by first | exact Or.inl rfl | exact Or.inr rfl) (pe_op op_mod (pe_callB (r := rSum K) (cr_sum rfl) (by rfl) T.n_sum (by decide +kernel) (pa_cons (pe_lc (own := [("i", 6)]) (g := (gName 6)) (by rfl) sc__law_state.nd (pi_range1 (by rfl) T.n_range (pa_cons (pe_callB (r := rLen K) call_len (by rfl) T.n_len (by decide +kernel) (pa_cons (pv 3) pa_nil)) pa_nil)) (blkOk_by (own := [("i", 6)]) (N := ["card", "ticket", "place", "cells", "cell", "one", "i", "two"]) (sc := defScope s__law_state) (by decide +kernel)) (fun _ _ _ _ _ => (pg_name (i := 6) sc__law_state.nd rfl (Or.inl rfl) (Or.inr rfl))) (fun _ _ _ _ _ => pts_nil) (fun _ _ _ _ _ => (pe_op op_mul (pe_op op_add (pv 6) pe_int) (pe_ix (r := rIxT K) ix_tup (pv 3) (pv 6) (fun _ _ => rfl))))) pa_nil)) pe_int))
  (pss_one (ps_ret (pe_ix (r := rIxL K) ix_list (pe_lst (pa_cons pe_str (pa_cons pe_str pa_nil))) (pe_callTy call_int1 (by rfl) T.n_int (by decide +kernel) (pa_cons (pe_cmpR (r := rEqD K) (op_eqD hr.units) (pe_slice (r := rSlT K) sl_tup (pv 0) (po_some (pe_op op_sub (pe_callB (r := rLen K) call_len (by rfl) T.n_len (by decide +kernel) (pa_cons (pv 0) pa_nil)) pe_int)) po_none) (pe_tup (pa_cons (pv 5) (pa_cons (pv 7) pa_nil))) (nomark _)) pa_nil)) (fun _ _ => rfl)))))))))), ?_⟩
    refine ⟨_, rfl, _, _, rfl, .inr ⟨_, ha, rfl⟩, _, rfl, _, _, _, _, rfl, rfl, ha, at_of (j := 0) rfl rfl, rfl, ?_⟩
    rw [List.length_map]
    refine ⟨_, rfl, iteIn (fun h1 => ?_) fun h1 => ?_⟩
    · have e : lookF (c0 :: cr) t pl = "torn" := if_pos (.inr h1)
      rw [e] at q
      exact q H (Same.refl _)
    refine ⟨_, rfl, _, _, rfl, .inr ⟨_, ha, rfl⟩, ?_⟩
    rw [List.length_map]
    refine ⟨_, _, rfl, rfl, _, rfl, iteD (fun h2 => ?_) fun h2 => ?_⟩
    · have e : lookF (c0 :: cr) t pl = "torn" := if_pos (.inl (by omega))
      rw [e] at q
      exact q H (Same.refl _)
    have l5 : 5 ≤ (c0 :: cr).length := by omega
    have nt : ¬ ((c0 :: cr).length < 5 ∨ (((c0 :: cr).length : Nat) : Int) ≠ (c0 :: cr).headD 0) := by
      rintro (z | z)
      · omega
      · exact z h1
    obtain ⟨c1, c2, cs, rfl⟩ := two_more l5
    have key : (List.take 2 (List.drop 1 (c0 :: c1 :: c2 :: cs)) = [t, pl]) ↔ (c1 = t ∧ c2 = pl) := by
      simp
    refine ⟨_, rfl, _, _, _, _, rfl, rfl, ha, at_of (j := 1) rfl rfl, _, rfl, rfl, _, rfl, iteIn (fun h3 => ?_) fun h3 => ?_⟩
    · have e : lookF (c0 :: c1 :: c2 :: cs) t pl = "strange" := by
        unfold lookF
        rw [if_neg nt, if_pos (fun z => h3 (key.mp z).1)]
      rw [e] at q
      exact q H (Same.refl _)
    refine ⟨_, rfl, _, _, _, _, rfl, rfl, ha, at_of (j := 2) rfl rfl, _, rfl, rfl, _, rfl, iteIn (fun h4 => ?_) fun h4 => ?_⟩
    · have e : lookF (c0 :: c1 :: c2 :: cs) t pl = "strange" := by
        unfold lookF
        rw [if_neg nt, if_pos (fun z => h4 (key.mp z).2)]
      rw [e] at q
      exact q H (Same.refl _)
    have nk : ¬ (List.take 2 (List.drop 1 (c0 :: c1 :: c2 :: cs)) ≠ [t, pl]) := fun z => z (key.mpr ⟨h3, h4⟩)
    generalize hC : c0 :: c1 :: c2 :: cs = C at *
    refine ⟨_, rfl, _, rfl, _, rfl, _, _, rfl, .inr ⟨_, ha, rfl⟩, _, _, rfl, rfl, _, rfl, _, _, rfl, ha, ?_, fun u nu => ?_⟩
    · intro z
      have z1 := z.1
      rw [show HT.sIx (C.map V.int).length 0 (some 3) = 3 from by unfold HT.sIx; simp; omega] at z1
      omega
    have ecut : cutV (C.map V.int) (some 3) (some (((C.map V.int).length : Int) - 2)) = (cellsOf C).map V.int := by
      unfold cutV cellsOf
      have e1 : HT.sIx (C.map V.int).length 0 (some 3) = 3 := by
        unfold HT.sIx
        simp
        omega
      have e2 : HT.sIx (C.map V.int).length (C.map V.int).length (some (((C.map V.int).length : Int) - 2)) = C.length - 2 := by
        unfold HT.sIx
        rw [List.length_map]
        simp
        split <;> omega
      rw [e1, e2, List.map_take, List.map_drop, show C.length - 2 - 3 = C.length - 5 by omega]
    rw [ecut]
    have s1 := Same.new (o := .tup ((cellsOf C).map V.int)) nu
    have cl : (cellsOf C).length ≤ 10000 := by unfold cellsOf; rw [List.length_take, List.length_drop]; omega
    refine ⟨_, rfl, _, rfl, ⟨_, SqT.of upd_same⟩, fun D nD => ?_⟩
    refine lc_filt V.int (walk_tup (xs := (cellsOf C).map V.int)) (fun i => (cellsOf C).getD i default) (fun x => decide (x < 0) || decide (x > 96)) nD (by rw [List.length_map]; exact small1000' (by omega)) (fun H s => Same.sqt s (SqT.of upd_same)) ?_ ?_
    · intro i x H4 H5 R R' hi s4 y k1 k2
      obtain ⟨rfl, ex⟩ := y
      rw [List.length_map] at hi
      obtain rfl := map_get hi ex
      refine ⟨rfl, _, rfl, _, _, rfl, rfl, _, rfl, iteD (fun z => ?_) fun z => ?_⟩
      · exact ⟨_, rfl, k1 _ (Same.refl _) (by show (decide _ || decide _) = true; rw [decide_eq_true z, Bool.true_or])⟩
      · refine ⟨_, rfl, _, _, rfl, rfl, _, rfl, iteD (fun z2 => ?_) fun z2 => ?_⟩
        · exact ⟨_, rfl, k1 _ (Same.refl _) (by show (decide _ || decide _) = true; rw [decide_eq_true z2, Bool.or_true])⟩
        · exact k2 _ (Same.refl _) (by show (decide _ || decide _) = false; rw [decide_eq_false z, decide_eq_false z2]; rfl)
    · intro H4 s4 e4
      rw [List.length_map, range_map (fun x => x)] at e4
      have hf : (cellsOf C).filter (fun x => decide (x < 0) || decide (x > 96)) = [] ↔ rightCells (cellsOf C) = true := by
        unfold rightCells
        rw [List.filter_eq_nil_iff, List.all_eq_true]
        constructor
        · intro z x hx
          have h7 := z x hx
          simp only [Bool.or_eq_true, Bool.and_eq_true, decide_eq_true_eq] at h7 ⊢
          omega
        · intro z x hx
          have h7 := z x hx
          simp only [Bool.or_eq_true, Bool.and_eq_true, decide_eq_true_eq] at h7 ⊢
          omega
      rw [List.map_id'] at e4
      refine ⟨Nat.zero_le _, fun l nl => ?_⟩
      refine ⟨_, _, dpL (SqL.of (old e4 nl)), dpL (xs := []) (SqL.of upd_same), shL _, shL _, ?_⟩
      rw [eqvL]
      have s5 := Same.trans (Same.trans s1 s4) (Same.new (o := .lst []) nl)
      refine ⟨_, rfl, iteDn (fun h5 => ?_) fun h5 => ?_⟩
      · have e : lookF C t pl = "spoilt" := by
          unfold lookF
          have rf : rightCells (cellsOf C) = false := by
            cases z : rightCells (cellsOf C) with
            | false => rfl
            | true => exact absurd (hf.mpr z) h5
          rw [if_neg nt, if_neg nk, if_pos (.inl rf)]
        rw [e] at q
        exact q _ s5
      have rc := hf.mp h5
      have hu : upd H4 l (.lst []) u = some (.tup ((cellsOf C).map V.int)) := old (s4 _ _ upd_same) nl
      refine ⟨_, rfl, _, cellsOf C, rfl, SqT.of hu, _, _, rfl, rfl, (by show (0 : Int) < 97; decide), ?_⟩
      refine ⟨_, rfl, _, _, rfl, .inr ⟨_, SqT.of hu, rfl⟩, _, rfl, by omega, by rw [List.length_map]; omega, fun D2 nD2 => ?_⟩
      rw [Int.toNat_natCast, List.length_map]
      refine lc_ints walk_range (fun (i : Nat) => (1 + (i : Int)) * (cellsOf C).getD i default) nD2 (small1000' (by omega)) (fun _ _ => trivial) ?_ ?_
      · intro i x H5 H6 R R' hi s6 y k6
        obtain ⟨rfl, rfl⟩ := y
        obtain ⟨z, hz1, hz2, hz3⟩ := at_ints (ns := cellsOf C) (k := 0 + (i : Int)) (by omega) (by omega)
        have e : z = (cellsOf C).getD i default := by
          rw [show (0 + (i : Int)).toNat = i by omega] at hz2
          simp [List.getD, hz2]
        refine ⟨rfl, _, rfl, _, _, rfl, rfl, _, rfl, _, rfl, _, _, _, _, rfl, rfl, Same.sqt s6 (SqT.of hu), hz3, _, _, rfl, rfl, .inl ⟨by omega, by omega⟩, ?_⟩
        rw [e, show (0 : Int) + i + 1 = 1 + i by omega]
        exact k6 _ (Same.refl _)
      · intro H6 s6 e6
        refine ⟨_, _, rfl, SqL.of e6, _, _, rfl, rfl, (by show (0 : Int) < 97; decide), ?_⟩
        rw [dot_range]
        have s7 := Same.trans s5 s6
        refine ⟨by show 2 ≤ sizeLine; decide, fun m nm => ?_⟩
        have s8 := Same.trans s7 (Same.new (o := .lst [.str "spoilt", .str "whole"]) nm)
        refine ⟨_, rfl, _, rfl, _, _, rfl, .inr ⟨_, Same.sqt s8 ha, rfl⟩, _, _, rfl, rfl, _, rfl, _, _, rfl, Same.sqt s8 ha, ?_, fun v nv => ?_⟩
        · intro z
          have z1 := z.1
          rw [show HT.sIx (C.map V.int).length 0 (some (((C.map V.int).length : Int) - 2)) = C.length - 2 from by unfold HT.sIx; rw [List.length_map]; simp; split <;> omega] at z1
          omega
        have ecut2 : cutV (C.map V.int) (some (((C.map V.int).length : Int) - 2)) none = (C.drop (C.length - 2)).map V.int := by
          unfold cutV
          rw [show HT.sIx (C.map V.int).length 0 (some (((C.map V.int).length : Int) - 2)) = C.length - 2 from by unfold HT.sIx; rw [List.length_map]; simp; split <;> omega,
            show HT.sIx (C.map V.int).length (C.map V.int).length none = C.length from by unfold HT.sIx; simp, List.map_drop, List.take_of_length_le]
          rw [List.length_drop, List.length_map]
          omega
        rw [ecut2]
        refine ⟨_, rfl, _, rfl, by show 2 ≤ sizeLine; decide, fun x nx => ?_⟩
        refine ⟨_, _, dpT (SqT.of (old upd_same nx)), dpT (xs := [sum0 (cellsOf C), sum1 (cellsOf C)]) (SqT.of upd_same), shT _, shT _, ?_⟩
        rw [eqvT]
        have s9 := Same.trans (Same.trans s8 (Same.new (o := .tup ((C.drop (C.length - 2)).map V.int)) nv)) (Same.new (o := .tup [.int (sum0 (cellsOf C)), .int (sum1 (cellsOf C))]) nx)
        have hm := old (old (upd_same (H := H6) (a := m) (o := .lst [.str "spoilt", .str "whole"])) nv (o := .tup ((C.drop (C.length - 2)).map V.int))) nx (o := .tup [.int (sum0 (cellsOf C)), .int (sum1 (cellsOf C))])
        by_cases h6 : C.drop (C.length - 2) = [sum0 (cellsOf C), sum1 (cellsOf C)]
        · have e : lookF C t pl = "whole" := by
            unfold lookF
            rw [if_neg nt, if_neg nk, if_neg]
            rintro (z | z)
            · rw [rc] at z; cases z
            · exact z h6
          rw [e] at q
          rw [decide_eq_true h6]
          exact .inr ⟨true, rfl, _, _, _, _, rfl, rfl, SqL.of hm, at_of (j := 1) rfl rfl, q _ s9⟩
        · have e : lookF C t pl = "spoilt" := by
            unfold lookF
            rw [if_neg nt, if_neg nk, if_pos (.inr h6)]
          rw [e] at q
          rw [decide_eq_false h6]
          exact .inr ⟨false, rfl, _, _, _, _, rfl, rfl, SqL.of hm, at_of (j := 0) rfl rfl, q _ s9⟩
/-- the next number of an urn: any number below many -/
theorem ok_pick (F : At K mg "_law_pick" s__law_pick ["urn", "many"]) : Dn P w K mg base CX0 1 "_law_pick" ["urn", "many"] spDrawn := by
  refine F.ok sc__law_pick (fun vs H Q E h => ?_) (fun f cdv A outer s H vs Q E hr h => ?_)
  · obtain ⟨p, c, many, rfl, _⟩ := h
    rfl
  · obtain ⟨p, c, many, rfl, ⟨x, y, z, hp, x0, y0, y1, z0, zc⟩, c1, m0, m1, q⟩ := h
    refine ⟨_, (pss_cons (ps_if (pt_cmpR op_gt (pe_ix (r := rIxL K) ix_list (pv 0) pe_int (fun _ _ => rfl)) pe_int (nomark _)) (pss_cons (ps_set (i := 2) sc__law_pick.nd rfl (by first | exact Or.inl rfl | exact Or.inr rfl) (pe_op op_mod (pe_ix (r := rIxL K) ix_list (pv 0) pe_int (fun _ _ => rfl)) (pv 1)))
  (pss_cons (ps_asg (pe_op op_fdivW (pe_ix (r := rIxL K) ix_list (pv 0) pe_int (fun _ _ => rfl)) (pv 1)) (pg_sub (pv 0) pe_int set_list))
  (pss_one (ps_ret (pv 2))))) pss_nil)
  (pss_cons (ps_asg (pe_op op_add (pe_ix (r := rIxL K) ix_list (pv 0) pe_int (fun _ _ => rfl)) pe_int) (pg_sub (pv 0) pe_int set_list))
  (pss_cons (ps_set (i := 3) sc__law_pick.nd rfl (by first | exact Or.inl rfl | exact Or.inr rfl) (pe_op op_mod (pe_op op_powW (pe_op op_add (pe_ix (r := rIxL K) ix_list (pv 0) pe_int (fun _ _ => rfl)) (pe_op op_mul pe_int (pe_ix (r := rIxL K) ix_list (pv 0) pe_int (fun _ _ => rfl)))) pe_int) (pe_op op_add (pe_op op_pow pe_int pe_int) pe_int)))
  (pss_cons (ps_set (i := 3) sc__law_pick.nd rfl (by first | exact Or.inl rfl | exact Or.inr rfl) (pe_op op_mod (pe_op op_powW (pe_op op_add (pv 3) (pe_op op_mul (pe_op op_mul pe_int (pe_ix (r := rIxL K) ix_list (pv 0) pe_int (fun _ _ => rfl))) (pe_ix (r := rIxL K) ix_list (pv 0) pe_int (fun _ _ => rfl)))) pe_int) (pe_op op_add (pe_op op_pow pe_int pe_int) pe_int)))
  (pss_one (ps_ret (pe_op op_mod (pe_op op_fdiv (pv 3) pe_int) (pv 1)))))))), ?_⟩
    refine ⟨_, rfl, _, _, _, _, rfl, rfl, SqL.of hp, rfl, _, _, rfl, rfl, _, rfl, iteD (fun hx => ?_) fun hx => ?_⟩
    · refine ⟨_, rfl, _, _, _, _, rfl, rfl, SqL.of hp, rfl, _, rfl, _, _, rfl, rfl, m0, ?_⟩
      refine ⟨_, rfl, _, _, _, _, rfl, rfl, SqL.of hp, rfl, _, rfl, _, _, rfl, rfl, wide_div m0 (b := 200) (by omega) (by decide) (by decide), ?_⟩
      refine ⟨_, rfl, _, _, _, 0, rfl, rfl, hp, rfl, _, rfl, ?_⟩
      refine q _ _ (Int.emod_nonneg _ (by omega)) (Int.emod_lt_of_pos _ m0) ⟨_, y, z, upd_same, Int.ediv_nonneg x0 (by omega), y0, y1, z0, by omega⟩ Kp.put
    · have t0 : 0 ≤ z + 1 := by omega
      have t1 : z + 1 ≤ 100001 := by omega
      refine ⟨_, rfl, _, _, _, _, rfl, rfl, SqL.of hp, rfl, _, _, rfl, rfl, _, rfl, _, _, _, 2, rfl, rfl, hp, rfl, ?_⟩
      refine ⟨_, rfl, _, _, _, _, rfl, rfl, SqL.of upd_same, rfl, _, rfl, _, _, _, _, rfl, rfl, SqL.of upd_same, rfl, _, _, rfl, rfl, .inl ⟨by decide, by decide⟩, _, _, rfl, rfl, ?_⟩
      refine ⟨_, _, rfl, rfl, CPowW.mk (a := 220) (n := 3) ?_ (by decide) (by decide), _, _, rfl, rfl, ⟨by decide, by decide, by decide⟩, _, _, rfl, rfl, _, _, rfl, rfl, (by show (0 : Int) < _; decide), ?_⟩
      · have e : (2 : Int) ^ 210 + 7368787 * 100001 < 2 ^ 220 := by decide
        omega
      generalize hm : ((y + 7368787 * (z + 1)) ^ (3 : Int).toNat % (10 ^ (43 : Int).toNat + 57) : Int) = m
      have m2 : 0 ≤ m := by rw [← hm]; exact Int.emod_nonneg _ (by decide)
      have m3 : m < 10 ^ (43 : Int).toNat + 57 := by rw [← hm]; exact Int.emod_lt_of_pos _ (by decide)
      have b1 : (15485863 * (z + 1)) * (z + 1) ≤ 15485863 * 100001 * 100001 := Int.mul_le_mul (by omega) t1 t0 (by omega)
      have b0 : 0 ≤ (15485863 * (z + 1)) * (z + 1) := Int.mul_nonneg (by omega) t0
      refine ⟨_, rfl, _, rfl, _, _, _, _, rfl, rfl, SqL.of upd_same, rfl, _, _, rfl, rfl, .inl ⟨by decide, by decide⟩, _, rfl, _, _, _, _, rfl, rfl, SqL.of upd_same, rfl, _, _, rfl, rfl, .inl ⟨by omega, by omega⟩, _, _, rfl, rfl, _, _, rfl, rfl, CPowW.mk (a := 220) (n := 5) ?_ (by decide) (by decide), _, _, rfl, rfl, ⟨by decide, by decide, by decide⟩, _, _, rfl, rfl, _, _, rfl, rfl, (by show (0 : Int) < _; decide), ?_⟩
      · have e : (10 : Int) ^ (43 : Int).toNat + 57 + 15485863 * 100001 * 100001 < 2 ^ 220 := by decide
        omega
      refine ⟨_, rfl, _, _, rfl, rfl, ⟨by decide, by decide⟩, _, rfl, _, _, rfl, rfl, m0, ?_⟩
      refine q _ _ (Int.emod_nonneg _ (by omega)) (Int.emod_lt_of_pos _ m0) ⟨x, y, z + 1, upd_same, x0, y0, y1, by omega, by omega⟩ Kp.put
def spCell (K : PySem.W.Frag) : Sp := fun vs H Q _ => ∃ (a : Addr) (ns : List Int) (k : Int), vs = [.ref a, .int k] ∧ SqL K H a (ns.map V.int) ∧ ns.length ≤ 1000 ∧ 0 ≤ k ∧ ∀ c, Q (.int c) H
theorem ok_cell (T : Txt mg) (F : At K mg "_law_cell" s__law_cell ["script", "k"]) : Dn P w K mg base CX0 1 "_law_cell" ["script", "k"] (spCell K) := by
  refine F.ok sc__law_cell (fun vs H Q E h => ?_) (fun f cdv A outer s H vs Q E hr h => ?_)
  · obtain ⟨a, ns, k, rfl, _⟩ := h
    rfl
  · obtain ⟨a, ns, k, rfl, hS, hl, k0, q⟩ := h
    refine ⟨_, (pss_cons (ps_if (pt_cmpR op_lt (pv 1) (pe_callB (r := rLen K) call_len (by rfl) T.n_len (by decide +kernel) (pa_cons (pv 0) pa_nil)) (nomark _)) (pss_one (ps_ret (pe_ix (r := rIxL K) ix_list (pv 0) (pv 1) (fun _ _ => rfl)))) pss_nil)
  (pss_one (ps_ret pe_int))), ?_⟩
    refine ⟨_, rfl, _, rfl, _, _, rfl, .inl ⟨_, hS, rfl⟩, _, _, rfl, rfl, _, rfl, iteD (fun hk => ?_) fun _ => q _⟩
    obtain ⟨z, _, _, hz⟩ := at_ints (ns := ns) (k := k) k0 (by rw [List.length_map] at hk; exact hk)
    exact ⟨_, rfl, _, rfl, _, _, _, _, rfl, rfl, hS, hz, q _⟩
def spSource : Sp := fun vs H Q _ => ∃ (c k : Int), vs = [.int c, .int k] ∧ 0 ≤ k ∧ k ≤ 1000 ∧ ∀ p x y, H p = none → 0 ≤ x → 0 ≤ y → y < 2 ^ 210 → Q (.ref p) (upd H p (.lst [.int x, .int y, .int 0]))
theorem ok_source (T : Txt mg) (F : At K mg "_law_source" s__law_source ["cell", "place"]) : Dn P w K mg base CX0 1 "_law_source" ["cell", "place"] spSource := by
  refine F.ok sc__law_source (fun vs H Q E h => ?_) (fun f cdv A outer s H vs Q E hr h => ?_)
  · obtain ⟨c, k, rfl, _⟩ := h
    rfl
  · obtain ⟨c, k, rfl, k0, k1, q⟩ := h
    refine ⟨_, (pss_one (ps_ret (pe_lst (pa_cons (pe_callB (call_max2 rfl) (by rfl) T.n_max (by decide +kernel) (pa_cons pe_int (pa_cons (pe_op op_sub (pv 0) (pe_op op_pow pe_int pe_int)) pa_nil))) (pa_cons (pe_op op_add (pe_op op_mul (pe_op op_mod (pv 0) (pe_op op_add (pe_op op_pow pe_int pe_int) pe_int)) pe_int) (pv 1)) (pa_cons pe_int pa_nil)))))), ?_⟩
    have h1 : 0 ≤ c % (10 ^ (41 : Int).toNat + 9) := Int.emod_nonneg _ (by decide)
    have h2 : c % (10 ^ (41 : Int).toNat + 9) < 10 ^ (41 : Int).toNat + 9 := Int.emod_lt_of_pos _ (by decide)
    have h3 : ((10 : Int) ^ (41 : Int).toNat + 9) * 64 + 1000 < 2 ^ 210 := by decide
    refine ⟨_, rfl, _, _, rfl, rfl, ⟨by decide, by decide, by decide⟩, _, _, rfl, rfl, _, _, rfl, ?_⟩
    refine ⟨_, rfl, _, _, rfl, rfl, ⟨by decide, by decide, by decide⟩, _, _, rfl, rfl, _, _, rfl, rfl, (by show (0 : Int) < _; decide), _, _, rfl, rfl, .inr ⟨by decide, by decide⟩, _, rfl, _, _, rfl, rfl, by show 3 ≤ sizeLine; decide, fun p np => q p _ _ np ?_ ?_ ?_⟩
    · split <;> omega
    · omega
    · omega
/-- alike things that are no lists and tuples -/
def flatA : V → Bool
  | .non => true
  | .bl _ => true
  | .int _ => true
  | .str _ => true
  | _ => false
def spAlike1 : Sp := fun vs H Q _ => ∃ v, vs = [v, v] ∧ flatA v = true ∧ Q (.bl true) H
/-- lists, tuples of such ones -/
def spAlikeS (K : PySem.W.Frag) : Sp := fun vs H Q _ =>
  ∃ (a b : Addr) (xs : List V), vs = [.ref a, .ref b] ∧ ((SqL K H a xs ∧ SqL K H b xs) ∨ (SqT K H a xs ∧ SqT K H b xs)) ∧ xs.length ≤ 100000 ∧ (∀ x ∈ xs, flatA x = true) ∧ ∀ H', Same H H' → Q (.bl true) H'
def spAlike (K : PySem.W.Frag) : Sp := fun vs H Q E => spAlike1 vs H Q E ∨ spAlikeS K vs H Q E
theorem ty_flat {K : PySem.W.Frag} {H : Hp} {v : V} (h : flatA v = true) : ∃ n, Ty K H v n := by
  cases v with
  | non => exact ⟨_, .non⟩
  | bl b => exact ⟨_, .bl b⟩
  | int i => exact ⟨_, .int i⟩
  | str s => exact ⟨_, .str s⟩
  | _ => cases h
theorem bl_eq {Q : VK} {H : Hp} {x : V} (q : Q (.bl true) H) : Q (.bl (decide (x = x))) H := by
  rw [decide_eq_true rfl]; exact q
theorem ok_alike1 (T : Txt mg) (F : At K mg "_law_alike" s__law_alike ["found", "due"]) : Dn P w K mg base CX0 1 "_law_alike" ["found", "due"] spAlike1 := by
  have D__law_alike : Dn P w K mg base CX0 0 "_law_alike" ["found", "due"] (fun _ _ _ _ => False) := F.none 0
  refine F.ok sc__law_alike (fun vs H Q E h => ?_) (fun f cdv A outer s H vs Q E hr h => ?_)
  · obtain ⟨v, rfl, _⟩ := h
    rfl
  · obtain ⟨v, rfl, hv, q⟩ := h
    refine ⟨_, (pss_cons (ps_if (pt_cmpR op_isN (pv 1) pe_non (nomark _)) (pss_one (ps_ret (pe_cmpR op_isN (pv 0) pe_non (nomark _)))) pss_nil)
  (pss_cons (ps_if (pt_val (pe_callB (r := rIsi K) call_isi (by rfl) T.n_isinstance (by decide +kernel) (pa_cons (pv 1) (pa_cons (pe_bltn (v := .ty "bool") (u := .type "bool") (by rfl) T.n_bool (by decide +kernel) (by exact rfl)) pa_nil)))) (pss_one (ps_ret (pe_and (pe_callB (r := rIsi K) call_isi (by rfl) T.n_isinstance (by decide +kernel) (pa_cons (pv 0) (pa_cons (pe_bltn (v := .ty "bool") (u := .type "bool") (by rfl) T.n_bool (by decide +kernel) (by exact rfl)) pa_nil))) (pe_one (pe_cmpR op_eq (pv 0) (pv 1) (nomark _)))))) pss_nil)
  (pss_cons (ps_if (pt_val (pe_callB (r := rIsi K) call_isi (by rfl) T.n_isinstance (by decide +kernel) (pa_cons (pv 1) (pa_cons (pe_bltn (v := .ty "int") (u := .type "int") (by rfl) T.n_int (by decide +kernel) (by exact rfl)) pa_nil)))) (pss_one (ps_ret (pe_and (pe_callB (r := rIsi K) call_isi (by rfl) T.n_isinstance (by decide +kernel) (pa_cons (pv 0) (pa_cons (pe_bltn (v := .ty "int") (u := .type "int") (by rfl) T.n_int (by decide +kernel) (by exact rfl)) pa_nil))) (pe_and (pe_not (pe_callB (r := rIsi K) call_isi (by rfl) T.n_isinstance (by decide +kernel) (pa_cons (pv 0) (pa_cons (pe_bltn (v := .ty "bool") (u := .type "bool") (by rfl) T.n_bool (by decide +kernel) (by exact rfl)) pa_nil)))) (pe_one (pe_cmpR op_eq (pv 0) (pv 1) (nomark _))))))) pss_nil)
  (pss_cons (ps_if (pt_val (pe_callB (r := rIsi K) call_isi (by rfl) T.n_isinstance (by decide +kernel) (pa_cons (pv 1) (pa_cons (pe_bltn (v := .ty "str") (u := .type "str") (by rfl) T.n_str (by decide +kernel) (by exact rfl)) pa_nil)))) (pss_one (ps_ret (pe_and (pe_callB (r := rIsi K) call_isi (by rfl) T.n_isinstance (by decide +kernel) (pa_cons (pv 0) (pa_cons (pe_bltn (v := .ty "str") (u := .type "str") (by rfl) T.n_str (by decide +kernel) (by exact rfl)) pa_nil))) (pe_one (pe_cmpR op_eq (pv 0) (pv 1) (nomark _)))))) pss_nil)
  (pss_cons (ps_if (PW.pt (pw_or (pt_cmpR op_ne (pe_callB (r := rIsi K) call_isi (by rfl) T.n_isinstance (by decide +kernel) (pa_cons (pv 1) (pa_cons (pe_bltn (v := .ty "tuple") (u := .type "tuple") (by rfl) T.n_tuple (by decide +kernel) (by exact rfl)) pa_nil))) (pe_callB (r := rIsi K) call_isi (by rfl) T.n_isinstance (by decide +kernel) (pa_cons (pv 0) (pa_cons (pe_bltn (v := .ty "tuple") (u := .type "tuple") (by rfl) T.n_tuple (by decide +kernel) (by exact rfl)) pa_nil))) (nomark _)) (pw_or1 (pt_cmpR op_ne (pe_callB (r := rIsi K) call_isi (by rfl) T.n_isinstance (by decide +kernel) (pa_cons (pv 1) (pa_cons (pe_bltn (v := .ty "list") (u := .type "list") (by rfl) T.n_list (by decide +kernel) (by exact rfl)) pa_nil))) (pe_callB (r := rIsi K) call_isi (by rfl) T.n_isinstance (by decide +kernel) (pa_cons (pv 0) (pa_cons (pe_bltn (v := .ty "list") (u := .type "list") (by rfl) T.n_list (by decide +kernel) (by exact rfl)) pa_nil))) (nomark _))))) (pss_one (ps_ret pe_bl)) pss_nil)
  (pss_one (ps_ret (pe_and (pe_cmpR op_eq (pe_callB (r := rLen K) call_len (by rfl) T.n_len (by decide +kernel) (pa_cons (pv 0) pa_nil)) (pe_callB (r := rLen K) call_len (by rfl) T.n_len (by decide +kernel) (pa_cons (pv 1) pa_nil)) (nomark _)) (pe_one (pe_callB (r := rAll K) (cr_all rfl) (by rfl) T.n_all (by decide +kernel) (pa_cons (pe_lc (own := [("one", 2), ("other", 3)]) (g := (gTup K 2 (gCons (gName 2) (gCons (gName 3) gNil)))) (by rfl) sc__law_alike.nd (RZ.pi_zipA (by rfl) T.n_zip (pa_cons (pv 0) (pa_cons (pv 1) pa_nil))) (blkOk_by (own := [("one", 2), ("other", 3)]) (N := ["found", "due", "one", "other"]) (sc := defScope s__law_alike) (by decide +kernel)) (fun _ _ _ _ _ => (pg_tup rfl (pgs_cons (pg_name (i := 2) sc__law_alike.nd rfl (Or.inl rfl) (Or.inr rfl)) (pgs_cons (pg_name (i := 3) sc__law_alike.nd rfl (Or.inl rfl) (Or.inr rfl)) pgs_nil)))) (fun _ _ _ _ _ => pts_nil) (fun _ _ _ _ _ => (pe_callD D__law_alike (by first | exact hr | exact hr.mono (by decide)) (pa_cons (pv 2) (pa_cons (pv 3) pa_nil))))) pa_nil))))))))))), ?_⟩
    cases v with
    | non => exact ⟨_, rfl, rfl, _, rfl, _, rfl, rfl, q⟩
    | bl b =>
      have ty : Ty K H (.bl b) "bool" := .bl b
      refine ⟨_, rfl, rfl, _, rfl, _, rfl, _, _, _, _, _, rfl, .ty "bool", ty.x, ty.kit "bool", _, rfl, ?_⟩
      exact ⟨_, rfl, _, _, _, _, _, rfl, .ty "bool", ty.x, ty.kit "bool", _, rfl, _, rfl, _, rfl, rfl, bl_eq q⟩
    | int i =>
      have ty : Ty K H (.int i) "int" := .int i
      refine ⟨_, rfl, rfl, _, rfl, _, rfl, _, _, _, _, _, rfl, .ty "bool", ty.x, ty.kit "bool", _, rfl, ?_⟩
      refine ⟨_, rfl, _, _, _, _, _, rfl, .ty "int", ty.x, ty.kit "int", _, rfl, ?_⟩
      exact ⟨_, rfl, _, _, _, _, _, rfl, .ty "int", ty.x, ty.kit "int", _, rfl, _, rfl, _, _, _, _, _, rfl, .ty "bool", ty.x, ty.kit "bool", _, rfl, _, rfl, _, rfl, _, rfl, rfl, bl_eq q⟩
    | str z =>
      have ty : Ty K H (.str z) "str" := .str z
      refine ⟨_, rfl, rfl, _, rfl, _, rfl, _, _, _, _, _, rfl, .ty "bool", ty.x, ty.kit "bool", _, rfl, ?_⟩
      refine ⟨_, rfl, _, _, _, _, _, rfl, .ty "int", ty.x, ty.kit "int", _, rfl, ?_⟩
      refine ⟨_, rfl, _, _, _, _, _, rfl, .ty "str", ty.x, ty.kit "str", _, rfl, ?_⟩
      exact ⟨_, rfl, _, _, _, _, _, rfl, .ty "str", ty.x, ty.kit "str", _, rfl, _, rfl, _, rfl, rfl, bl_eq q⟩
    | byt b => cases hv
    | flt b => cases hv
    | ref a => cases hv
    | ty n => cases hv
theorem ok_alikeS (T : Txt mg) (D__law_alike : Dn P w K mg base CX0 1 "_law_alike" ["found", "due"] spAlike1) (F : At K mg "_law_alike" s__law_alike ["found", "due"]) : Dn P w K mg base CX0 2 "_law_alike" ["found", "due"] (spAlikeS K) := by
  refine F.ok sc__law_alike (fun vs H Q E h => ?_) (fun f cdv A outer s H vs Q E hr h => ?_)
  · obtain ⟨a, b, xs, rfl, _⟩ := h
    rfl
  · obtain ⟨a, b, xs, rfl, hab, hl, hx, q⟩ := h
    refine ⟨_, (pss_cons (ps_if (pt_cmpR op_isN (pv 1) pe_non (nomark _)) (pss_one (ps_ret (pe_cmpR op_isN (pv 0) pe_non (nomark _)))) pss_nil)
  (pss_cons (ps_if (pt_val (pe_callB (r := rIsi K) call_isi (by rfl) T.n_isinstance (by decide +kernel) (pa_cons (pv 1) (pa_cons (pe_bltn (v := .ty "bool") (u := .type "bool") (by rfl) T.n_bool (by decide +kernel) (by exact rfl)) pa_nil)))) (pss_one (ps_ret (pe_and (pe_callB (r := rIsi K) call_isi (by rfl) T.n_isinstance (by decide +kernel) (pa_cons (pv 0) (pa_cons (pe_bltn (v := .ty "bool") (u := .type "bool") (by rfl) T.n_bool (by decide +kernel) (by exact rfl)) pa_nil))) (pe_one (pe_cmpR op_eq (pv 0) (pv 1) (nomark _)))))) pss_nil)
  (pss_cons (ps_if (pt_val (pe_callB (r := rIsi K) call_isi (by rfl) T.n_isinstance (by decide +kernel) (pa_cons (pv 1) (pa_cons (pe_bltn (v := .ty "int") (u := .type "int") (by rfl) T.n_int (by decide +kernel) (by exact rfl)) pa_nil)))) (pss_one (ps_ret (pe_and (pe_callB (r := rIsi K) call_isi (by rfl) T.n_isinstance (by decide +kernel) (pa_cons (pv 0) (pa_cons (pe_bltn (v := .ty "int") (u := .type "int") (by rfl) T.n_int (by decide +kernel) (by exact rfl)) pa_nil))) (pe_and (pe_not (pe_callB (r := rIsi K) call_isi (by rfl) T.n_isinstance (by decide +kernel) (pa_cons (pv 0) (pa_cons (pe_bltn (v := .ty "bool") (u := .type "bool") (by rfl) T.n_bool (by decide +kernel) (by exact rfl)) pa_nil)))) (pe_one (pe_cmpR op_eq (pv 0) (pv 1) (nomark _))))))) pss_nil)
  (pss_cons (ps_if (pt_val (pe_callB (r := rIsi K) call_isi (by rfl) T.n_isinstance (by decide +kernel) (pa_cons (pv 1) (pa_cons (pe_bltn (v := .ty "str") (u := .type "str") (by rfl) T.n_str (by decide +kernel) (by exact rfl)) pa_nil)))) (pss_one (ps_ret (pe_and (pe_callB (r := rIsi K) call_isi (by rfl) T.n_isinstance (by decide +kernel) (pa_cons (pv 0) (pa_cons (pe_bltn (v := .ty "str") (u := .type "str") (by rfl) T.n_str (by decide +kernel) (by exact rfl)) pa_nil))) (pe_one (pe_cmpR op_eq (pv 0) (pv 1) (nomark _)))))) pss_nil)
  (pss_cons (ps_if (PW.pt (pw_or (pt_cmpR op_ne (pe_callB (r := rIsi K) call_isi (by rfl) T.n_isinstance (by decide +kernel) (pa_cons (pv 1) (pa_cons (pe_bltn (v := .ty "tuple") (u := .type "tuple") (by rfl) T.n_tuple (by decide +kernel) (by exact rfl)) pa_nil))) (pe_callB (r := rIsi K) call_isi (by rfl) T.n_isinstance (by decide +kernel) (pa_cons (pv 0) (pa_cons (pe_bltn (v := .ty "tuple") (u := .type "tuple") (by rfl) T.n_tuple (by decide +kernel) (by exact rfl)) pa_nil))) (nomark _)) (pw_or1 (pt_cmpR op_ne (pe_callB (r := rIsi K) call_isi (by rfl) T.n_isinstance (by decide +kernel) (pa_cons (pv 1) (pa_cons (pe_bltn (v := .ty "list") (u := .type "list") (by rfl) T.n_list (by decide +kernel) (by exact rfl)) pa_nil))) (pe_callB (r := rIsi K) call_isi (by rfl) T.n_isinstance (by decide +kernel) (pa_cons (pv 0) (pa_cons (pe_bltn (v := .ty "list") (u := .type "list") (by rfl) T.n_list (by decide +kernel) (by exact rfl)) pa_nil))) (nomark _))))) (pss_one (ps_ret pe_bl)) pss_nil)
  (pss_one (ps_ret (pe_and (pe_cmpR op_eq (pe_callB (r := rLen K) call_len (by rfl) T.n_len (by decide +kernel) (pa_cons (pv 0) pa_nil)) (pe_callB (r := rLen K) call_len (by rfl) T.n_len (by decide +kernel) (pa_cons (pv 1) pa_nil)) (nomark _)) (pe_one (pe_callB (r := rAll K) (cr_all rfl) (by rfl) T.n_all (by decide +kernel) (pa_cons (pe_lc (own := [("one", 2), ("other", 3)]) (g := (gTup K 2 (gCons (gName 2) (gCons (gName 3) gNil)))) (by rfl) sc__law_alike.nd (RZ.pi_zipA (by rfl) T.n_zip (pa_cons (pv 0) (pa_cons (pv 1) pa_nil))) (blkOk_by (own := [("one", 2), ("other", 3)]) (N := ["found", "due", "one", "other"]) (sc := defScope s__law_alike) (by decide +kernel)) (fun _ _ _ _ _ => (pg_tup rfl (pgs_cons (pg_name (i := 2) sc__law_alike.nd rfl (Or.inl rfl) (Or.inr rfl)) (pgs_cons (pg_name (i := 3) sc__law_alike.nd rfl (Or.inl rfl) (Or.inr rfl)) pgs_nil)))) (fun _ _ _ _ _ => pts_nil) (fun _ _ _ _ _ => (pe_callD D__law_alike (by first | exact hr | exact hr.mono (by decide)) (pa_cons (pv 2) (pa_cons (pv 3) pa_nil))))) pa_nil))))))))))), ?_⟩
    obtain ⟨n, hn, ta, tb⟩ : ∃ n, (n = "list" ∨ n = "tuple") ∧ Ty K H (.ref a) n ∧ Ty K H (.ref b) n := by
      rcases hab with ⟨ha, hb⟩ | ⟨ha, hb⟩
      · exact ⟨_, .inl rfl, .lst ha, .lst hb⟩
      · exact ⟨_, .inr rfl, .tup ha, .tup hb⟩
    have n1 : (n == "bool" || (n == "bool" && "bool" == "int")) = false := by rcases hn with rfl | rfl <;> rfl
    have n2 : (n == "int" || (n == "bool" && "int" == "int")) = false := by rcases hn with rfl | rfl <;> rfl
    have n3 : (n == "str" || (n == "bool" && "str" == "int")) = false := by rcases hn with rfl | rfl <;> rfl
    refine ⟨_, rfl, rfl, _, rfl, _, rfl, _, _, _, _, _, rfl, .ty "bool", tb.x, tb.kit "bool", ?_⟩
    rw [n1]
    refine ⟨_, rfl, _, rfl, _, _, _, _, _, rfl, .ty "int", tb.x, tb.kit "int", ?_⟩
    rw [n2]
    refine ⟨_, rfl, _, rfl, _, _, _, _, _, rfl, .ty "str", tb.x, tb.kit "str", ?_⟩
    rw [n3]
    refine ⟨_, rfl, _, rfl, _, _, _, _, _, rfl, .ty "tuple", tb.x, tb.kit "tuple", _, rfl, _, _, _, _, _, rfl, .ty "tuple", ta.x, ta.kit "tuple", rfl, ?_⟩
    refine ⟨_, rfl, iteDn (fun h => absurd rfl h) fun _ => ?_⟩
    refine ⟨_, rfl, _, _, _, _, _, rfl, .ty "list", tb.x, tb.kit "list", _, rfl, _, _, _, _, _, rfl, .ty "list", ta.x, ta.kit "list", rfl, ?_⟩
    refine ⟨_, rfl, iteDn (fun h => absurd rfl h) fun _ => ?_⟩
    have la : LenV K (.ref a) H xs.length := by
      rcases hab with ⟨ha, _⟩ | ⟨ha, _⟩
      · exact .inl ⟨_, ha, rfl⟩
      · exact .inr ⟨_, ha, rfl⟩
    have lb : LenV K (.ref b) H xs.length := by
      rcases hab with ⟨_, hb⟩ | ⟨_, hb⟩
      · exact .inl ⟨_, hb, rfl⟩
      · exact .inr ⟨_, hb, rfl⟩
    refine ⟨_, rfl, _, _, rfl, la, _, rfl, _, _, rfl, lb, rfl, _, rfl, iteI (fun _ => ?_) fun h => absurd rfl h⟩
    have step : ∀ (i : Nat) (x : V) (H1 H2 : Hp), i < min xs.length xs.length → YPair (fun i => xs[i]?) (fun i => xs[i]?) i H1 x H2 → ∃ t v, x = .ref t ∧ H1 t = none ∧ H2 = upd H1 t (.tup [v, v]) ∧ flatA v = true := by
      intro i x H1 H2 hi y
      obtain ⟨t, x1, x2, rfl, nt, rfl, e1, e2⟩ := y
      rw [e1] at e2
      cases e2
      exact ⟨t, x1, rfl, nt, rfl, hx _ (List.mem_of_getElem? e1)⟩
    have all : ((List.range (min xs.length xs.length)).map fun _ => true).all id = true := by
      rw [List.all_map, List.all_eq_true]
      intro x _
      rfl
    rcases hab with ⟨ha, hb⟩ | ⟨ha, hb⟩
    · refine ⟨_, rfl, _, rfl, _, _, _, _, rfl, .inl ⟨ha, hb, fun D nD => lc_bools (walk_zip rfl) (fun _ => true) nD (small1000' (by omega)) (fun H s => ⟨s.seq ha, s.seq hb⟩) ?_ ?_⟩⟩
      · intro i x H4 H5 R R' hi s4 y k4
        obtain ⟨t, v, rfl, nt, rfl, fv⟩ := step i x H4 H5 hi y
        exact ⟨_, _, rfl, SqT.of upd_same, rfl, _, _, rfl, _, _, rfl, rfl, rfl, _, rfl, _, rfl, v, rfl, fv, k4 _ (Same.new nt)⟩
      · intro H4 s4 e4
        refine ⟨_, _, rfl, SqL.of e4, ?_⟩
        rw [all]
        exact q _ s4
    · refine ⟨_, rfl, _, rfl, _, _, _, _, rfl, .inr ⟨ha, hb, fun D nD => lc_bools (walk_zipT rfl) (fun _ => true) nD (small1000' (by omega)) (fun H s => ⟨Same.sqt s ha, Same.sqt s hb⟩) ?_ ?_⟩⟩
      · intro i x H4 H5 R R' hi s4 y k4
        obtain ⟨t, v, rfl, nt, rfl, fv⟩ := step i x H4 H5 hi y
        exact ⟨_, _, rfl, SqT.of upd_same, rfl, _, _, rfl, _, _, rfl, rfl, rfl, _, rfl, _, rfl, v, rfl, fv, k4 _ (Same.new nt)⟩
      · intro H4 s4 e4
        refine ⟨_, _, rfl, SqL.of e4, ?_⟩
        rw [all]
        exact q _ s4
/-- the law's own card -/
def spLawMade (K : PySem.W.Frag) : Sp := fun vs H Q _ => ∃ (t pl : Int) (a : Addr) (cs : List Int), vs = [.int t, .int pl, .ref a] ∧ SqL K H a (cs.map V.int) ∧ cs.length ≤ 10000 ∧ (∀ c ∈ cs, -(2 ^ 64) < c ∧ c < 2 ^ 64) ∧ ∀ p H', Same H H' → H' p = some (.tup ((cardOf t pl cs).map V.int)) → Q (.ref p) H'
theorem ok_law_made (T : Txt mg) (F : At K mg "_law_made" s__law_made ["ticket", "place", "cells"]) : Dn P w K mg base CX0 1 "_law_made" ["ticket", "place", "cells"]
    (spLawMade K) := by
  refine F.ok sc__law_made (fun vs H Q E h => ?_) (fun f cdv A outer s H vs Q E hr h => ?_)
  · obtain ⟨t, pl, a, cs, rfl, _⟩ := h
    rfl
  · obtain ⟨t, pl, a, cs, rfl, ha, hl, hb, q⟩ := h
    refine ⟨_, (pss_cons (ps_set (i := 3) sc__law_made.nd rfl (by first | exact Or.inl rfl | exact Or.inr rfl) (pe_op op_mod (pe_callB (r := rSum K) (cr_sum rfl) (by rfl) T.n_sum (by decide +kernel) (pa_cons (pv 2) pa_nil)) pe_int))
  (pss_cons (ps_set (i := 5) sc__law_made.nd rfl (by first | exact Or.inl rfl | exact Or.inr rfl) (pe_op op_mod (pe_callB (r := rSum K) (cr_sum rfl) (by rfl) T.n_sum (by decide +kernel) (pa_cons (pe_lc (own := [("i", 4)]) (g := (gName 4)) (by rfl) sc__law_made.nd (pi_range1 (by rfl) T.n_range (pa_cons (pe_callB (r := rLen K) call_len (by rfl) T.n_len (by decide +kernel) (pa_cons (pv 2) pa_nil)) pa_nil)) (blkOk_by (own := [("i", 4)]) (N := ["ticket", "place", "cells", "one", "i", "two"]) (sc := defScope s__law_made) (by decide +kernel)) (fun _ _ _ _ _ => (pg_name (i := 4) sc__law_made.nd rfl (Or.inl rfl) (Or.inr rfl))) (fun _ _ _ _ _ => pts_nil) (fun _ _ _ _ _ => (pe_op op_mul (pe_op op_add (pv 4) pe_int) (pe_ix (r := rIxL K) ix_list (pv 2) (pv 4) (fun _ _ => rfl))))) pa_nil)) pe_int))
  (pss_one (ps_ret (pe_op (r := rCatA K) op_catA (pe_op (r := rCatA K) op_catA (pe_tup (pa_cons (pe_op op_add pe_int (pe_callB (r := rLen K) call_len (by rfl) T.n_len (by decide +kernel) (pa_cons (pv 2) pa_nil))) (pa_cons (pv 0) (pa_cons (pv 1) pa_nil)))) (pe_callTy call_tuple_of (by rfl) T.n_tuple (by decide +kernel) (pa_cons (pv 2) pa_nil))) (pe_tup (pa_cons (pv 3) (pa_cons (pv 5) pa_nil)))))))), ?_⟩
    refine ⟨_, rfl, _, cs, rfl, ha, _, _, rfl, rfl, (by show (0 : Int) < 97; decide), ?_⟩
    refine ⟨_, rfl, _, _, rfl, .inl ⟨_, ha, rfl⟩, _, rfl, by omega, by rw [List.length_map]; omega, fun D nD => ?_⟩
    rw [Int.toNat_natCast, List.length_map]
    refine lc_ints walk_range (fun i => (1 + (i : Int)) * cs.getD i default) nD (small1000' (by omega)) (fun _ _ => trivial) ?_ ?_
    · intro i x H4 H5 R R' hi s4 y k4
      obtain ⟨rfl, rfl⟩ := y
      obtain ⟨z, hz1, hz2, hz3⟩ := at_ints (ns := cs) (k := 0 + (i : Int)) (by omega) (by omega)
      have e : z = cs.getD i default := by
        rw [show (0 + (i : Int)).toNat = i by omega] at hz2
        simp [List.getD, hz2]
      refine ⟨rfl, _, rfl, _, _, rfl, rfl, _, rfl, _, rfl, _, _, _, _, rfl, rfl, s4.seq ha, hz3, _, _, rfl, rfl, .inr (hb z hz1), ?_⟩
      rw [e, show (0 : Int) + i + 1 = 1 + i by omega]
      exact k4 _ (Same.refl _)
    · intro H4 s4 e4
      have ed : ((List.range cs.length).map fun (i : Nat) => (1 + (i : Int)) * cs.getD i default).sum = dot (upTo cs.length) cs := by
        unfold dot
        rw [← zip_range]
        congr 1
        have hu : (upTo cs.length).length = cs.length := by unfold upTo; rw [List.length_map, List.length_range]
        rw [hu, Nat.min_self]
        apply List.map_congr_left
        intro i hi
        have := List.mem_range.mp hi
        unfold upTo
        simp [List.getD, this]
      refine ⟨_, _, rfl, SqL.of e4, _, _, rfl, rfl, (by show (0 : Int) < 97; decide), ?_⟩
      rw [ed]
      refine ⟨_, rfl, _, _, rfl, .inl ⟨_, s4.seq ha, rfl⟩, _, _, rfl, rfl, _, rfl, _, rfl, by show 3 ≤ sizeLine; decide, fun u nu => ?_⟩
      refine ⟨_, rfl, _, _, rfl, .inl ⟨(Same.trans s4 (Same.new nu)).seq ha, fun v nv => ?_⟩⟩
      have s5 := Same.trans (Same.trans s4 (Same.new (o := .tup [.int (5 + ((cs.map V.int).length : Nat)), .int t, .int pl]) nu)) (Same.new (o := .tup (cs.map V.int)) nv)
      refine ⟨_, _, _, _, rfl, rfl, SqT.of (old upd_same nv), SqT.of upd_same, ?_, fun z => (by cases z), fun _ ye => ?_, fun _ yn m nm => ?_⟩
      · simp only [List.length_cons, List.length_map, List.length_nil]
        exact small1000' (by omega)
      · obtain rfl : cs = [] := List.map_eq_nil_iff.mp ye
        refine ⟨_, rfl, _, rfl, by show 2 ≤ sizeLine; decide, fun x nx => ?_⟩
        refine ⟨_, _, _, _, rfl, rfl, SqT.of (old (old upd_same nv) nx), SqT.of upd_same, ?_, fun z => (by cases z), fun _ z => (by cases z), fun _ _ r nr => ?_⟩
        · simp only [List.length_cons, List.length_append, List.length_map, List.length_nil]
          exact small1000' (by omega)
        · refine q r _ (Same.trans (Same.trans s5 (Same.new nx)) (Same.new nr)) ?_
          rw [upd_same, List.length_map]
          unfold cardOf sum0 sum1
          simp only [List.map_cons, List.map_append, List.map_nil, List.cons_append, List.nil_append, List.append_assoc]
      · have s6 := Same.trans s5 (Same.new (o := .tup ([.int (5 + ((cs.map V.int).length : Nat)), .int t, .int pl] ++ cs.map V.int)) nm)
        refine ⟨_, rfl, _, rfl, by show 2 ≤ sizeLine; decide, fun x nx => ?_⟩
        refine ⟨_, _, _, _, rfl, rfl, SqT.of (old upd_same nx), SqT.of upd_same, ?_, fun z => (by cases z), fun _ z => (by cases z), fun _ _ r nr => ?_⟩
        · simp only [List.length_cons, List.length_append, List.length_map, List.length_nil]
          exact small1000' (by omega)
        · refine q r _ (Same.trans (Same.trans s6 (Same.new nx)) (Same.new nr)) ?_
          rw [upd_same, List.length_map]
          unfold cardOf sum0 sum1
          simp only [List.map_cons, List.map_append, List.map_nil, List.cons_append, List.nil_append, List.append_assoc]

def spSomeKey : Sp := fun vs H Q _ => ∃ (p : Addr) (c : Int), vs = [.ref p] ∧ Purse H p c ∧ c ≤ 90000 ∧ ∀ r t pl H', Purse H' p (c + 10) → Kp p H H' → H' r = some (.tup [.int t, .int pl]) → r ≠ p → Q (.ref r) H'
theorem ok_some_key (T : Txt mg) (D__law_pick : Dn P w K mg base CX0 1 "_law_pick" ["urn", "many"] spDrawn) (F : At K mg "_law_some_key" s__law_some_key ["urn"]) : Dn P w K mg base CX0 2 "_law_some_key" ["urn"]
    spSomeKey := by
  refine F.ok sc__law_some_key (fun vs H Q E h => ?_) (fun f cdv A outer s H vs Q E hr h => ?_)
  · obtain ⟨p, c, rfl, _⟩ := h
    rfl
  · obtain ⟨p, c, rfl, hp, hc, q⟩ := h
    refine ⟨_, (pss_cons (ps_set (i := 1) sc__law_some_key.nd rfl (by first | exact Or.inl rfl | exact Or.inr rfl) (pe_callD D__law_pick (by first | exact hr | exact hr.mono (by decide)) (pa_cons (pv 0) (pa_cons pe_int pa_nil))))
  (pss_cons (ps_set (i := 2) sc__law_some_key.nd rfl (by first | exact Or.inl rfl | exact Or.inr rfl) (pe_ix (r := rIxL K) ix_list (pe_lst (pa_cons pe_int (pa_cons pe_int (pa_cons (pe_op op_pow pe_int pe_int) pa_nil)))) (pv 1) (fun _ _ => rfl)))
  (pss_one (ps_ret (pe_tup (pa_cons (pe_op op_add pe_int (pe_callD D__law_pick (by first | exact hr | exact hr.mono (by decide)) (pa_cons (pv 0) (pa_cons (pv 2) pa_nil)))) (pa_cons (pe_callD D__law_pick (by first | exact hr | exact hr.mono (by decide)) (pa_cons (pv 0) (pa_cons (pe_ix (r := rIxL K) ix_list (pe_lst (pa_cons pe_int (pa_cons pe_int (pa_cons (pe_op op_pow pe_int pe_int) pa_nil)))) (pv 1) (fun _ _ => rfl)) pa_nil))) pa_nil))))))), ?_⟩
    refine ⟨_, rfl, p, c, 3, rfl, hp, by omega, by decide, by decide, fun v H1 v0 v1 hp1 k1 => ?_⟩
    refine ⟨_, _, rfl, rfl, ⟨by decide, by decide, by decide⟩, by show 3 ≤ sizeLine; decide, fun l nl => ?_⟩
    obtain ⟨wd, hwd, w0, w1⟩ : ∃ wd : Int, atI [V.int 3, V.int 60, V.int (10 ^ (40 : Int).toNat)] v = some (.int wd) ∧ 0 < wd ∧ wd < 2 ^ 200 := by
      rcases (by omega : v = 0 ∨ v = 1 ∨ v = 2) with rfl | rfl | rfl
      · exact ⟨3, rfl, by decide, by decide⟩
      · exact ⟨60, rfl, by decide, by decide⟩
      · exact ⟨10 ^ (40 : Int).toNat, rfl, by decide, by decide⟩
    refine ⟨_, rfl, _, _, _, _, rfl, rfl, SqL.of upd_same, hwd, ?_⟩
    refine ⟨_, rfl, _, rfl, p, c + 1, wd, rfl, hp1.same (Same.new nl), by omega, w0, w1, fun t H2 t0 t1 hp2 k2 => ?_⟩
    refine ⟨_, _, rfl, rfl, _, rfl, _, _, rfl, rfl, ⟨by decide, by decide, by decide⟩, by show 3 ≤ sizeLine; decide, fun m nm => ?_⟩
    obtain ⟨xd, hxd, x0, x1⟩ : ∃ wd : Int, atI [V.int 3, V.int 22, V.int (10 ^ (30 : Int).toNat)] v = some (.int wd) ∧ 0 < wd ∧ wd < 2 ^ 200 := by
      rcases (by omega : v = 0 ∨ v = 1 ∨ v = 2) with rfl | rfl | rfl
      · exact ⟨3, rfl, by decide, by decide⟩
      · exact ⟨22, rfl, by decide, by decide⟩
      · exact ⟨10 ^ (30 : Int).toNat, rfl, by decide, by decide⟩
    refine ⟨_, rfl, _, _, _, _, rfl, rfl, SqL.of upd_same, hxd, p, c + 2, xd, rfl, (hp2.same (Same.new nm)).mono (by omega), by omega, x0, x1, fun pl H3 p0 p1 hp3 k3 => ?_⟩
    refine ⟨by show 2 ≤ sizeLine; decide, fun r nr => ?_⟩
    exact q r _ _ _ ((hp3.same (Same.new nr)).mono (by omega)) (((((k1.trans (Kp.new nl)).trans k2).trans (Kp.new nm)).trans k3).trans (Kp.new nr)) upd_same (by
      obtain ⟨x, y, z, h1, _⟩ := hp3
      exact (ne_of_none h1 nr).symm)
theorem cells_card (t pl : Int) (cs : List Int) : cellsOf (cardOf t pl cs) = cs := by
  unfold cellsOf cardOf
  simp only [List.drop_succ_cons, List.drop_zero, List.length_cons, List.length_append, List.length_nil]
  rw [show cs.length + (0 + 1 + 1) + 1 + 1 + 1 - 5 = cs.length by omega, List.take_left']
  rfl
theorem look_card (t pl : Int) {cs : List Int} (h : ∀ x ∈ cs, 0 ≤ x ∧ x ≤ 96) : lookF (cardOf t pl cs) t pl = "whole" := by
  have e1 : (cardOf t pl cs).length = cs.length + 5 := by
    unfold cardOf
    simp only [List.length_cons, List.length_append, List.length_nil]
  unfold lookF
  rw [cells_card, e1, if_neg, if_neg, if_neg]
  · rintro (z | z)
    · unfold rightCells at z
      rw [List.all_eq_false] at z
      obtain ⟨x, hx, q⟩ := z
      obtain ⟨h1, h2⟩ := h x hx
      simp [h1, h2] at q
    · apply z
      unfold cardOf
      rw [show cs.length + 5 - 2 = cs.length + 3 by omega]
      simp
  · intro z
    apply z
    rfl
  · rintro (z | z)
    · omega
    · apply z
      unfold cardOf
      show ((cs.length + 5 : Nat) : Int) = 5 + (cs.length : Int)
      omega
def spSomeCells : Sp := fun vs H Q _ => ∃ (p : Addr) (c : Int), vs = [.ref p] ∧ Purse H p c ∧ c ≤ 90000 ∧ ∀ (r : Addr) (cs : List Int) (H' : Hp), Purse H' p (c + 100) → Kp p H H' → H' r = some (.lst (cs.map V.int)) → r ≠ p → H r = none → cs.length ≤ 60 → (∀ x ∈ cs, 0 ≤ x ∧ x ≤ 96) → Q (.ref r) H'
theorem ok_some_cells (T : Txt mg) (D__law_pick : Dn P w K mg base CX0 1 "_law_pick" ["urn", "many"] spDrawn) (F : At K mg "_law_some_cells" s__law_some_cells ["urn"]) : Dn P w K mg base CX0 2 "_law_some_cells" ["urn"]
    spSomeCells := by
  refine F.ok sc__law_some_cells (fun vs H Q E h => ?_) (fun f cdv A outer s H vs Q E hr h => ?_)
  · obtain ⟨p, c, rfl, _⟩ := h
    rfl
  · obtain ⟨p, c, rfl, hp, hc, q⟩ := h
    refine ⟨_, (pss_cons (ps_set (i := 1) sc__law_some_cells.nd rfl (by first | exact Or.inl rfl | exact Or.inr rfl) (pe_callD D__law_pick (by first | exact hr | exact hr.mono (by decide)) (pa_cons (pv 0) (pa_cons pe_int pa_nil))))
  (pss_cons (ps_set (i := 2) sc__law_some_cells.nd rfl (by first | exact Or.inl rfl | exact Or.inr rfl) (pe_ix (r := rIxL K) ix_list (pe_lst (pa_cons (pe_callD D__law_pick (by first | exact hr | exact hr.mono (by decide)) (pa_cons (pv 0) (pa_cons pe_int pa_nil))) (pa_cons (pe_callD D__law_pick (by first | exact hr | exact hr.mono (by decide)) (pa_cons (pv 0) (pa_cons pe_int pa_nil))) (pa_cons pe_int (pa_cons (pe_op op_add pe_int (pe_callD D__law_pick (by first | exact hr | exact hr.mono (by decide)) (pa_cons (pv 0) (pa_cons pe_int pa_nil)))) pa_nil))))) (pv 1) (fun _ _ => rfl)))
  (pss_cons (ps_set (i := 3) sc__law_some_cells.nd rfl (by first | exact Or.inl rfl | exact Or.inr rfl) (pe_ix (r := rIxL K) ix_list (pe_lst (pa_cons pe_int (pa_cons pe_int (pa_cons pe_int (pa_cons pe_int (pa_cons pe_int pa_nil)))))) (pe_callD D__law_pick (by first | exact hr | exact hr.mono (by decide)) (pa_cons (pv 0) (pa_cons pe_int pa_nil))) (fun _ _ => rfl)))
  (pss_one (ps_ret (pe_lc (own := [("k", 4)]) (g := (gName 4)) (by rfl) sc__law_some_cells.nd (pi_range1 (by rfl) T.n_range (pa_cons (pv 2) pa_nil)) (blkOk_by (own := [("k", 4)]) (N := ["urn", "way", "many", "wide", "k"]) (sc := defScope s__law_some_cells) (by decide +kernel)) (fun _ _ _ _ _ => (pg_name (i := 4) sc__law_some_cells.nd rfl (Or.inl rfl) (Or.inr rfl))) (fun _ _ _ _ _ => pts_nil) (fun _ _ _ _ _ => (pe_op op_sub pe_int (pe_callD D__law_pick (by first | exact hr | exact hr.mono (by decide)) (pa_cons (pv 0) (pa_cons (pv 3) pa_nil))))))))))), ?_⟩
    refine ⟨_, rfl, p, c, 4, rfl, hp, by omega, by decide, by decide, fun v H1 v0 v1 hp1 k1 => ?_⟩
    refine ⟨_, rfl, p, _, 5, rfl, hp1, by omega, by decide, by decide, fun a1 H2 a10 a11 hp2 k2 => ?_⟩
    refine ⟨_, rfl, p, _, 61, rfl, hp2, by omega, by decide, by decide, fun a2 H3 a20 a21 hp3 k3 => ?_⟩
    refine ⟨_, rfl, p, _, 9, rfl, hp3, by omega, by decide, by decide, fun a3 H4 a30 a31 hp4 k4 => ?_⟩
    refine ⟨_, _, rfl, rfl, by show 4 ≤ sizeLine; decide, fun l nl => ?_⟩
    obtain ⟨n, hn, n0, n1⟩ : ∃ n : Int, atI [V.int a1, V.int a2, V.int 60, V.int (1 + a3)] v = some (.int n) ∧ 0 ≤ n ∧ n ≤ 60 := by
      rcases (by omega : v = 0 ∨ v = 1 ∨ v = 2 ∨ v = 3) with rfl | rfl | rfl | rfl
      · exact ⟨_, rfl, by omega, by omega⟩
      · exact ⟨_, rfl, by omega, by omega⟩
      · exact ⟨_, rfl, by omega, by omega⟩
      · exact ⟨_, rfl, by omega, by omega⟩
    refine ⟨_, rfl, _, _, _, _, rfl, rfl, SqL.of upd_same, hn, by show 5 ≤ sizeLine; decide, fun m nm => ?_⟩
    refine ⟨_, rfl, p, _, 5, rfl, (hp4.same (Same.new nl)).same (Same.new nm), by omega, by decide, by decide, fun b H5 b0 b1 hp5 k5 => ?_⟩
    have kk := (((((k1.trans k2).trans k3).trans k4).trans (Kp.new (o := .lst [.int a1, .int a2, .int 60, .int (1 + a3)]) nl)).trans (Kp.new (o := .lst [.int 97, .int 97, .int 97, .int 2, .int 1]) nm)).trans k5
    have nmp : m ≠ p := by
      obtain ⟨x, y, z, h1, _⟩ := hp4.same (Same.new (o := .lst [.int a1, .int a2, .int 60, .int (1 + a3)]) nl)
      exact (ne_of_none h1 nm).symm
    obtain ⟨wd, hw, w0, w1⟩ : ∃ n : Int, atI [V.int 97, V.int 97, V.int 97, V.int 2, V.int 1] b = some (.int n) ∧ 0 < n ∧ n ≤ 97 := by
      rcases (by omega : b = 0 ∨ b = 1 ∨ b = 2 ∨ b = 3 ∨ b = 4) with rfl | rfl | rfl | rfl | rfl
      · exact ⟨_, rfl, by omega, by omega⟩
      · exact ⟨_, rfl, by omega, by omega⟩
      · exact ⟨_, rfl, by omega, by omega⟩
      · exact ⟨_, rfl, by omega, by omega⟩
      · exact ⟨_, rfl, by omega, by omega⟩
    refine ⟨_, _, _, _, rfl, rfl, SqL.of (k5 _ _ upd_same nmp), hw, _, rfl, _, rfl, by omega, by omega, fun D nD => ?_⟩
    have nDp : D ≠ p := by
      obtain ⟨x, y, z, h1, _⟩ := hp5
      exact (ne_of_none h1 nD).symm
    refine lc_it walk_range (fun i H' => ∃ cs : List Int, H' D = some (.lst (cs.map V.int)) ∧ cs.length = i ∧ i ≤ 60 ∧ (∀ x ∈ cs, 0 ≤ x ∧ x ≤ 96) ∧ Purse H' p (c + 10 + i) ∧ Kp p H5 H') ⟨[], upd_same, rfl, by omega, (fun _ z => nomatch z), (hp5.same (Same.new nD)).mono (by omega), Kp.new nD⟩ (fun _ _ _ _ => trivial) ?_ ?_
    · intro i x H6 H7 hi ⟨cs, e1, e2, e3, e4, e5, e6⟩ y
      obtain ⟨rfl, rfl⟩ := y
      refine ⟨rfl, _, rfl, _, rfl, p, _, wd, rfl, e5, by omega, w0, by omega, fun d H8 d0 d1 hp8 k8 => ?_⟩
      refine ⟨_, _, rfl, rfl, _, k8 _ _ e1 nDp, by rw [List.length_map]; exact small1000 (by omega), cs ++ [96 - d], ?_, by rw [List.length_append, e2]; rfl, by omega, ?_, ?_, ?_⟩
      · rw [upd_same, List.map_append]
        rfl
      · intro x hx
        rcases List.mem_append.mp hx with hx | hx
        · exact e4 x hx
        · rw [List.mem_singleton.mp hx]
          omega
      · obtain ⟨x, y, z, h1, h2, h3, h4, h5, h6⟩ := hp8
        exact ⟨x, y, z, by rw [upd_ne nDp.symm]; exact h1, h2, h3, h4, h5, by omega⟩
      · intro b o hb hbp
        rw [upd_ne (ne_of_none hb nD)]
        exact k8 _ _ (e6 _ _ hb hbp) hbp
    · intro H6 ⟨cs, e1, e2, e3, e4, e5, e6⟩
      refine q D cs H6 (e5.mono (by omega)) (kk.trans e6) e1 nDp ?_ (by omega) e4
      cases e : H D with
      | none => rfl
      | some o => rw [kk _ _ e nDp] at nD; cases nD
theorem cut_ints (c : List Int) (lo hi : Option Int) : ∃ d : List Int, cutV (c.map V.int) lo hi = d.map V.int ∧ d.length = min (HT.sIx c.length c.length hi - HT.sIx c.length 0 lo) (c.length - HT.sIx c.length 0 lo) := by
  refine ⟨(c.drop (HT.sIx c.length 0 lo)).take (HT.sIx c.length c.length hi - HT.sIx c.length 0 lo), ?_, ?_⟩
  · unfold cutV
    rw [List.length_map, List.map_take, List.map_drop]
  · rw [List.length_take, List.length_drop]
theorem cut_head (c : List Int) {k : Int} (hc : c ≠ []) (h : 1 ≤ k) : ∃ d : List Int, cutV (c.map V.int) none (some k) = d.map V.int ∧ d ≠ [] ∧ d.length ≤ c.length := by
  obtain ⟨d, e, l⟩ := cut_ints c none (some k)
  refine ⟨d, e, fun z => ?_, by omega⟩
  have hl : 0 < c.length := List.length_pos_iff.mpr hc
  rw [z] at l
  unfold HT.sIx at l
  simp only [List.length_nil] at l
  split at l <;> omega
theorem cut_some (c : List Int) (lo hi : Option Int) : ∃ d : List Int, cutV (c.map V.int) lo hi = d.map V.int ∧ d.length ≤ c.length := by
  obtain ⟨d, e, l⟩ := cut_ints c lo hi
  exact ⟨d, e, by omega⟩
def spBent (K : PySem.W.Frag) : Sp := fun vs H Q _ => ∃ (p a : Addr) (n : Int) (c : List Int), vs = [.ref p, .ref a] ∧ Purse H p n ∧ n ≤ 90000 ∧ SqT K H a (c.map V.int) ∧ c ≠ [] ∧ c.length ≤ 3000 ∧
  ∀ r (d : List Int) H', Purse H' p (n + 10) → Kp p H H' → SqT K H' r (d.map V.int) → d ≠ [] → d.length ≤ 3 * c.length + 1 → Q (.ref r) H'
theorem Kp.sqt {K : PySem.W.Frag} {H H' : Hp} {p a : Addr} {c : Int} {xs : List V} (k : Kp p H H') (h : Purse H p c) (s : SqT K H a xs) : SqT K H' a xs := by
  obtain ⟨x, y, z, hp, _⟩ := h
  rcases s with (s | ⟨o, s⟩) | s
  · exact .inl (.inl (k _ _ s (ne_of s hp (by intro q; cases q))))
  · exact .inl (.inr ⟨o, k _ _ s (ne_of s hp (by intro q; cases q))⟩)
  · exact .inr s
theorem ok_bent (T : Txt mg) (D__law_pick : Dn P w K mg base CX0 1 "_law_pick" ["urn", "many"] spDrawn) (F : At K mg "_law_bent" s__law_bent ["urn", "card"]) : Dn P w K mg base CX0 2 "_law_bent" ["urn", "card"] (spBent K) := by
  refine F.ok sc__law_bent (fun vs H Q E h => ?_) (fun f cdv A outer s H vs Q E hr h => ?_)
  · obtain ⟨p, a, n, c, rfl, _⟩ := h
    rfl
  · obtain ⟨p, a, n, c, rfl, hp, hn, ha, hc, hl, q⟩ := h
    have hpos : 0 < c.length := List.length_pos_iff.mpr hc
    refine ⟨_, (pss_cons (ps_set (i := 2) sc__law_bent.nd rfl (by first | exact Or.inl rfl | exact Or.inr rfl) (pe_callD D__law_pick (by first | exact hr | exact hr.mono (by decide)) (pa_cons (pv 0) (pa_cons pe_int pa_nil))))
  (pss_cons (ps_set (i := 3) sc__law_bent.nd rfl (by first | exact Or.inl rfl | exact Or.inr rfl) (pe_callD D__law_pick (by first | exact hr | exact hr.mono (by decide)) (pa_cons (pv 0) (pa_cons (pe_callB (r := rLen K) call_len (by rfl) T.n_len (by decide +kernel) (pa_cons (pv 1) pa_nil)) pa_nil))))
  (pss_cons (ps_set (i := 4) sc__law_bent.nd rfl (by first | exact Or.inl rfl | exact Or.inr rfl) (pe_ix (r := rIxL K) ix_list (pe_lst (pa_cons pe_int (pa_cons (pe_un un_neg pe_int) (pa_cons pe_int (pa_cons pe_int (pa_cons (pe_un un_neg pe_int) (pa_cons (pe_op op_add pe_int (pe_callD D__law_pick (by first | exact hr | exact hr.mono (by decide)) (pa_cons (pv 0) (pa_cons pe_int pa_nil)))) pa_nil))))))) (pe_callD D__law_pick (by first | exact hr | exact hr.mono (by decide)) (pa_cons (pv 0) (pa_cons pe_int pa_nil))) (fun _ _ => rfl)))
  (pss_cons (ps_if (pt_cmpR op_eq (pv 2) pe_int (nomark _)) (pss_one (ps_ret (pe_slice (r := rSlS K) sl_tupS (pv 1) po_none (po_some (pe_op op_add pe_int (pv 3)))))) pss_nil)
  (pss_cons (ps_if (pt_cmpR op_eq (pv 2) pe_int (nomark _)) (pss_one (ps_ret (pe_op (r := rCatS K) op_catS (pe_op (r := rCatS K) op_catS (pe_slice (r := rSlS K) sl_tupS (pv 1) po_none (po_some (pe_op op_add pe_int (pv 3)))) (pe_tup (pa_cons (pe_callD D__law_pick (by first | exact hr | exact hr.mono (by decide)) (pa_cons (pv 0) (pa_cons pe_int pa_nil))) pa_nil))) (pe_slice (r := rSlS K) sl_tupS (pv 1) (po_some (pe_op op_add pe_int (pv 3))) po_none)))) pss_nil)
  (pss_cons (ps_if (PW.pt (pw_and (pt_cmpR op_eq (pv 2) pe_int (nomark _)) (pw_and1 (pt_cmpR op_gt (pe_callB (r := rLen K) call_len (by rfl) T.n_len (by decide +kernel) (pa_cons (pv 1) pa_nil)) pe_int (nomark _))))) (pss_one (ps_ret (pe_op (r := rCatS K) op_catS (pe_slice (r := rSlS K) sl_tupS (pv 1) po_none (po_some (pe_callB (call_max2 rfl) (by rfl) T.n_max (by decide +kernel) (pa_cons pe_int (pa_cons (pv 3) pa_nil))))) (pe_slice (r := rSlS K) sl_tupS (pv 1) (po_some (pe_op op_add (pe_callB (call_max2 rfl) (by rfl) T.n_max (by decide +kernel) (pa_cons pe_int (pa_cons (pv 3) pa_nil))) pe_int)) po_none)))) pss_nil)
  (pss_cons (ps_if (pt_cmpR op_eq (pv 2) pe_int (nomark _)) (pss_one (ps_ret (pe_op (r := rCatS K) op_catS (pe_op (r := rCatS K) op_catS (pe_slice (r := rSlS K) sl_tupS (pv 1) po_none (po_some pe_int)) (pe_revT (pe_slice (r := rSlS K) sl_tupS (pv 1) (po_some pe_int) (po_some (pe_op op_sub (pe_callB (r := rLen K) call_len (by rfl) T.n_len (by decide +kernel) (pa_cons (pv 1) pa_nil)) pe_int))))) (pe_slice (r := rSlS K) sl_tupS (pv 1) (po_some (pe_callB (call_max2 rfl) (by rfl) T.n_max (by decide +kernel) (pa_cons pe_int (pa_cons (pe_op op_sub (pe_callB (r := rLen K) call_len (by rfl) T.n_len (by decide +kernel) (pa_cons (pv 1) pa_nil)) pe_int) pa_nil)))) po_none)))) pss_nil)
  (pss_cons (ps_if (pt_cmpR op_eq (pv 2) pe_int (nomark _)) (pss_one (ps_set (i := 3) sc__law_bent.nd rfl (by first | exact Or.inl rfl | exact Or.inr rfl) (pe_callD D__law_pick (by first | exact hr | exact hr.mono (by decide)) (pa_cons (pv 0) (pa_cons (pe_callB (call_min2 rfl) (by rfl) T.n_min (by decide +kernel) (pa_cons pe_int (pa_cons (pe_callB (r := rLen K) call_len (by rfl) T.n_len (by decide +kernel) (pa_cons (pv 1) pa_nil)) pa_nil))) pa_nil))))) pss_nil)
  (pss_one (ps_ret (pe_op (r := rCatS K) op_catS (pe_op (r := rCatS K) op_catS (pe_slice (r := rSlS K) sl_tupS (pv 1) po_none (po_some (pv 3))) (pe_tup (pa_cons (pe_op op_add (pe_ix (r := rIxT K) ix_tup (pv 1) (pv 3) (fun _ _ => rfl)) (pv 4)) pa_nil))) (pe_slice (r := rSlS K) sl_tupS (pv 1) (po_some (pe_op op_add (pv 3) pe_int)) po_none)))))))))))), ?_⟩
    refine ⟨_, rfl, p, _, 6, rfl, hp, by omega, by decide, by decide, fun way H1 w0 w1 hp1 k1 => ?_⟩
    have ha1 := Kp.sqt k1 hp ha
    refine ⟨_, rfl, _, rfl, _, _, rfl, .inr ⟨_, ha1, rfl⟩, ?_⟩
    rw [List.length_map]
    refine ⟨p, _, _, rfl, hp1, by omega, by omega, by omega, fun spot H2 s0 s1 hp2 k2 => ?_⟩
    refine ⟨_, rfl, _, rfl, _, rfl, p, _, 96, rfl, hp2, by omega, by decide, by decide, fun x H3 x0 x1 hp3 k3 => ?_⟩
    refine ⟨_, _, rfl, rfl, by show 6 ≤ sizeLine; decide, fun l nl => ?_⟩
    refine ⟨_, rfl, p, _, 6, rfl, hp3.same (Same.new nl), by omega, by decide, by decide, fun y H4 y0 y1 hp4 k4 => ?_⟩
    obtain ⟨st, hst⟩ : ∃ st : Int, atI [V.int 1, V.int (-1), V.int 97, V.int 5, V.int (-97), V.int (1 + x)] y = some (.int st) := by
      rcases (by omega : y = 0 ∨ y = 1 ∨ y = 2 ∨ y = 3 ∨ y = 4 ∨ y = 5) with rfl | rfl | rfl | rfl | rfl | rfl <;> exact ⟨_, rfl⟩
    have kk := (((k1.trans k2).trans k3).trans (Kp.new (o := .lst [.int 1, .int (-1), .int 97, .int 5, .int (-97), .int (1 + x)]) nl)).trans k4
    have ha4 := Kp.sqt kk hp ha
    refine ⟨_, _, _, _, rfl, rfl, SqL.of (k4 _ _ upd_same (hp3.ne nl)), hst, ?_⟩
    have sz : ∀ {a b : List Int}, a.length ≤ 10000 → b.length ≤ 10000 → (a.map V.int).length + (b.map V.int).length ≤ sizeLine := fun h1 h2 => by
      rw [List.length_map, List.length_map]
      exact small1000' (by omega)
    -- way 0
    refine ⟨_, rfl, rfl, _, rfl, iteI (fun z => ?_) fun z0 => ?_⟩
    · refine ⟨_, rfl, _, rfl, _, _, rfl, rfl, _, rfl, _, _, rfl, ha4, fun r H5 s5 hr => ?_⟩
      obtain ⟨d, e, dn, dl⟩ := cut_head c (k := 1 + spot) hc (by omega)
      rw [e] at hr
      exact q r d H5 ((hp4.same s5).mono (by omega)) (kk.trans (Kp.of s5)) hr dn (by omega)
    -- way 1
    refine ⟨_, rfl, rfl, _, rfl, iteI (fun z => ?_) fun z1 => ?_⟩
    · refine ⟨_, rfl, _, rfl, _, _, rfl, rfl, _, rfl, _, _, rfl, ha4, fun r H5 s5 hr => ?_⟩
      obtain ⟨d, e, dn, dl⟩ := cut_head c (k := 1 + spot) hc (by omega)
      rw [e] at hr
      refine ⟨_, rfl, p, _, 97, rfl, hp4.same s5, by omega, by decide, by decide, fun u H6 u0 u1 hp6 k6 => ?_⟩
      have hr6 := Kp.sqt k6 (hp4.same s5) hr
      refine ⟨by show 1 ≤ sizeLine; decide, fun m nm => ?_⟩
      refine ⟨_, _, d.map V.int, [u].map V.int, rfl, rfl, Same.sqt (Same.new nm) hr6, SqT.of upd_same, sz (by omega) (by simp), fun r2 H7 s7 hr2 => ?_⟩
      have ha7 := Same.sqt (Same.trans (Same.new nm) s7) (Kp.sqt (kk.trans (Kp.of s5)|>.trans k6) hp ha)
      refine ⟨_, rfl, _, rfl, _, _, rfl, rfl, _, rfl, _, _, rfl, ha7, fun r3 H8 s8 hr3 => ?_⟩
      obtain ⟨d2, e2, dl2⟩ := cut_some c (some (1 + spot)) none
      rw [e2] at hr3
      rw [← List.map_append] at hr2
      refine ⟨_, _, (d ++ [u]).map V.int, d2.map V.int, rfl, rfl, Same.sqt s8 hr2, hr3, sz (by rw [List.length_append]; simp; omega) (by omega), fun r4 H9 s9 hr4 => ?_⟩
      rw [← List.map_append] at hr4
      exact q r4 _ H9 ((hp6.same (Same.trans (Same.trans (Same.new nm) s7) (Same.trans s8 s9))).mono (by omega)) (((kk.trans (Kp.of s5)).trans k6).trans (Kp.of (Same.trans (Same.trans (Same.new nm) s7) (Same.trans s8 s9)))) hr4
        (by simp) (by rw [List.length_append, List.length_append]; simp; omega)
    -- way 2
    refine ⟨_, rfl, rfl, _, rfl, iteI (fun z => ?_) fun z2 => ?_⟩
    · refine ⟨_, rfl, _, _, rfl, .inr ⟨_, ha4, rfl⟩, _, _, rfl, rfl, _, rfl, iteD (fun g => ?_) fun g => ?_⟩
      · refine ⟨_, rfl, _, rfl, _, _, rfl, _, rfl, _, _, rfl, ha4, fun r H5 s5 hr => ?_⟩
        obtain ⟨d, e, dn, dl⟩ := cut_head c (k := if spot > 1 then spot else 1) hc (by split <;> omega)
        rw [e] at hr
        refine ⟨_, rfl, _, rfl, _, _, rfl, _, _, rfl, rfl, _, rfl, _, _, rfl, Same.sqt s5 ha4, fun r3 H8 s8 hr3 => ?_⟩
        obtain ⟨d2, e2, dl2⟩ := cut_some c (some ((if spot > 1 then spot else 1) + 1)) none
        rw [e2] at hr3
        refine ⟨_, _, d.map V.int, d2.map V.int, rfl, rfl, Same.sqt s8 hr, hr3, sz (by omega) (by omega), fun r4 H9 s9 hr4 => ?_⟩
        rw [← List.map_append] at hr4
        exact q r4 _ H9 ((hp4.same (Same.trans s5 (Same.trans s8 s9))).mono (by omega)) (kk.trans (Kp.of (Same.trans s5 (Same.trans s8 s9)))) hr4
          (fun z => dn (List.append_eq_nil_iff.mp z).1) (by rw [List.length_append]; omega)
      ·
        refine ⟨_, rfl, rfl, _, rfl, iteI (fun z => ?_) fun z3 => ?_⟩
        · refine ⟨_, rfl, _, rfl, _, _, rfl, ha4, fun r H5 s5 hr => ?_⟩
          obtain ⟨d, e, dn, dl⟩ := cut_head c (k := 3) hc (by omega)
          rw [e] at hr
          have ha5 := Same.sqt s5 ha4
          refine ⟨_, rfl, _, rfl, _, rfl, _, _, rfl, .inr ⟨_, ha5, rfl⟩, _, _, rfl, rfl, _, rfl, _, _, rfl, ha5, fun r2 H6 s6 hr2 => ?_⟩
          obtain ⟨d2, e2, dl2⟩ := cut_some c (some 3) (some (((c.map V.int).length : Int) - 2))
          rw [e2] at hr2
          refine ⟨_, _, rfl, hr2, fun r3 nr3 => ?_⟩
          rw [← List.map_reverse]
          have s6' := Same.trans s6 (Same.new (o := .tup (d2.reverse.map V.int)) nr3)
          refine ⟨_, _, d.map V.int, d2.reverse.map V.int, rfl, rfl, Same.sqt s6' hr, SqT.of upd_same, sz (by omega) (by rw [List.length_reverse]; omega), fun r4 H8 s8 hr4 => ?_⟩
          rw [← List.map_append] at hr4
          have s58 := Same.trans s5 (Same.trans s6' s8)
          have ha8 := Same.sqt s58 ha4
          refine ⟨_, rfl, _, rfl, _, _, rfl, .inr ⟨_, ha8, rfl⟩, _, _, rfl, rfl, _, _, rfl, _, rfl, _, _, rfl, ha8, fun r5 H9 s9 hr5 => ?_⟩
          obtain ⟨d3, e3, dl3⟩ := cut_some c (some (if ((c.map V.int).length : Int) - 2 > 3 then ((c.map V.int).length : Int) - 2 else 3)) none
          rw [e3] at hr5
          refine ⟨_, _, (d ++ d2.reverse).map V.int, d3.map V.int, rfl, rfl, Same.sqt s9 hr4, hr5, sz (by rw [List.length_append, List.length_reverse]; omega) (by omega), fun r6 H10 s10 hr6 => ?_⟩
          rw [← List.map_append] at hr6
          exact q r6 _ H10 ((hp4.same (Same.trans s58 (Same.trans s9 s10))).mono (by omega)) (kk.trans (Kp.of (Same.trans s58 (Same.trans s9 s10)))) hr6
            (fun z => dn (List.append_eq_nil_iff.mp (List.append_eq_nil_iff.mp z).1).1) (by rw [List.length_append, List.length_append, List.length_reverse]; omega)
        refine ⟨_, rfl, rfl, _, rfl, iteI (fun z => ?_) fun z4 => ?_⟩
        · refine ⟨_, rfl, _, rfl, _, _, rfl, .inr ⟨_, ha4, rfl⟩, _, _, rfl, p, _, _, rfl, hp4, by omega, by rw [List.length_map]; split <;> omega, by rw [List.length_map]; split <;> omega, fun sp H10 sp0 sp1 hp10 k10 => ?_⟩
          rw [List.length_map] at sp1
          have ha10 := Kp.sqt k10 hp4 ha4
          refine ⟨_, rfl, _, rfl, _, rfl, _, _, rfl, ha10, fun r H5 s5 hr => ?_⟩
          obtain ⟨d, e, dl⟩ := cut_some c none (some sp)
          rw [e] at hr
          have ha5 := Same.sqt s5 ha10
          obtain ⟨v, hv, _, hv2⟩ := at_ints (ns := c) (k := sp) sp0 (by split at sp1 <;> omega)
          refine ⟨_, rfl, _, rfl, _, _, _, _, rfl, rfl, ha5, hv2, _, rfl, _, _, rfl, rfl, by show 1 ≤ sizeLine; decide, fun m nm => ?_⟩
          refine ⟨_, _, d.map V.int, [v + st].map V.int, rfl, rfl, Same.sqt (Same.new nm) hr, SqT.of upd_same, sz (by omega) (by simp), fun r2 H7 s7 hr2 => ?_⟩
          have s57 := Same.trans s5 (Same.trans (Same.new (o := .tup [.int (v + st)]) nm) s7)
          refine ⟨_, rfl, _, rfl, _, _, rfl, rfl, _, rfl, _, _, rfl, Same.sqt s57 ha10, fun r3 H8 s8 hr3 => ?_⟩
          obtain ⟨d2, e2, dl2⟩ := cut_some c (some (sp + 1)) none
          rw [e2] at hr3
          rw [← List.map_append] at hr2
          refine ⟨_, _, (d ++ [v + st]).map V.int, d2.map V.int, rfl, rfl, Same.sqt s8 hr2, hr3, sz (by rw [List.length_append]; simp; omega) (by omega), fun r4 H9 s9 hr4 => ?_⟩
          rw [← List.map_append] at hr4
          exact q r4 _ H9 ((hp10.same (Same.trans s57 (Same.trans s8 s9))).mono (by omega)) ((kk.trans k10).trans (Kp.of (Same.trans s57 (Same.trans s8 s9)))) hr4
            (by simp) (by rw [List.length_append, List.length_append]; simp; omega)
        refine ⟨_, rfl, _, rfl, _, rfl, _, _, rfl, ha4, fun r H5 s5 hr => ?_⟩
        obtain ⟨d, e, dl⟩ := cut_some c none (some spot)
        rw [e] at hr
        have ha5 := Same.sqt s5 ha4
        obtain ⟨v, hv, _, hv2⟩ := at_ints (ns := c) (k := spot) s0 s1
        refine ⟨_, rfl, _, rfl, _, _, _, _, rfl, rfl, ha5, hv2, _, rfl, _, _, rfl, rfl, by show 1 ≤ sizeLine; decide, fun m nm => ?_⟩
        refine ⟨_, _, d.map V.int, [v + st].map V.int, rfl, rfl, Same.sqt (Same.new nm) hr, SqT.of upd_same, sz (by omega) (by simp), fun r2 H7 s7 hr2 => ?_⟩
        have s57 := Same.trans s5 (Same.trans (Same.new (o := .tup [.int (v + st)]) nm) s7)
        refine ⟨_, rfl, _, rfl, _, _, rfl, rfl, _, rfl, _, _, rfl, Same.sqt s57 ha4, fun r3 H8 s8 hr3 => ?_⟩
        obtain ⟨d2, e2, dl2⟩ := cut_some c (some (spot + 1)) none
        rw [e2] at hr3
        rw [← List.map_append] at hr2
        refine ⟨_, _, (d ++ [v + st]).map V.int, d2.map V.int, rfl, rfl, Same.sqt s8 hr2, hr3, sz (by rw [List.length_append]; simp; omega) (by omega), fun r4 H9 s9 hr4 => ?_⟩
        rw [← List.map_append] at hr4
        exact q r4 _ H9 ((hp4.same (Same.trans s57 (Same.trans s8 s9))).mono (by omega)) (kk.trans (Kp.of (Same.trans s57 (Same.trans s8 s9)))) hr4
          (by simp) (by rw [List.length_append, List.length_append]; simp; omega)
    -- way 3
    refine ⟨_, rfl, rfl, _, rfl, iteI (fun z => ?_) fun z3 => ?_⟩
    · refine ⟨_, rfl, _, rfl, _, _, rfl, ha4, fun r H5 s5 hr => ?_⟩
      obtain ⟨d, e, dn, dl⟩ := cut_head c (k := 3) hc (by omega)
      rw [e] at hr
      have ha5 := Same.sqt s5 ha4
      refine ⟨_, rfl, _, rfl, _, rfl, _, _, rfl, .inr ⟨_, ha5, rfl⟩, _, _, rfl, rfl, _, rfl, _, _, rfl, ha5, fun r2 H6 s6 hr2 => ?_⟩
      obtain ⟨d2, e2, dl2⟩ := cut_some c (some 3) (some (((c.map V.int).length : Int) - 2))
      rw [e2] at hr2
      refine ⟨_, _, rfl, hr2, fun r3 nr3 => ?_⟩
      rw [← List.map_reverse]
      have s6' := Same.trans s6 (Same.new (o := .tup (d2.reverse.map V.int)) nr3)
      refine ⟨_, _, d.map V.int, d2.reverse.map V.int, rfl, rfl, Same.sqt s6' hr, SqT.of upd_same, sz (by omega) (by rw [List.length_reverse]; omega), fun r4 H8 s8 hr4 => ?_⟩
      rw [← List.map_append] at hr4
      have s58 := Same.trans s5 (Same.trans s6' s8)
      have ha8 := Same.sqt s58 ha4
      refine ⟨_, rfl, _, rfl, _, _, rfl, .inr ⟨_, ha8, rfl⟩, _, _, rfl, rfl, _, _, rfl, _, rfl, _, _, rfl, ha8, fun r5 H9 s9 hr5 => ?_⟩
      obtain ⟨d3, e3, dl3⟩ := cut_some c (some (if ((c.map V.int).length : Int) - 2 > 3 then ((c.map V.int).length : Int) - 2 else 3)) none
      rw [e3] at hr5
      refine ⟨_, _, (d ++ d2.reverse).map V.int, d3.map V.int, rfl, rfl, Same.sqt s9 hr4, hr5, sz (by rw [List.length_append, List.length_reverse]; omega) (by omega), fun r6 H10 s10 hr6 => ?_⟩
      rw [← List.map_append] at hr6
      exact q r6 _ H10 ((hp4.same (Same.trans s58 (Same.trans s9 s10))).mono (by omega)) (kk.trans (Kp.of (Same.trans s58 (Same.trans s9 s10)))) hr6
        (fun z => dn (List.append_eq_nil_iff.mp (List.append_eq_nil_iff.mp z).1).1) (by rw [List.length_append, List.length_append, List.length_reverse]; omega)
    refine ⟨_, rfl, rfl, _, rfl, iteI (fun z => ?_) fun z4 => ?_⟩
    · refine ⟨_, rfl, _, rfl, _, _, rfl, .inr ⟨_, ha4, rfl⟩, _, _, rfl, p, _, _, rfl, hp4, by omega, by rw [List.length_map]; split <;> omega, by rw [List.length_map]; split <;> omega, fun sp H10 sp0 sp1 hp10 k10 => ?_⟩
      rw [List.length_map] at sp1
      have ha10 := Kp.sqt k10 hp4 ha4
      refine ⟨_, rfl, _, rfl, _, rfl, _, _, rfl, ha10, fun r H5 s5 hr => ?_⟩
      obtain ⟨d, e, dl⟩ := cut_some c none (some sp)
      rw [e] at hr
      have ha5 := Same.sqt s5 ha10
      obtain ⟨v, hv, _, hv2⟩ := at_ints (ns := c) (k := sp) sp0 (by split at sp1 <;> omega)
      refine ⟨_, rfl, _, rfl, _, _, _, _, rfl, rfl, ha5, hv2, _, rfl, _, _, rfl, rfl, by show 1 ≤ sizeLine; decide, fun m nm => ?_⟩
      refine ⟨_, _, d.map V.int, [v + st].map V.int, rfl, rfl, Same.sqt (Same.new nm) hr, SqT.of upd_same, sz (by omega) (by simp), fun r2 H7 s7 hr2 => ?_⟩
      have s57 := Same.trans s5 (Same.trans (Same.new (o := .tup [.int (v + st)]) nm) s7)
      refine ⟨_, rfl, _, rfl, _, _, rfl, rfl, _, rfl, _, _, rfl, Same.sqt s57 ha10, fun r3 H8 s8 hr3 => ?_⟩
      obtain ⟨d2, e2, dl2⟩ := cut_some c (some (sp + 1)) none
      rw [e2] at hr3
      rw [← List.map_append] at hr2
      refine ⟨_, _, (d ++ [v + st]).map V.int, d2.map V.int, rfl, rfl, Same.sqt s8 hr2, hr3, sz (by rw [List.length_append]; simp; omega) (by omega), fun r4 H9 s9 hr4 => ?_⟩
      rw [← List.map_append] at hr4
      exact q r4 _ H9 ((hp10.same (Same.trans s57 (Same.trans s8 s9))).mono (by omega)) ((kk.trans k10).trans (Kp.of (Same.trans s57 (Same.trans s8 s9)))) hr4
        (by simp) (by rw [List.length_append, List.length_append]; simp; omega)
    refine ⟨_, rfl, _, rfl, _, rfl, _, _, rfl, ha4, fun r H5 s5 hr => ?_⟩
    obtain ⟨d, e, dl⟩ := cut_some c none (some spot)
    rw [e] at hr
    have ha5 := Same.sqt s5 ha4
    obtain ⟨v, hv, _, hv2⟩ := at_ints (ns := c) (k := spot) s0 s1
    refine ⟨_, rfl, _, rfl, _, _, _, _, rfl, rfl, ha5, hv2, _, rfl, _, _, rfl, rfl, by show 1 ≤ sizeLine; decide, fun m nm => ?_⟩
    refine ⟨_, _, d.map V.int, [v + st].map V.int, rfl, rfl, Same.sqt (Same.new nm) hr, SqT.of upd_same, sz (by omega) (by simp), fun r2 H7 s7 hr2 => ?_⟩
    have s57 := Same.trans s5 (Same.trans (Same.new (o := .tup [.int (v + st)]) nm) s7)
    refine ⟨_, rfl, _, rfl, _, _, rfl, rfl, _, rfl, _, _, rfl, Same.sqt s57 ha4, fun r3 H8 s8 hr3 => ?_⟩
    obtain ⟨d2, e2, dl2⟩ := cut_some c (some (spot + 1)) none
    rw [e2] at hr3
    rw [← List.map_append] at hr2
    refine ⟨_, _, (d ++ [v + st]).map V.int, d2.map V.int, rfl, rfl, Same.sqt s8 hr2, hr3, sz (by rw [List.length_append]; simp; omega) (by omega), fun r4 H9 s9 hr4 => ?_⟩
    rw [← List.map_append] at hr4
    exact q r4 _ H9 ((hp4.same (Same.trans s57 (Same.trans s8 s9))).mono (by omega)) (kk.trans (Kp.of (Same.trans s57 (Same.trans s8 s9)))) hr4
      (by simp) (by rw [List.length_append, List.length_append]; simp; omega)
def spLaw (K : PySem.W.Frag) : Sp := fun vs H Q _ => ∃ (a : Addr) (ns : List Int), vs = [.ref a] ∧ SqL K H a (ns.map V.int) ∧ ns.length ≤ 63 ∧ ∀ H', Q (.bl true) H'
theorem times_size (n : Nat) (h : n ≤ 63) : 0 ≤ (if (if (30 : Int) < (n : Int) then (30 : Int) else (n : Int)) > 1 then (if (30 : Int) < (n : Int) then (30 : Int) else (n : Int)) else 1) ∧ (if (if (30 : Int) < (n : Int) then (30 : Int) else (n : Int)) > 1 then (if (30 : Int) < (n : Int) then (30 : Int) else (n : Int)) else 1) ≤ 30 := by
  split <;> split <;> omega
theorem ok_law (T : Txt mg) (D__law_source : Dn P w K mg base CX0 1 "_law_source" ["cell", "place"] spSource) (D__law_cell : Dn P w K mg base CX0 1 "_law_cell" ["script", "k"] (spCell K)) (D__law_some_key : Dn P w K mg base CX0 2 "_law_some_key" ["urn"] spSomeKey)
    (D__law_some_cells : Dn P w K mg base CX0 2 "_law_some_cells" ["urn"] spSomeCells) (D__law_made : Dn P w K mg base CX0 1 "_law_made" ["ticket", "place", "cells"] (spLawMade K)) (D__law_pick : Dn P w K mg base CX0 1 "_law_pick" ["urn", "many"] spDrawn)
    (D__law_bent : Dn P w K mg base CX0 2 "_law_bent" ["urn", "card"] (spBent K)) (D_looked : Dn P w K mg base CX0 4 "looked" ["card", "ticket", "place"] (spLooked K)) (D__law_state : Dn P w K mg base CX0 1 "_law_state" ["card", "ticket", "place"] (spState K)) (D__law_alike : Dn P w K mg base CX0 1 "_law_alike" ["found", "due"] spAlike1)
    {f : Addr} {fd : FuncData} (F : FunD K "law" "law" (defArgs s_law) (defBody s_law) (defScope s_law) [] [] f fd) : FnOk P w K mg base CX0 5 f fd ["script"] (spLaw K) := by
  refine ok0 F sc_law (fun vs H Q E h => ?_) (fun f cdv A outer s H vs Q E hr h => ?_)
  · obtain ⟨a, ns, rfl, _⟩ := h
    rfl
  · obtain ⟨a, ns, rfl, hS, hl, q⟩ := h
    refine ⟨_, (pss_cons (ps_for PassesOwn.never rfl (pi_range1 (by rfl) T.n_range (pa_cons (pe_callB (call_max2 rfl) (by rfl) T.n_max (by decide +kernel) (pa_cons pe_int (pa_cons (pe_callB (call_min2 rfl) (by rfl) T.n_min (by decide +kernel) (pa_cons (pe_callB (r := rLen K) call_len (by rfl) T.n_len (by decide +kernel) (pa_cons (pv 0) pa_nil)) (pa_cons pe_int pa_nil))) pa_nil))) pa_nil)) (pg_name (i := 1) sc_law.nd rfl (by first | exact Or.inl rfl | exact Or.inr rfl))
  (pss_cons (ps_set (i := 2) sc_law.nd rfl (by first | exact Or.inl rfl | exact Or.inr rfl) (pe_callD D__law_source (by first | exact hr | exact hr.mono (by decide)) (pa_cons (pe_callD D__law_cell (by first | exact hr | exact hr.mono (by decide)) (pa_cons (pv 0) (pa_cons (pv 1) pa_nil))) (pa_cons (pv 1) pa_nil))))
  (pss_cons (ps_set (i := 3) sc_law.nd rfl (by first | exact Or.inl rfl | exact Or.inr rfl) (pe_callD D__law_pick (by first | exact hr | exact hr.mono (by decide)) (pa_cons (pv 2) (pa_cons pe_int pa_nil))))
  (pss_cons (ps_set (i := 4) sc_law.nd rfl (by first | exact Or.inl rfl | exact Or.inr rfl) (pe_callD D__law_pick (by first | exact hr | exact hr.mono (by decide)) (pa_cons (pv 2) (pa_cons pe_int pa_nil))))
  (pss_cons (ps_asg (pe_callD D__law_some_key (by first | exact hr | exact hr.mono (by decide)) (pa_cons (pv 2) pa_nil)) (pg_tup (by rfl) (pgs_cons (pg_name (i := 5) sc_law.nd rfl (by first | exact Or.inl rfl | exact Or.inr rfl)) (pgs_cons (pg_name (i := 6) sc_law.nd rfl (by first | exact Or.inl rfl | exact Or.inr rfl)) pgs_nil))))
  (pss_cons (ps_set (i := 7) sc_law.nd rfl (by first | exact Or.inl rfl | exact Or.inr rfl) (pe_callD D__law_made (by first | exact hr | exact hr.mono (by decide)) (pa_cons (pv 5) (pa_cons (pv 6) (pa_cons (pe_callD D__law_some_cells (by first | exact hr | exact hr.mono (by decide)) (pa_cons (pv 2) pa_nil)) pa_nil)))))
  (pss_cons (ps_for PassesOwn.never rfl (pi_range1 (by rfl) T.n_range (pa_cons (pv 3) pa_nil)) (pg_name (i := 8) sc_law.nd rfl (by first | exact Or.inl rfl | exact Or.inr rfl))
  (pss_one (ps_set (i := 7) sc_law.nd rfl (by first | exact Or.inl rfl | exact Or.inr rfl) (pe_callD D__law_bent (by first | exact hr | exact hr.mono (by decide)) (pa_cons (pv 2) (pa_cons (pv 7) pa_nil))))))
  (pss_cons (ps_if (pt_cmpR op_eq (pv 4) pe_int (nomark _)) (pss_one (ps_set (i := 5) sc_law.nd rfl (by first | exact Or.inl rfl | exact Or.inr rfl) (pe_op op_add (pv 5) pe_int))) pss_nil)
  (pss_cons (ps_if (pt_cmpR op_eq (pv 4) pe_int (nomark _)) (pss_one (ps_set (i := 6) sc_law.nd rfl (by first | exact Or.inl rfl | exact Or.inr rfl) (pe_op op_add (pv 6) pe_int))) pss_nil)
  (pss_cons (ps_if (pt_cmpR op_eq (pv 4) pe_int (nomark _)) (pss_one (ps_set (i := 5) sc_law.nd rfl (by first | exact Or.inl rfl | exact Or.inr rfl) (pe_callB (call_max2 rfl) (by rfl) T.n_max (by decide +kernel) (pa_cons pe_int (pa_cons (pe_op op_sub (pv 5) pe_int) pa_nil))))) pss_nil)
  (pss_cons (ps_if (PW.pt (pw_and (pt_cmpR op_eq (pv 4) pe_int (nomark _)) (pw_and1 (pt_cmpR op_gt (pv 6) pe_int (nomark _))))) (pss_one (ps_par (i := 5) (j := 6) (by rfl) sc_law.nd rfl rfl (by decide) rfl rfl (pa_cons (pv 6) (pa_cons (pv 5) pa_nil)) (by rfl))) pss_nil)
  (pss_one (ps_if (pt_not (pt_val (pe_callD D__law_alike (by first | exact hr | exact hr.mono (by decide)) (pa_cons (pe_callD D_looked (by first | exact hr | exact hr.mono (by decide)) (pa_cons (pv 7) (pa_cons (pv 5) (pa_cons (pv 6) pa_nil)))) (pa_cons (pe_callD D__law_state (by first | exact hr | exact hr.mono (by decide)) (pa_cons (pv 7) (pa_cons (pv 5) (pa_cons (pv 6) pa_nil)))) pa_nil))))) (pss_one (ps_ret pe_bl)) pss_nil)))))))))))))
  (pss_one (ps_ret pe_bl))), ?_⟩
    obtain ⟨z0, z1⟩ := times_size (ns.map V.int).length (by rw [List.length_map]; exact hl)
    refine ⟨_, rfl, _, _, rfl, .inl ⟨_, hS, rfl⟩, _, _, rfl, _, _, rfl, _, rfl, by omega, by omega, ?_⟩
    refine for_range (lo := 0) (fun i σ H' => ∃ v1 v2 v3 v4 v5 v6 v7 v8, σ = [some (.ref a), v1, v2, v3, v4, v5, v6, v7, v8] ∧ SqL K H' a (ns.map V.int)) ⟨none, none, none, none, none, none, none, none, rfl, hS⟩ ?_ ?_
    · rintro i σ H0 hi ⟨v1, v2, v3, v4, v5, v6, v7, v8, rfl, hS0⟩
      refine ⟨_, rfl, _, rfl, a, ns, _, rfl, hS0, by omega, by omega, fun cell => ?_⟩
      refine ⟨_, rfl, cell, _, rfl, by omega, by omega, fun p x y np x0 y0 y1 => ?_⟩
      have hp0 : Purse (upd H0 p (.lst [.int x, .int y, .int 0])) p 0 := ⟨x, y, 0, upd_same, x0, y0, y1, by omega, by omega⟩
      refine ⟨_, rfl, p, 0, 4, rfl, hp0, by omega, by decide, by decide, fun turns H1 u0 u1 hp1 k1 => ?_⟩
      refine ⟨_, rfl, p, _, 8, rfl, hp1, by omega, by decide, by decide, fun aside H2 a0 a1 hp2 k2 => ?_⟩
      refine ⟨_, rfl, p, _, rfl, hp2, by omega, fun r t pl H3 hp3 k3 er nrp => ?_⟩
      refine ⟨_, _, rfl, SqT.of er, rfl, _, _, rfl, _, _, rfl, rfl, ?_⟩
      refine ⟨_, rfl, _, rfl, _, rfl, p, _, rfl, hp3, by omega, fun c cs H4 hp4 k4 ec ncp nc1 lc bc => ?_⟩
      have kk : Kp p H0 H4 := ((((Kp.new np).trans k1).trans k2).trans k3).trans k4
      refine ⟨t, pl, c, cs, rfl, SqL.of ec, by omega, fun c hc => by have := bc c hc; omega, fun m H5 s5 em => ?_⟩
      have lcard : (cardOf t pl cs).length = cs.length + 5 := by
        unfold cardOf
        simp only [List.length_cons, List.length_append, List.length_nil]
      refine ⟨_, rfl, _, rfl, by omega, by omega, ?_⟩
      refine for_range (lo := 0) (fun j σ H' => ∃ (cd : Addr) (d : List Int) (v : Option V), σ = [some (.ref a), some (.int (0 + (i : Int))), some (.ref p), some (.int turns), some (.int aside), some (.int t), some (.int pl), some (.ref cd), v] ∧ SqT K H' cd (d.map V.int) ∧ d ≠ [] ∧ d.length + 1 ≤ 66 * 3 ^ j ∧ j ≤ 3 ∧ Purse H' p (300 + 10 * j) ∧ Kp p H0 H')
        ⟨m, _, v8, rfl, SqT.of em, fun z => by rw [z] at lcard; simp at lcard, by omega, by omega, (hp4.same s5).mono (by omega), kk.trans (Kp.of s5)⟩ ?_ ?_
      · rintro j σ H6 hj ⟨cd, d, v, rfl, hd, dn, dl, j3, hp6, k6⟩
        have pj : (3 : Nat) ^ j ≤ 9 := by
          rcases (by omega : j = 0 ∨ j = 1 ∨ j = 2) with rfl | rfl | rfl <;> decide
        refine ⟨_, rfl, _, rfl, p, cd, _, d, rfl, hp6, by omega, hd, dn, by omega, fun r e H7 hp7 k7 hr7 en el => ?_⟩
        exact ⟨r, e, _, rfl, hr7, en, by rw [Nat.pow_succ]; omega, by omega, hp7.mono (by omega), k6.trans k7⟩
      · rintro σ H6 ⟨cd, d, v, rfl, hd, dn, dl, j3, hp6, k4⟩
        have pj : (3 : Nat) ^ turns.toNat ≤ 27 := by
          rcases (by omega : turns.toNat = 0 ∨ turns.toNat = 1 ∨ turns.toNat = 2 ∨ turns.toNat = 3) with e | e | e | e <;> rw [e] <;> decide
        refine ⟨_, rfl, rfl, _, rfl, iteI (fun z1 => ?_) fun z1 => ?_⟩
        · refine ⟨_, rfl, _, _, rfl, rfl, ?_⟩
          refine ⟨_, rfl, rfl, _, rfl, iteI (fun z => absurd z (by omega)) fun _ => ?_⟩
          refine ⟨_, rfl, rfl, _, rfl, iteI (fun z => absurd z (by omega)) fun _ => ?_⟩
          refine ⟨_, rfl, rfl, _, rfl, iteI (fun z => absurd z (by omega)) fun _ => ?_⟩

          refine ⟨_, rfl, _, rfl, _, rfl, cd, d, (t + 1), pl, rfl, hd, by omega, dn, fun H6 s6 => ?_⟩
          refine ⟨_, rfl, _, rfl, _, rfl, cd, d, (t + 1), pl, rfl, Same.sqt s6 hd, by omega, dn, fun H7 s7 => ?_⟩
          refine ⟨_, rfl, rfl, _, rfl, ?_⟩
          refine ⟨_, _, _, _, _, _, _, _, rfl, ?_⟩
          exact Same.seq (Same.trans (Kp.same (Same.refl _) np k4) (Same.trans s6 s7)) hS0

        refine ⟨_, rfl, rfl, _, rfl, iteI (fun z2 => ?_) fun z2 => ?_⟩
        · refine ⟨_, rfl, _, _, rfl, rfl, ?_⟩
          refine ⟨_, rfl, rfl, _, rfl, iteI (fun z => absurd z (by omega)) fun _ => ?_⟩
          refine ⟨_, rfl, rfl, _, rfl, iteI (fun z => absurd z (by omega)) fun _ => ?_⟩

          refine ⟨_, rfl, _, rfl, _, rfl, cd, d, t, (pl + 1), rfl, hd, by omega, dn, fun H6 s6 => ?_⟩
          refine ⟨_, rfl, _, rfl, _, rfl, cd, d, t, (pl + 1), rfl, Same.sqt s6 hd, by omega, dn, fun H7 s7 => ?_⟩
          refine ⟨_, rfl, rfl, _, rfl, ?_⟩
          refine ⟨_, _, _, _, _, _, _, _, rfl, ?_⟩
          exact Same.seq (Same.trans (Kp.same (Same.refl _) np k4) (Same.trans s6 s7)) hS0

        refine ⟨_, rfl, rfl, _, rfl, iteI (fun z3 => ?_) fun z3 => ?_⟩
        · refine ⟨_, rfl, _, _, rfl, rfl, _, _, rfl, ?_⟩
          refine ⟨_, rfl, rfl, _, rfl, iteI (fun z => absurd z (by omega)) fun _ => ?_⟩

          refine ⟨_, rfl, _, rfl, _, rfl, cd, d, (if t - 1 > 1 then t - 1 else 1), pl, rfl, hd, by omega, dn, fun H6 s6 => ?_⟩
          refine ⟨_, rfl, _, rfl, _, rfl, cd, d, (if t - 1 > 1 then t - 1 else 1), pl, rfl, Same.sqt s6 hd, by omega, dn, fun H7 s7 => ?_⟩
          refine ⟨_, rfl, rfl, _, rfl, ?_⟩
          refine ⟨_, _, _, _, _, _, _, _, rfl, ?_⟩
          exact Same.seq (Same.trans (Kp.same (Same.refl _) np k4) (Same.trans s6 s7)) hS0

        refine ⟨_, rfl, rfl, _, rfl, iteI (fun z4 => ?_) fun z4 => ?_⟩
        · refine ⟨_, rfl, _, _, rfl, rfl, _, rfl, iteD (fun g => ?_) fun g => ?_⟩
          · refine ⟨_, rfl, _, rfl, _, _, rfl, ?_⟩
            refine ⟨_, rfl, _, rfl, _, rfl, cd, d, pl, t, rfl, hd, by omega, dn, fun H6 s6 => ?_⟩
            refine ⟨_, rfl, _, rfl, _, rfl, cd, d, pl, t, rfl, Same.sqt s6 hd, by omega, dn, fun H7 s7 => ?_⟩
            refine ⟨_, rfl, rfl, _, rfl, ?_⟩
            refine ⟨_, _, _, _, _, _, _, _, rfl, ?_⟩
            exact Same.seq (Same.trans (Kp.same (Same.refl _) np k4) (Same.trans s6 s7)) hS0
          ·
            refine ⟨_, rfl, _, rfl, _, rfl, cd, d, t, pl, rfl, hd, by omega, dn, fun H6 s6 => ?_⟩
            refine ⟨_, rfl, _, rfl, _, rfl, cd, d, t, pl, rfl, Same.sqt s6 hd, by omega, dn, fun H7 s7 => ?_⟩
            refine ⟨_, rfl, rfl, _, rfl, ?_⟩
            refine ⟨_, _, _, _, _, _, _, _, rfl, ?_⟩
            exact Same.seq (Same.trans (Kp.same (Same.refl _) np k4) (Same.trans s6 s7)) hS0
        refine ⟨_, rfl, _, rfl, _, rfl, cd, d, t, pl, rfl, hd, by omega, dn, fun H6 s6 => ?_⟩
        refine ⟨_, rfl, _, rfl, _, rfl, cd, d, t, pl, rfl, Same.sqt s6 hd, by omega, dn, fun H7 s7 => ?_⟩
        refine ⟨_, rfl, rfl, _, rfl, ?_⟩
        refine ⟨_, _, _, _, _, _, _, _, rfl, ?_⟩
        exact Same.seq (Same.trans (Kp.same (Same.refl _) np k4) (Same.trans s6 s7)) hS0
    · rintro σ H' ⟨v1, v2, v3, v4, v5, v6, v7, v8, rfl, hS0⟩
      exact q _
end
def d_is_whole : He.DefD := ⟨("is_whole", none), "is_whole", "is_whole", defArgs s_is_whole, defBody s_is_whole, defScope s_is_whole, [], []⟩
def d_is_between : He.DefD := ⟨("is_between", none), "is_between", "is_between", defArgs s_is_between, defBody s_is_between, defScope s_is_between, [], []⟩
def d_is_rest : He.DefD := ⟨("is_rest", none), "is_rest", "is_rest", defArgs s_is_rest, defBody s_is_rest, defScope s_is_rest, [], []⟩
def d_sum_of_products : He.DefD := ⟨("sum_of_products", none), "sum_of_products", "sum_of_products", defArgs s_sum_of_products, defBody s_sum_of_products, defScope s_sum_of_products, [], []⟩
def d_sums_of : He.DefD := ⟨("sums_of", none), "sums_of", "sums_of", defArgs s_sums_of, defBody s_sums_of, defScope s_sums_of, [], []⟩
def d_cells_of : He.DefD := ⟨("cells_of", none), "cells_of", "cells_of", defArgs s_cells_of, defBody s_cells_of, defScope s_cells_of, [], []⟩
def d_looked : He.DefD := ⟨("looked", none), "looked", "looked", defArgs s_looked, defBody s_looked, defScope s_looked, [], []⟩
def d__law_cell : He.DefD := ⟨("_law_cell", none), "_law_cell", "_law_cell", defArgs s__law_cell, defBody s__law_cell, defScope s__law_cell, [], []⟩
def d__law_source : He.DefD := ⟨("_law_source", none), "_law_source", "_law_source", defArgs s__law_source, defBody s__law_source, defScope s__law_source, [], []⟩
def d__law_pick : He.DefD := ⟨("_law_pick", none), "_law_pick", "_law_pick", defArgs s__law_pick, defBody s__law_pick, defScope s__law_pick, [], []⟩
def d__law_alike : He.DefD := ⟨("_law_alike", none), "_law_alike", "_law_alike", defArgs s__law_alike, defBody s__law_alike, defScope s__law_alike, [], []⟩
def d__law_made : He.DefD := ⟨("_law_made", none), "_law_made", "_law_made", defArgs s__law_made, defBody s__law_made, defScope s__law_made, [], []⟩
def d__law_some_cells : He.DefD := ⟨("_law_some_cells", none), "_law_some_cells", "_law_some_cells", defArgs s__law_some_cells, defBody s__law_some_cells, defScope s__law_some_cells, [], []⟩
def d__law_some_key : He.DefD := ⟨("_law_some_key", none), "_law_some_key", "_law_some_key", defArgs s__law_some_key, defBody s__law_some_key, defScope s__law_some_key, [], []⟩
def d__law_state : He.DefD := ⟨("_law_state", none), "_law_state", "_law_state", defArgs s__law_state, defBody s__law_state, defScope s__law_state, [], []⟩
def d__law_bent : He.DefD := ⟨("_law_bent", none), "_law_bent", "_law_bent", defArgs s__law_bent, defBody s__law_bent, defScope s__law_bent, [], []⟩
def d_law : He.DefD := ⟨("law", none), "law", "law", defArgs s_law, defBody s_law, defScope s_law, [], []⟩
def fn : List He.DefD := [d_is_whole, d_is_between, d_is_rest, d_sum_of_products, d_sums_of, d_cells_of, d_looked, d__law_cell, d__law_source, d__law_pick, d__law_alike, d__law_made, d__law_some_cells, d__law_some_key, d__law_state, d__law_bent, d_law]
def fa : List He.Fa := [.glo "is_whole", .glo "is_between", .glo "is_rest", .glo "sum_of_products", .glo "sums_of", .glo "cells_of", .glo "looked", .glo "_law_cell", .glo "_law_source", .glo "_law_pick", .glo "_law_alike", .glo "_law_made", .glo "_law_some_cells", .glo "_law_some_key", .glo "_law_state", .glo "_law_bent", .glo "law", .free "len", .free "max", .free "min", .free "range", .free "zip", .free "sum", .free "all", .free "isinstance", .free "int", .free "bool", .free "str", .free "tuple", .free "list", .int "PRIME" 97, .int "BESIDES" 5]
abbrev R : PySem.W.OpenRow := PySem.W.OpenLaw.row PySem.Challenge.rw_sherdhall_k29_how_cards_lie_wrong
abbrev hk : PySem.W.Hook := He.hookD 4 fa fn
def ob (s : PySem.W.SharedT) : He.AlD := He.obsDG 4 fa fn (HandSHeadRun.getT s)
theorem ob_eq (s : PySem.W.SharedT) : ob s = hk.obs s.abs := He.obsDG_eq (HandSHeadRun.getT_eq s)
def loose0 : List Str := ["__name__", "is_whole", "is_between", "is_rest", "sum_of_products", "sums_of", "cells_of", "looked", "_law_cell", "_law_source", "_law_pick", "_law_alike", "_law_made", "_law_some_cells", "_law_some_key", "_law_state", "_law_bent", "PRIME", "BESIDES"]
def loose : List Str := loose0
theorem run (w : World) : HandSHeadRun.RunEq R (PySem.W.view R.prog [21]) hk ob 6000 loose w := by
  intro os
  kernel_rfl
theorem facts {P : Program} {w : World} {K : PySem.W.Frag} {h : Heap} {mg : Str → Option Value} {f : Addr} (X : K.In h) (G : h.Ns mainGlobals mg) (hfa : mg ("law" : Str) = some (.ref f)) (c : He.SaysD fa fn K) :
    ∃ fd : FuncData, (∀ (s : Shared) (v : Value), BindsTo s fd ⟨[v], []⟩ [("script", v)]) ∧ ∀ base : Heap, K.In base → base.Ns mainGlobals mg → FnOk P w K mg base CX0 5 f fd ["script"] (spLaw K) := by
  obtain ⟨fd_is_whole, F_is_whole⟩ := c.def_ 0 (d := d_is_whole) rfl
  have A_is_whole : At K mg "is_whole" s_is_whole ["thing"] := ⟨_, _, F_is_whole, He.glo_ok X G (c.fact 0 (f := .glo "is_whole") rfl), F_is_whole.bindsN fun _ _ _ _ _ _ us hl => match us, hl with | [_], _ => rfl⟩
  obtain ⟨fd_is_between, F_is_between⟩ := c.def_ 1 (d := d_is_between) rfl
  have A_is_between : At K mg "is_between" s_is_between ["thing", "least", "most"] := ⟨_, _, F_is_between, He.glo_ok X G (c.fact 1 (f := .glo "is_between") rfl), F_is_between.bindsN fun _ _ _ _ _ _ us hl => match us, hl with | [_, _, _], _ => rfl⟩
  obtain ⟨fd_is_rest, F_is_rest⟩ := c.def_ 2 (d := d_is_rest) rfl
  have A_is_rest : At K mg "is_rest" s_is_rest ["thing"] := ⟨_, _, F_is_rest, He.glo_ok X G (c.fact 2 (f := .glo "is_rest") rfl), F_is_rest.bindsN fun _ _ _ _ _ _ us hl => match us, hl with | [_], _ => rfl⟩
  obtain ⟨fd_sum_of_products, F_sum_of_products⟩ := c.def_ 3 (d := d_sum_of_products) rfl
  have A_sum_of_products : At K mg "sum_of_products" s_sum_of_products ["factors", "numbers"] := ⟨_, _, F_sum_of_products, He.glo_ok X G (c.fact 3 (f := .glo "sum_of_products") rfl), F_sum_of_products.bindsN fun _ _ _ _ _ _ us hl => match us, hl with | [_, _], _ => rfl⟩
  obtain ⟨fd_sums_of, F_sums_of⟩ := c.def_ 4 (d := d_sums_of) rfl
  have A_sums_of : At K mg "sums_of" s_sums_of ["cells"] := ⟨_, _, F_sums_of, He.glo_ok X G (c.fact 4 (f := .glo "sums_of") rfl), F_sums_of.bindsN fun _ _ _ _ _ _ us hl => match us, hl with | [_], _ => rfl⟩
  obtain ⟨fd_cells_of, F_cells_of⟩ := c.def_ 5 (d := d_cells_of) rfl
  have A_cells_of : At K mg "cells_of" s_cells_of ["card"] := ⟨_, _, F_cells_of, He.glo_ok X G (c.fact 5 (f := .glo "cells_of") rfl), F_cells_of.bindsN fun _ _ _ _ _ _ us hl => match us, hl with | [_], _ => rfl⟩
  obtain ⟨fd_looked, F_looked⟩ := c.def_ 6 (d := d_looked) rfl
  have A_looked : At K mg "looked" s_looked ["card", "ticket", "place"] := ⟨_, _, F_looked, He.glo_ok X G (c.fact 6 (f := .glo "looked") rfl), F_looked.bindsN fun _ _ _ _ _ _ us hl => match us, hl with | [_, _, _], _ => rfl⟩
  obtain ⟨fd__law_cell, F__law_cell⟩ := c.def_ 7 (d := d__law_cell) rfl
  have A__law_cell : At K mg "_law_cell" s__law_cell ["script", "k"] := ⟨_, _, F__law_cell, He.glo_ok X G (c.fact 7 (f := .glo "_law_cell") rfl), F__law_cell.bindsN fun _ _ _ _ _ _ us hl => match us, hl with | [_, _], _ => rfl⟩
  obtain ⟨fd__law_source, F__law_source⟩ := c.def_ 8 (d := d__law_source) rfl
  have A__law_source : At K mg "_law_source" s__law_source ["cell", "place"] := ⟨_, _, F__law_source, He.glo_ok X G (c.fact 8 (f := .glo "_law_source") rfl), F__law_source.bindsN fun _ _ _ _ _ _ us hl => match us, hl with | [_, _], _ => rfl⟩
  obtain ⟨fd__law_pick, F__law_pick⟩ := c.def_ 9 (d := d__law_pick) rfl
  have A__law_pick : At K mg "_law_pick" s__law_pick ["urn", "many"] := ⟨_, _, F__law_pick, He.glo_ok X G (c.fact 9 (f := .glo "_law_pick") rfl), F__law_pick.bindsN fun _ _ _ _ _ _ us hl => match us, hl with | [_, _], _ => rfl⟩
  obtain ⟨fd__law_alike, F__law_alike⟩ := c.def_ 10 (d := d__law_alike) rfl
  have A__law_alike : At K mg "_law_alike" s__law_alike ["found", "due"] := ⟨_, _, F__law_alike, He.glo_ok X G (c.fact 10 (f := .glo "_law_alike") rfl), F__law_alike.bindsN fun _ _ _ _ _ _ us hl => match us, hl with | [_, _], _ => rfl⟩
  obtain ⟨fd__law_made, F__law_made⟩ := c.def_ 11 (d := d__law_made) rfl
  have A__law_made : At K mg "_law_made" s__law_made ["ticket", "place", "cells"] := ⟨_, _, F__law_made, He.glo_ok X G (c.fact 11 (f := .glo "_law_made") rfl), F__law_made.bindsN fun _ _ _ _ _ _ us hl => match us, hl with | [_, _, _], _ => rfl⟩
  obtain ⟨fd__law_some_cells, F__law_some_cells⟩ := c.def_ 12 (d := d__law_some_cells) rfl
  have A__law_some_cells : At K mg "_law_some_cells" s__law_some_cells ["urn"] := ⟨_, _, F__law_some_cells, He.glo_ok X G (c.fact 12 (f := .glo "_law_some_cells") rfl), F__law_some_cells.bindsN fun _ _ _ _ _ _ us hl => match us, hl with | [_], _ => rfl⟩
  obtain ⟨fd__law_some_key, F__law_some_key⟩ := c.def_ 13 (d := d__law_some_key) rfl
  have A__law_some_key : At K mg "_law_some_key" s__law_some_key ["urn"] := ⟨_, _, F__law_some_key, He.glo_ok X G (c.fact 13 (f := .glo "_law_some_key") rfl), F__law_some_key.bindsN fun _ _ _ _ _ _ us hl => match us, hl with | [_], _ => rfl⟩
  obtain ⟨fd__law_state, F__law_state⟩ := c.def_ 14 (d := d__law_state) rfl
  have A__law_state : At K mg "_law_state" s__law_state ["card", "ticket", "place"] := ⟨_, _, F__law_state, He.glo_ok X G (c.fact 14 (f := .glo "_law_state") rfl), F__law_state.bindsN fun _ _ _ _ _ _ us hl => match us, hl with | [_, _, _], _ => rfl⟩
  obtain ⟨fd__law_bent, F__law_bent⟩ := c.def_ 15 (d := d__law_bent) rfl
  have A__law_bent : At K mg "_law_bent" s__law_bent ["urn", "card"] := ⟨_, _, F__law_bent, He.glo_ok X G (c.fact 15 (f := .glo "_law_bent") rfl), F__law_bent.bindsN fun _ _ _ _ _ _ us hl => match us, hl with | [_, _], _ => rfl⟩
  obtain ⟨fd_law, F_law⟩ := c.def_ 16 (d := d_law) rfl
  obtain ⟨t_PRIME, g_PRIME⟩ := He.int_ok X G (c.fact 30 (f := .int "PRIME" 97) rfl)
  obtain ⟨t_BESIDES, g_BESIDES⟩ := He.int_ok X G (c.fact 31 (f := .int "BESIDES" 5) rfl)
  have T : Txt mg := ⟨He.free_ok X G (c.fact 17 (f := .free "len") rfl), He.free_ok X G (c.fact 18 (f := .free "max") rfl), He.free_ok X G (c.fact 19 (f := .free "min") rfl), He.free_ok X G (c.fact 20 (f := .free "range") rfl), He.free_ok X G (c.fact 21 (f := .free "zip") rfl), He.free_ok X G (c.fact 22 (f := .free "sum") rfl), He.free_ok X G (c.fact 23 (f := .free "all") rfl), He.free_ok X G (c.fact 24 (f := .free "isinstance") rfl), He.free_ok X G (c.fact 25 (f := .free "int") rfl), He.free_ok X G (c.fact 26 (f := .free "bool") rfl), He.free_ok X G (c.fact 27 (f := .free "str") rfl), He.free_ok X G (c.fact 28 (f := .free "tuple") rfl), He.free_ok X G (c.fact 29 (f := .free "list") rfl), _, g_PRIME, ⟨_, rfl⟩, _, g_BESIDES, ⟨_, rfl⟩⟩
  have e := hfa.symm.trans (He.glo_ok X G (c.fact 16 (f := .glo "law") rfl))
  cases e
  have b := FunD.bindsA (ps := ["script"]) F_law fun _ _ _ _ _ _ us hl => match us, hl with | [_], _ => rfl
  refine ⟨fd_law, fun s v => b s [v] rfl, fun base _ _ => ?_⟩
  have D_whole := ok_whole (P := P) (w := w) (base := base) T A_is_whole
  have D_between := ok_between D_whole A_is_between
  have D_rest := ok_rest T D_between A_is_rest
  have D_sop := ok_sop (P := P) (w := w) (base := base) T A_sum_of_products
  have D_sums := ok_sums_of T D_sop A_sums_of
  have D_cells := ok_cells_of (P := P) (w := w) (base := base) T A_cells_of
  have D_looked := ok_looked T D_cells D_rest D_sums A_looked
  have D_cell := ok_cell (P := P) (w := w) (base := base) T A__law_cell
  have D_source := ok_source (P := P) (w := w) (base := base) T A__law_source
  have D_pick := ok_pick (P := P) (w := w) (base := base) A__law_pick
  have D_alike := ok_alike1 (P := P) (w := w) (base := base) T A__law_alike
  have D_lmade := ok_law_made (P := P) (w := w) (base := base) T A__law_made
  have D_key := ok_some_key T D_pick A__law_some_key
  have D_some := ok_some_cells T D_pick A__law_some_cells
  have D_state := ok_state (P := P) (w := w) (base := base) T A__law_state
  have D_bent := ok_bent T D_pick A__law_bent
  exact ok_law T D_source D_cell D_key D_some D_lmade D_pick D_bent D_looked D_state D_alike F_law
end Hx
open PySem PySem.W PySem.Calls PyProof.Rows in
set_option maxRecDepth 100000 in
set_option maxHeartbeats 0 in
theorem PySem.Challenge.cw_sherdhall_k29_how_cards_lie_wrong_holds : PySem.Challenge.rw_sherdhall_k29_how_cards_lie_wrong.Holds := by
  w_on; o_law
  refine HandSHeadRun.head_any (r := OpenLaw.row PySem.Challenge.rw_sherdhall_k29_how_cards_lie_wrong) (q := view (OpenLaw.row PySem.Challenge.rw_sherdhall_k29_how_cards_lie_wrong).prog [21]) (H := Hx.hk) (ob := Hx.ob) (M := 6000) (loose := Hx.loose) (d := HandSHeadRun.topDef (OpenLaw.row PySem.Challenge.rw_sherdhall_k29_how_cards_lie_wrong).prog 21) (kwd := []) Hx.ob_eq
    (by kernel_rfl) (fun s => by kernel_rfl) Hx.run (by kernel_rfl) (by kernel_rfl) (by kernel_rfl) (by rfl) (by first | assumption | decide +kernel) (by decide +kernel) ⟨rfl, rfl, rfl, rfl, rfl, by decide +kernel⟩ ?hw ?hc
  case hw => w_witness2
  case hc =>
    refine L2.walk_ofE (l := PySem.Challenge.rw_sherdhall_k29_how_cards_lie_wrong) (n := 63) (k := 5) (x := "script") (CX := L2.CX0) rfl (by decide) (by kernel_rfl) ⟨rfl, by decide, by decide⟩ ?F (fun _ _ _ _ z => z)
    intro w mg fa h Y G hmg0
    obtain ⟨K, KX, c⟩ := Y
    have hmg : mg ("law" : PySem.Str) = some (.ref fa) := by
      have e : (HandSHeadRun.topDef (OpenLaw.row PySem.Challenge.rw_sherdhall_k29_how_cards_lie_wrong).prog 21).name = ("law" : PySem.Str) := by kernel_rfl
      rw [← e]
      exact hmg0
    obtain ⟨fd, hb, hF⟩ := Hx.facts (P := (PySem.Challenge.rw_sherdhall_k29_how_cards_lie_wrong).prog) (w := w) KX G hmg c
    exact ⟨K, fd, Hx.spLaw K, KX, hb, fun H a ns hl _ hS => ⟨a, ns, rfl, hS, hl, fun _ => rfl⟩, hF⟩
