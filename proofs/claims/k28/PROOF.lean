import PyProof.Rows.All
import Wide.All
import OpenK.AllK
import Wide.FinOn
import KE.KStateDown
import HandS.Base
import HandS.Call
import HandS.Ends
import HandS.List
import HandS.Comp
import HandS.Iter
import HandS.More
import HandS.Words
import HandS.WordsList
import HandS.WordsExc
import HandS.Defaults
import HandS.Wide
import HandS.IsInst
import HandS.Walk
import HandS.Star
import HandS.Conv
import HandS.Zip
import HandS.TupAny
import KE.KEqSeq
import KE.KEqDeep
import HandS.Head0
import HandS.Head1
import HandS.Head2
import HandS.HeadEnd
import HandS.HeadHook1
import HandS.HeadHook2
import PySem.Challenge.RW_sherdhall_k28_whole_changed_cells_are_kn
set_option Elab.async false
set_option linter.all false
set_option maxRecDepth 100000
set_option maxHeartbeats 4000000
namespace Cm
open PySem PySem.Spec PyProof.Rows L2
/-! ### a def, known by its name -/
def Dn (P : Program) (w : World) (K : PySem.W.Frag) (mg : Str → Option Value) (base : Heap) (CX : CXT) (k : Nat) (x : Str) (ps : List Str) (sp : Sp) : Prop :=
  ∃ (f : Addr) (fd : FuncData), FnOk P w K mg base CX k f fd ps sp ∧ mg x = some (.ref f) ∧ PySem.W.keepIn K (.ref f) = true ∧ Binds K fd ps [] ∧ ∃ oc od osl, K.lookup f = some ⟨oc, od, .func fd, osl⟩
/-- where a def without defaults stands -/
def At (K : PySem.W.Frag) (mg : Str → Option Value) (x : Str) (st : Stmt) (ps : List Str) : Prop :=
  ∃ (f : Addr) (fd : FuncData), FunD K x x (defArgs st) (defBody st) (defScope st) [] [] f fd ∧ mg x = some (.ref f) ∧ Binds K fd ps []
theorem _root_.L2.FunD.look {K : PySem.W.Frag} {x qual : Str} {params : Arguments} {body : List Stmt} {scope : Scope} {dvs : List V} {kws : List (Str × V)} {f : Addr} {fd : FuncData} (F : FunD K x qual params body scope dvs kws f fd) : ∃ oc od osl, K.lookup f = some ⟨oc, od, .func fd, osl⟩ := by
  obtain ⟨oc, od, dV, kV, doc, pm, an, cdv, ct, osl, rfl, lk, _⟩ := F.ex
  exact ⟨_, _, _, lk⟩
section
variable {P : Program} {w : World} {K : PySem.W.Frag} {mg : Str → Option Value} {base : Heap}
theorem ok0 {x : Str} {st : Stmt} {N ps : List Str} {k : Nat} {sp : Sp} {f : Addr} {fd : FuncData} (F : FunD K x x (defArgs st) (defBody st) (defScope st) [] [] f fd) (S : FnScope N ps (defScope st)) (len : ∀ vs H Q E, sp vs H Q E → vs.length = ps.length)
    (hbody : ∀ (f : Addr) (cdv : Value) (A : Around) (outer : List Env) (s : Shared) (H : Hp) (vs : List V) (Q : VK) (E : XK), Room k (A.deeper (envOfC x (defScope st) s.heap.objs.size f cdv)) → sp vs H Q E →
      ∃ t, PSs (cxOf CX0 P w K mg base N x (defScope st) f cdv A outer s H E).nox (defBody st) t ∧ t { nx := fun _ H' => Q .non H', rt := Q } (start N vs) H) : FnOk P w K mg base CX0 (k + 1) f fd ps sp := by
  refine F.ok S len fun cdv A outer s H vs Q E hr h => ?_
  obtain ⟨t, h1, h2⟩ := hbody f cdv A outer s H vs Q E hr h
  exact ⟨t, h1.nox, h2⟩
theorem At.ok {x : Str} {st : Stmt} {N ps : List Str} {k : Nat} {sp : Sp} (F : At K mg x st ps) (S : FnScope N ps (defScope st)) (len : ∀ vs H Q E, sp vs H Q E → vs.length = ps.length)
    (hbody : ∀ (f : Addr) (cdv : Value) (A : Around) (outer : List Env) (s : Shared) (H : Hp) (vs : List V) (Q : VK) (E : XK), Room k (A.deeper (envOfC x (defScope st) s.heap.objs.size f cdv)) → sp vs H Q E →
      ∃ t, PSs (cxOf CX0 P w K mg base N x (defScope st) f cdv A outer s H E).nox (defBody st) t ∧ t { nx := fun _ H' => Q .non H', rt := Q } (start N vs) H) : Dn P w K mg base CX0 (k + 1) x ps sp := by
  obtain ⟨f, fd, F, hm, hb⟩ := F
  refine ⟨f, fd, F.ok S len fun cdv A outer s H vs Q E hr h => ?_, hm, F.kp, hb, F.look⟩
  obtain ⟨t, h1, h2⟩ := hbody f cdv A outer s H vs Q E hr h
  exact ⟨t, h1.nox, h2⟩
end
section
variable {X : Cx} {k : Nat} {x : Str} {ps : List Str} {sp : Sp} {p pos : Pos} {e : Expr} {es : List Expr} {t : TA}
theorem pe_callD (D : Dn X.prog X.w X.K X.mg X.base CX0 k x ps sp) (hr : Room k X.A) (ha : PA X (e :: es) t) (hg : Gl X x := by rfl) (hdb : (x == ("__debug__" : Str)) = false := by decide)
    (he : starEach (e :: es) X.env = (false, eval e X.env) :: starEach es X.env := by rfl) (hpl : (backTo pos (starEach es X.env)).any (·.1) = false := by rfl) :
    PE X (.Call (.Name x p) (e :: es) [] pos) (tCall sp [] E0 t) := by
  obtain ⟨f, fd, F, hm, hk, hb, _⟩ := D
  exact pe_call F hr hg hm hk hb .nil pass0 ha hdb he hpl
end
/-! ### powers of ints of any size -/
def CPowW (i j : Int) : Prop := 0 ≤ j ∧ (Builtin.Int.intBits i : Int) * j ≤ 2 ^ 27
theorem CPowW.mk {i : Int} {n a : Nat} (ha : i.natAbs < 2 ^ a) (h0 : 0 < a) (h : a * n ≤ 100000000) : CPowW i n := by
  refine ⟨Int.natCast_nonneg _, ?_⟩
  have b : Builtin.Int.intBits i ≤ i.natAbs.log2 + 1 := by
    unfold Builtin.Int.intBits
    split <;> omega
  have x := PySem.Flt.log2_lt_of h0 ha
  have c : Builtin.Int.intBits i ≤ a := by omega
  have d : Builtin.Int.intBits i * n ≤ a * n := Nat.mul_le_mul_right _ c
  have e : ((Builtin.Int.intBits i * n : Nat) : Int) ≤ ((100000000 : Nat) : Int) := Int.ofNat_le.mpr (Nat.le_trans d h)
  rw [Int.natCast_mul] at e
  have e2 : ((100000000 : Nat) : Int) ≤ 2 ^ 27 := by decide
  exact Int.le_trans e e2
theorem op_powW {X : Cx} : OpR X (binaryOp .Pow) (rI CPowW fun i j => .int (i ^ j.toNat)) := opI fun _ _ _ _ _ _ _ hc q => pow_int hc.1 hc.2 q
/-! ### tests -/
theorem iteD {c A B : Prop} [Decidable c] (h1 : c → A) (h2 : ¬ c → B) : if decide c = true then A else B := by
  by_cases h : c
  · rw [decide_eq_true h]; exact iteT (h1 h)
  · rw [decide_eq_false h]; exact iteF (h2 h)
theorem iteDn {c A B : Prop} [Decidable c] (h1 : ¬ c → A) (h2 : c → B) : if (!decide c) = true then A else B := by
  by_cases h : c
  · rw [decide_eq_true h]; exact iteF (h2 h)
  · rw [decide_eq_false h]; exact iteT (h1 h)
theorem iteI {x y : Int} {A B : Prop} (h1 : x = y → A) (h2 : ¬ x = y → B) : if decide (V.int x = V.int y) = true then A else B :=
  iteD (fun h => h1 (V.int.inj h)) (fun h => h2 fun e => h (congrArg V.int e))
theorem iteIn {x y : Int} {A B : Prop} (h1 : ¬ x = y → A) (h2 : x = y → B) : if (!decide (V.int x = V.int y)) = true then A else B :=
  iteDn (fun h => h1 fun e => h (congrArg V.int e)) (fun h => h2 (V.int.inj h))
theorem iteB {b : Bool} {A B : Prop} (h1 : b = true → A) (h2 : b = false → B) : if b = true then A else B := by
  cases b with
  | true => exact iteT (h1 rfl)
  | false => exact iteF (h2 rfl)
theorem iteBn {b : Bool} {A B : Prop} (h1 : b = false → A) (h2 : b = true → B) : if (!b) = true then A else B := by
  cases b with
  | true => exact iteF (h2 rfl)
  | false => exact iteT (h1 rfl)
/-! ### heaps -/
/-- all that was tracked, but p, is as it was -/
def Kp (p : Addr) (H H' : Hp) : Prop := ∀ b o, H b = some o → b ≠ p → H' b = some o
theorem Kp.refl (p : Addr) (H : Hp) : Kp p H H := fun _ _ h _ => h
theorem Kp.trans {p : Addr} {H H1 H2 : Hp} (a : Kp p H H1) (b : Kp p H1 H2) : Kp p H H2 := fun c o h n => b c o (a c o h n) n
theorem Kp.of {p : Addr} {H H1 : Hp} (a : Same H H1) : Kp p H H1 := fun c o h _ => a c o h
theorem Kp.new {p a : Addr} {H : Hp} {o : HO} (n : H a = none) : Kp p H (upd H a o) := fun c u h _ => by rw [upd_ne (ne_of_none h n)]; exact h
theorem Kp.put {p : Addr} {H : Hp} {o : HO} : Kp p H (upd H p o) := fun c u h n => by rw [upd_ne n]; exact h
theorem Same.new {a : Addr} {H : Hp} {o : HO} (n : H a = none) : Same H (upd H a o) := fun c u h => by rw [upd_ne (ne_of_none h n)]; exact h
theorem old {H : Hp} {a p : Addr} {o u : HO} (h : H a = some u) (n : H p = none) : upd H p o a = some u := by rw [upd_ne (ne_of_none h n)]; exact h
/-- p was free ahead: what is kept but p is kept -/
theorem Kp.same {p : Addr} {H0 H H' : Hp} (s : Same H0 H) (n : H0 p = none) (k : Kp p H H') : Same H0 H' := fun b o h => k b o (s b o h) (ne_of_none h n)
end Cm
namespace Cm
open PySem PySem.Spec PyProof.Rows L2
theorem at_ints {ns : List Int} {k : Int} (h0 : 0 ≤ k) (h : k < ns.length) : ∃ z, z ∈ ns ∧ ns[k.toNat]? = some z ∧ atI (ns.map V.int) k = some (.int z) := by
  have hk : k.toNat < ns.length := by omega
  refine ⟨ns[k.toNat], List.getElem_mem _, List.getElem?_eq_getElem hk, ?_⟩
  obtain ⟨j, rfl⟩ : ∃ j : Nat, k = (j : Int) := ⟨k.toNat, by omega⟩
  refine atI_nat ?_
  rw [List.getElem?_map, List.getElem?_eq_getElem (by omega)]
  rfl
theorem p10_18 : (10 : Int) ^ (18 : Int).toNat = 1000000000000000000 := by decide
end Cm
namespace Cm
open PySem PySem.Spec PyProof.Rows L2
/-! ### comprehensions that leave what stood -/
section
variable {J : It} {n : Nat} {G : Hp → Prop} {Y : Nat → Hp → V → Hp → Prop}
theorem lc_map (w : Walk J n G Y) {g : TG} {tt : TT} {te : TE} {vs : List Nat} {σ : L2.St} {H1 : Hp} {D : Addr} {Qd : Hp → Prop} (f : Nat → V) (hD : H1 D = none) (hn : n ≤ sizeLine) (hG : ∀ H, Same H1 H → G H)
    (hs : ∀ i x H H' (R : V → Hp → Prop) (R' : Hp → Prop), i < n → Same H1 H → Y i H x H' → (∀ H4, Same H H4 → R (f i) H4) → g x (wipe σ vs) H' fun σ2 H2 => wipe σ2 vs = wipe σ vs ∧ tt σ2 H2 fun b H3 => if b = true then te σ2 H3 R else R' H3)
    (hd : ∀ H, Same H1 H → H D = some (.lst ((List.range n).map f)) → Qd H) :
    ∃ W : Nat → Nat → Hp → Prop, (∃ m, W 0 m (upd H1 D (.lst []))) ∧ ∀ i m H, W i m H →
      (J.stop i H ∧ Qd H) ∨ (J.go i H ∧ ∃ Nx : Hp → Prop, (∀ H', Nx H' → ∃ m', m' < m ∧ W (i + 1) m' H') ∧ ∀ x H', J.yld i H x H' → g x (wipe σ vs) H' fun σ2 H2 => wipe σ2 vs = wipe σ vs ∧ tt σ2 H2 fun b H3 =>
        if b = true then te σ2 H3 fun y H4 => ∃ acc, H4 D = some (.lst acc) ∧ acc.length < sizeLine ∧ Nx (upd H4 D (.lst (acc ++ [y]))) else Nx H3) := by
  refine lc_it w (fun i H => Same H1 H ∧ H D = some (.lst ((List.range i).map f))) ⟨Same.new hD, upd_same⟩ (fun i H _ p => hG H p.1) ?_ (fun H p => hd H p.1 p.2)
  intro i x H H' hi p y
  refine hs i x H H' _ _ hi p.1 y fun H4 s4 => ?_
  refine ⟨_, s4 _ _ p.2, by rw [List.length_map, List.length_range]; omega, fun b o e => ?_, ?_⟩
  · rw [upd_ne (ne_of_none e hD)]
    exact s4 _ _ (p.1 _ _ e)
  · rw [upd_same, List.range_succ, List.map_append]
    rfl
theorem lc_ints (w : Walk J n G Y) {g : TG} {tt : TT} {te : TE} {vs : List Nat} {σ : L2.St} {H1 : Hp} {D : Addr} {Qd : Hp → Prop} (f : Nat → Int) (hD : H1 D = none) (hn : n ≤ sizeLine) (hG : ∀ H, Same H1 H → G H)
    (hs : ∀ i x H H' (R : V → Hp → Prop) (R' : Hp → Prop), i < n → Same H1 H → Y i H x H' → (∀ H4, Same H H4 → R (.int (f i)) H4) → g x (wipe σ vs) H' fun σ2 H2 => wipe σ2 vs = wipe σ vs ∧ tt σ2 H2 fun b H3 => if b = true then te σ2 H3 R else R' H3)
    (hd : ∀ H, Same H1 H → H D = some (.lst (((List.range n).map f).map V.int)) → Qd H) :
    ∃ W : Nat → Nat → Hp → Prop, (∃ m, W 0 m (upd H1 D (.lst []))) ∧ ∀ i m H, W i m H →
      (J.stop i H ∧ Qd H) ∨ (J.go i H ∧ ∃ Nx : Hp → Prop, (∀ H', Nx H' → ∃ m', m' < m ∧ W (i + 1) m' H') ∧ ∀ x H', J.yld i H x H' → g x (wipe σ vs) H' fun σ2 H2 => wipe σ2 vs = wipe σ vs ∧ tt σ2 H2 fun b H3 =>
        if b = true then te σ2 H3 fun y H4 => ∃ acc, H4 D = some (.lst acc) ∧ acc.length < sizeLine ∧ Nx (upd H4 D (.lst (acc ++ [y]))) else Nx H3) :=
  lc_map w (fun i => .int (f i)) hD hn hG hs fun H s e => hd H s (by rw [e, List.map_map]; rfl)
theorem lc_bools (w : Walk J n G Y) {g : TG} {tt : TT} {te : TE} {vs : List Nat} {σ : L2.St} {H1 : Hp} {D : Addr} {Qd : Hp → Prop} (f : Nat → Bool) (hD : H1 D = none) (hn : n ≤ sizeLine) (hG : ∀ H, Same H1 H → G H)
    (hs : ∀ i x H H' (R : V → Hp → Prop) (R' : Hp → Prop), i < n → Same H1 H → Y i H x H' → (∀ H4, Same H H4 → R (.bl (f i)) H4) → g x (wipe σ vs) H' fun σ2 H2 => wipe σ2 vs = wipe σ vs ∧ tt σ2 H2 fun b H3 => if b = true then te σ2 H3 R else R' H3)
    (hd : ∀ H, Same H1 H → H D = some (.lst (((List.range n).map f).map V.bl)) → Qd H) :
    ∃ W : Nat → Nat → Hp → Prop, (∃ m, W 0 m (upd H1 D (.lst []))) ∧ ∀ i m H, W i m H →
      (J.stop i H ∧ Qd H) ∨ (J.go i H ∧ ∃ Nx : Hp → Prop, (∀ H', Nx H' → ∃ m', m' < m ∧ W (i + 1) m' H') ∧ ∀ x H', J.yld i H x H' → g x (wipe σ vs) H' fun σ2 H2 => wipe σ2 vs = wipe σ vs ∧ tt σ2 H2 fun b H3 =>
        if b = true then te σ2 H3 fun y H4 => ∃ acc, H4 D = some (.lst acc) ∧ acc.length < sizeLine ∧ Nx (upd H4 D (.lst (acc ++ [y]))) else Nx H3) :=
  lc_map w (fun i => .bl (f i)) hD hn hG hs fun H s e => hd H s (by rw [e, List.map_map]; rfl)
end
/-! ### plain values and their built-in types -/
inductive Ty (K : PySem.W.Frag) (H : Hp) : V → String → Prop where
  | non : Ty K H .non "NoneType"
  | bl (x : Bool) : Ty K H (.bl x) "bool"
  | int (i : Int) : Ty K H (.int i) "int"
  | str (x : Str) : Ty K H (.str x) "str"
  | lst {a : Addr} {xs : List V} (e : SqL K H a xs) : Ty K H (.ref a) "list"
  | tup {a : Addr} {xs : List V} (e : SqT K H a xs) : Ty K H (.ref a) "tuple"
  | dK {a : Addr} {kvs : List (Key × V)} (e : H a = some (.dK kvs)) : Ty K H (.ref a) "dict"
theorem Ty.x {K : PySem.W.Frag} {H : Hp} {v : V} {n : String} (h : Ty K H v n) : TyX K H v (.type n) := by
  cases h with
  | non => exact .base .non
  | bl x => exact .base (.bl x)
  | int i => exact .base (.int i)
  | str x => exact .base (.str x)
  | lst e =>
    rcases e with (e | ⟨o, e⟩) | ⟨o, its, n, hk, hc, _⟩
    · exact .base (.lst e)
    · exact .base (.frz e)
    · exact .kList hk hc
  | tup e =>
    rcases e with (e | ⟨o, e⟩) | ⟨o, its, n, hk, hc, _⟩
    · exact .base (.tup e)
    · exact .fTuple e
    · exact .kTuple hk hc
  | dK e => exact .base (.dK e)
theorem Same.sqt {K : PySem.W.Frag} {H H' : Hp} {a : Addr} {xs : List V} (e : Same H H') (h : SqT K H a xs) : SqT K H' a xs := by
  rcases h with (h | ⟨o, h⟩) | h
  · exact .inl (.inl (e _ _ h))
  · exact .inl (.inr ⟨o, e _ _ h⟩)
  · exact .inr h
theorem Ty.same {K : PySem.W.Frag} {H H' : Hp} {v : V} {n : String} (s : Same H H') (h : Ty K H v n) : Ty K H' v n := by
  cases h with
  | non => exact .non
  | bl x => exact .bl x
  | int i => exact .int i
  | str x => exact .str x
  | lst e => exact .lst (s.seq e)
  | tup e => exact .tup (Same.sqt s e)
  | dK e => exact .dK (s _ _ e)
theorem Ty.names {K : PySem.W.Frag} {H : Hp} {v : V} {n : String} (h : Ty K H v n) : n ∈ ["NoneType", "bool", "int", "str", "list", "tuple", "dict"] := by
  cases h <;> decide
theorem kit_names {c : String} (hc : c ∈ ["bool", "int", "str", "list", "tuple", "dict"]) {n : String} (h : n ∈ ["NoneType", "bool", "int", "str", "list", "tuple", "dict"]) : kitB n c = some (n == c || (n == "bool" && c == "int")) := by
  have key : ∀ c ∈ ["bool", "int", "str", "list", "tuple", "dict"], ∀ n ∈ ["NoneType", "bool", "int", "str", "list", "tuple", "dict"], kitB n c = some (n == c || (n == "bool" && c == "int")) := by decide +kernel
  exact key c hc n h
theorem Ty.kit {K : PySem.W.Frag} {H : Hp} {v : V} {n : String} (h : Ty K H v n) (c : String) (hc : c ∈ ["bool", "int", "str", "list", "tuple", "dict"] := by decide) : PySem.W.kitOne K (.type n) (.type c) = some (n == c || (n == "bool" && c == "int")) := kit_ty (kit_names hc h.names)
end Cm
namespace Cm
open L2
theorem small1000' {n : Nat} (h : n ≤ 1000000) : n ≤ PySem.sizeLine := Nat.le_trans h (by decide)
end Cm
namespace Cm
open L2
theorem map_get {α : Type} [Inhabited α] {c : α → V} {xs : List α} {i : Nat} {x : V} (h : i < xs.length) (e : (xs.map c)[i]? = some x) : x = c (xs.getD i default) := by
  rw [List.getElem?_map, List.getElem?_eq_getElem h] at e
  simp [List.getD, h]
  exact (Option.some.inj e).symm
theorem getD_in {α : Type} [Inhabited α] {xs : List α} {i : Nat} (h : i < xs.length) : xs.getD i default ∈ xs := by
  simp [List.getD, h]
end Cm
namespace Cm
open PySem PySem.Spec PyProof.Rows L2
/-! ### == of lists and tuples of ints -/
theorem dp_ints {K : PySem.W.Frag} {H : Hp} : ∀ xs : List Int, DpAll K H (xs.map V.int) (xs.map PyData.int)
  | [] => .nil
  | x :: xs => .cons (.int x) (dp_ints xs)
theorem dpL {K : PySem.W.Frag} {H : Hp} {a : Addr} {xs : List Int} (h : SqL K H a (xs.map V.int)) : Dp K H (.ref a) (.list (xs.map PyData.int)) := .lst h (dp_ints xs)
theorem dpT {K : PySem.W.Frag} {H : Hp} {a : Addr} {xs : List Int} (h : SqT K H a (xs.map V.int)) : Dp K H (.ref a) (.tuple (xs.map PyData.int)) := .tup h (dp_ints xs)
theorem shL (ns : List Int) : SeqAt.shaped (.list (ns.map PyData.int)) = true := PySem.W.ke_shaped_ints ns
theorem shT (ns : List Int) : SeqAt.shaped (.tuple (ns.map PyData.int)) = true := by
  have h := shL ns
  unfold SeqAt.shaped at h ⊢
  simp only [PyData.canLay0, PyData.depth] at h ⊢
  exact h
theorem eqvL (xs ys : List Int) : PyData.eqv (.list (xs.map PyData.int)) (.list (ys.map PyData.int)) = decide (xs = ys) := by rw [PyData.eqv, PySem.W.ked_eqvAll]
theorem eqvT (xs ys : List Int) : PyData.eqv (.tuple (xs.map PyData.int)) (.tuple (ys.map PyData.int)) = decide (xs = ys) := by rw [PyData.eqv, PySem.W.ked_eqvAll]
end Cm
namespace Cm
theorem range_map {α β : Type} [Inhabited α] (g : α → β) (xs : List α) : (List.range xs.length).map (fun i => g (xs.getD i default)) = xs.map g := by
  apply List.ext_getElem?
  intro i
  by_cases h : i < xs.length
  · simp [List.getD, h]
  · have h2 : xs.length ≤ i := by omega
    rw [List.getElem?_eq_none (by simpa using h2), List.getElem?_eq_none (by simpa using h2)]
end Cm
namespace Cm
open PySem PySem.Spec PyProof.Rows L2
/-- zip of two tuples, as a walk -/
theorem walk_zipT {K : PySem.W.Frag} {a b : Addr} {xs ys : List V} {n : Nat} (hn : n = min xs.length ys.length) : Walk (RZ.ItzT K a b) n (fun H => SqT K H a xs ∧ SqT K H b ys) (YPair (fun i => xs[i]?) (fun i => ys[i]?)) := by
  subst hn
  refine ⟨fun i _ hi q => ?_, fun _ q => ⟨xs, ys, q.1, q.2, by omega⟩, fun i H v H' _ q y => ?_⟩
  · have h1 : i < xs.length := by omega
    have h2 : i < ys.length := by omega
    exact ⟨xs, ys, xs[i], ys[i], q.1, q.2, by simp [h1], by simp [h2]⟩
  · obtain ⟨T, x, z, h1, h2, h3, h4, h5⟩ := y
    exact ⟨T, x, z, h1, h2, h3, h4 xs q.1, h5 ys q.2⟩
/-- a def that is never called so -/
theorem At.none {P : Program} {w : World} {K : PySem.W.Frag} {mg : Str → Option Value} {base : Heap} {x : Str} {st : Stmt} {ps : List Str} (F : At K mg x st ps) (k : Nat) : Dn P w K mg base CX0 k x ps (fun _ _ _ _ => False) := by
  obtain ⟨f, fd, F, hm, hb⟩ := F
  exact ⟨f, fd, ⟨fun _ _ _ _ h => h.elim, fun _ _ _ _ _ _ _ _ _ _ _ _ _ h => h.elim⟩, hm, F.kp, hb, F.look⟩
end Cm
namespace Cm
open PySem PySem.Spec PyProof.Rows L2
theorem Dn.mono {P : Program} {w : World} {K : PySem.W.Frag} {mg : Str → Option Value} {base : Heap} {j k : Nat} {x : Str} {ps : List Str} {sp : Sp} (D : Dn P w K mg base CX0 j x ps sp) (h : j ≤ k) : Dn P w K mg base CX0 k x ps sp := by
  obtain ⟨f, fd, F, r⟩ := D
  exact ⟨f, fd, F.mono h, r⟩
theorem Dn.imp {P : Program} {w : World} {K : PySem.W.Frag} {mg : Str → Option Value} {base : Heap} {k : Nat} {x : Str} {ps : List Str} {sp sp' : Sp} (D : Dn P w K mg base CX0 k x ps sp) (h : ∀ vs H Q E, sp' vs H Q E → sp vs H Q E) : Dn P w K mg base CX0 k x ps sp' := by
  obtain ⟨f, fd, F, r⟩ := D
  exact ⟨f, fd, F.imp h, r⟩
/-- two promises of one def -/
theorem Dn.or {P : Program} {w : World} {K : PySem.W.Frag} {mg : Str → Option Value} {base : Heap} {k : Nat} {x : Str} {ps : List Str} {sp1 sp2 : Sp} (D : Dn P w K mg base CX0 k x ps sp1) (D' : Dn P w K mg base CX0 k x ps sp2) :
    Dn P w K mg base CX0 k x ps (fun vs H Q E => sp1 vs H Q E ∨ sp2 vs H Q E) := by
  obtain ⟨f, fd, F, hm, hk, hb, oc, od, osl, lk⟩ := D
  obtain ⟨f', fd', F', hm', _, _, oc', od', osl', lk'⟩ := D'
  rw [hm] at hm'
  cases hm'
  rw [lk] at lk'
  cases lk'
  refine ⟨f, fd, ⟨fun vs H Q E h => ?_, fun A outer s H args us vs Q E hr e b v h => ?_⟩, hm, hk, hb, oc, od, osl, lk⟩
  · rcases h with h | h
    · exact F.len _ _ _ _ h
    · exact F'.len _ _ _ _ h
  · rcases h with h | h
    · exact F.run A outer s H args us vs Q E hr e b v h
    · exact F'.run A outer s H args us vs Q E hr e b v h
end Cm
namespace Cm
open PySem PySem.Spec PyProof.Rows L2
section
variable {J : It} {n : Nat} {G : Hp → Prop} {Y : Nat → Hp → V → Hp → Prop}
/-- .. with a test: the values f i for which p holds -/
theorem lc_filt {α : Type} (c : α → V) (w : Walk J n G Y) {g : TG} {tt : TT} {te : TE} {vs : List Nat} {σ : L2.St} {H1 : Hp} {D : Addr} {Qd : Hp → Prop} (f : Nat → α) (p : α → Bool) (hD : H1 D = none) (hn : n ≤ sizeLine) (hG : ∀ H, Same H1 H → G H)
    (hs : ∀ i x H H' (R : V → Hp → Prop) (R' : Hp → Prop), i < n → Same H1 H → Y i H x H' → (∀ H4, Same H H4 → p (f i) = true → R (c (f i)) H4) → (∀ H4, Same H H4 → p (f i) = false → R' H4) → g x (wipe σ vs) H' fun σ2 H2 => wipe σ2 vs = wipe σ vs ∧ tt σ2 H2 fun b H3 => if b = true then te σ2 H3 R else R' H3)
    (hd : ∀ H, Same H1 H → H D = some (.lst ((((List.range n).map f).filter p).map c)) → Qd H) :
    ∃ W : Nat → Nat → Hp → Prop, (∃ m, W 0 m (upd H1 D (.lst []))) ∧ ∀ i m H, W i m H →
      (J.stop i H ∧ Qd H) ∨ (J.go i H ∧ ∃ Nx : Hp → Prop, (∀ H', Nx H' → ∃ m', m' < m ∧ W (i + 1) m' H') ∧ ∀ x H', J.yld i H x H' → g x (wipe σ vs) H' fun σ2 H2 => wipe σ2 vs = wipe σ vs ∧ tt σ2 H2 fun b H3 =>
        if b = true then te σ2 H3 fun y H4 => ∃ acc, H4 D = some (.lst acc) ∧ acc.length < sizeLine ∧ Nx (upd H4 D (.lst (acc ++ [y]))) else Nx H3) := by
  refine lc_it w (fun i H => Same H1 H ∧ H D = some (.lst ((((List.range i).map f).filter p).map c))) ⟨Same.new hD, upd_same⟩ (fun i H _ p => hG H p.1) ?_ (fun H p => hd H p.1 p.2)
  intro i x H H' hi ps y
  have e : ((((List.range (i + 1)).map f).filter p).map c) = ((((List.range i).map f).filter p).map c) ++ (if p (f i) = true then [c (f i)] else []) := by
    rw [List.range_succ, List.map_append, List.filter_append, List.map_append]
    congr 1
    by_cases h : p (f i) = true
    · simp [h]
    · simp [h]
  refine hs i x H H' _ _ hi ps.1 y (fun H4 s4 pt => ?_) fun H4 s4 pf => ?_
  · refine ⟨_, s4 _ _ ps.2, ?_, fun b o e => ?_, ?_⟩
    · have := List.length_filter_le p ((List.range i).map f)
      rw [List.length_map] at this ⊢
      rw [List.length_range] at this
      omega
    · rw [upd_ne (ne_of_none e hD)]
      exact s4 _ _ (ps.1 _ _ e)
    · rw [upd_same, e, if_pos pt]
  · refine ⟨fun b o e => s4 _ _ (ps.1 _ _ e), ?_⟩
    rw [e, if_neg (by rw [pf]; decide), List.append_nil]
    exact s4 _ _ ps.2
end
end Cm
namespace Cm
open PySem PySem.Spec PyProof.Rows L2
/-! ### sum of a tuple of ints -/
section
variable {prog : Program} {w : World} {A : Around} {E : Value → Shared → Prop} {s : Shared} {l : Addr} {xs : Array (Int × Tok)}
theorem sum_tupG {Q : Value → Shared → Prop} (hh : A.handled = none) (hl : s.heap.IsTuple l (intItems xs))
    (h : ∀ h' tk t', (∀ b o, s.heap.get? b = some o → h'.get? b = some o) → Q (.int (preSum (numAt xs) xs.size) t') { s with heap := h', toks := tk }) :
    wpAny (model prog w) A (call (.builtin "sum") [.ref l]) Q E s := by
  have hlt : l < s.heap.objs.size := by obtain ⟨_, e, _⟩ := hl; exact Heap.lt_size e
  refine call_sum_walkG (wpAny_pyIter_tuple hl ?_)
  refine ⟨_, _, _, _, _, _, numAt xs, rfl, Walks.tuple (A := A.in1) hh _ l (Nat.ne_of_lt hlt) (intItems xs), ⟨⟨_, Heap.get?_push_size _ rfl, rfl, rfl⟩, hl.push _⟩, (fun b hb => ?_), (fun _ _ => intItems_at), fun h' tk t' hk => ?_⟩
  · show b < (s.heap.push _).objs.size
    rw [Heap.size_push]
    rcases List.mem_cons.mp hb with rfl | hb
    · exact Nat.lt_succ_self _
    · rcases List.mem_cons.mp hb with rfl | hb
      · exact Nat.lt_succ_of_lt hlt
      · cases hb
  · have := h h' tk t' fun b o e => by
      refine hk b o (fun hm => ?_) (Heap.get?_push_of_some _ e)
      rcases List.mem_cons.mp hm with e1 | hm
      · exact absurd (e1 ▸ Heap.lt_size e) (Nat.lt_irrefl _)
      · cases hm
    simpa [intItems] using this
end
def rSumT (K : PySem.W.Frag) : List V → Hp → VK → Prop := fun vs H Q => ∃ (a : Addr) (ns : List Int), vs = [V.ref a] ∧ SqT K H a (ns.map V.int) ∧ Q (.int ns.sum) H
theorem cr_sumT {X : Cx} (hc : X.calm = true) : CallR X (.builtin "sum") (rSumT X.K) := by
  intro pins s σ H vs us Q I r h
  obtain ⟨a, ns, rfl, hs, q⟩ := h
  obtain ⟨its, rv, hl, _⟩ := I.tuple hs
  rw [Vals.ref1 r]
  have hi := rv.ints
  obtain ⟨xs, e⟩ := hi.allInts.items
  have hn : numsOf (intItems xs).toList = ns := by rw [← e]; exact hi.numsOf
  rw [nums_intItems] at hn
  rw [e] at hl
  refine sum_tupG (I.ok.hd hc) hl fun h' tk t' hk => ?_
  rw [preSum_eq, List.take_of_length_le (by simp), hn]
  exact ⟨.int _, H, I.kept hk, ⟨_, rfl⟩, q⟩
end Cm
namespace Cm
open PySem PySem.Spec PyProof.Rows L2
section
variable {X : Cx} {o e : Expr} {es : List Expr} {to : TE} {t : TA} {name : Str} {apos cpos : Pos} {T id : String} {r : V → List V → Hp → VK → Prop}
theorem pe_bmK (K : PySem.W.Frag) (pa : PlainAttrs T) (slot : Slot T name id) (hty : typeOf (.builtin id) = pure (.type "method_descriptor")) (hm : MtR X id r) (ho : PE X o to) (ha : PA X (e :: es) t)
    (hK : X.K = K := by rfl) (hbase : attributeBase o name X.env (eval o X.env) = eval o X.env := by rfl)
    (hfew : ((backTo cpos (starEach (e :: es) X.env)).all (fun x => !x.1) && (backToKw cpos (keywordEach [] X.env)).all (fun x => x.1.isSome)
      && decide ((e :: es).length + ([] : List Keyword).length + (if ([] : List Keyword).isEmpty then 0 else 1) < 30)) = true := by rfl)
    (hline : (apos.endLine == cpos.line) = true := by rfl) (hs : starEach (e :: es) X.env = (false, eval e X.env) :: starEach es X.env := by rfl) (hplain : (backTo cpos (starEach es X.env)).any (·.1) = false := by rfl) :
    PE X (.Call (.Attribute o name apos) (e :: es) [] cpos) (tBM K T r to t) := by
  subst hK
  exact pe_bm pa slot hty hm ho ha hbase hfew hline hs hplain
end
end Cm

set_option Elab.async false
set_option linter.all false
set_option maxRecDepth 100000
set_option maxHeartbeats 4000000

namespace Hx
open PySem PySem.Spec PyProof.Rows L2 Cm
def top (i : Nat) : Stmt := PySem.Challenge.pw_sherdhall_k28_whole_changed_cells_are_kn.main.body.getD i (.Pass ⟨0, 0, 0, 0⟩)
abbrev s_is_whole : Stmt := top 2
abbrev s_is_between : Stmt := top 3
abbrev s_is_rest : Stmt := top 4
abbrev s_sum_of_products : Stmt := top 5
abbrev s_sums_of : Stmt := top 8
abbrev s_cells_of : Stmt := top 9
abbrev s_looked : Stmt := top 10
abbrev s__law_cell : Stmt := top 12
abbrev s__law_source : Stmt := top 13
abbrev s__law_pick : Stmt := top 14
abbrev s__law_alike : Stmt := top 15
abbrev s__law_made : Stmt := top 16
abbrev s__law_some_cells : Stmt := top 17
abbrev s__law_some_key : Stmt := top 18
abbrev s__law_state : Stmt := top 19
abbrev s__law_turned : Stmt := top 20
abbrev s__law_places : Stmt := top 21
abbrev s__law_known : Stmt := top 22
abbrev s_law : Stmt := top 23
structure Txt (mg : Str → Option Value) where
  n_len : mg "len" = none
  n_max : mg "max" = none
  n_min : mg "min" = none
  n_range : mg "range" = none
  n_zip : mg "zip" = none
  n_sum : mg "sum" = none
  n_all : mg "all" = none
  n_isinstance : mg "isinstance" = none
  n_int : mg "int" = none
  n_bool : mg "bool" = none
  n_str : mg "str" = none
  n_tuple : mg "tuple" = none
  n_list : mg "list" = none
  u_PRIME : Value
  g_PRIME : mg "PRIME" = some u_PRIME
  v_PRIME : RelV (.int 97) u_PRIME
  u_BESIDES : Value
  g_BESIDES : mg "BESIDES" = some u_BESIDES
  v_BESIDES : RelV (.int 5) u_BESIDES
/-! ### numbers by 97 -/
theorem mod_ml (a b : Int) : (a % 97 * b) % 97 = a * b % 97 := by rw [Int.mul_emod, Int.emod_emod, ← Int.mul_emod]
theorem mod_mr (a b : Int) : (a * (b % 97)) % 97 = a * b % 97 := by rw [Int.mul_emod, Int.emod_emod, ← Int.mul_emod]
theorem mod_pw (a : Int) : ∀ n : Nat, (a % 97) ^ n % 97 = a ^ n % 97
  | 0 => by rw [Int.pow_zero, Int.pow_zero]
  | n + 1 => by rw [Int.pow_succ, Int.pow_succ, Int.mul_emod, mod_pw a n, Int.emod_emod, ← Int.mul_emod]
theorem fermat {a : Int} (h : a % 97 ≠ 0) : a ^ 96 % 97 = 1 := by
  rw [← mod_pw]
  have h0 : 0 ≤ a % 97 := Int.emod_nonneg _ (by decide)
  have h1 : a % 97 < 97 := Int.emod_lt_of_pos _ (by decide)
  obtain ⟨n, hn⟩ : ∃ n : Nat, a % 97 = (n : Int) := ⟨(a % 97).toNat, by omega⟩
  rw [hn] at h h0 h1 ⊢
  have key : ∀ n : Fin 97, n.val ≠ 0 → ((n.val : Int)) ^ 96 % 97 = 1 := by decide +kernel
  exact key ⟨n, by omega⟩ (by simp; omega)
/-- a small enough number -/
def Bd (a : Int) : Prop := a.natAbs < 2 ^ 250
theorem Bd.mod (a : Int) : Bd (a % 97) := by
  have h0 : 0 ≤ a % 97 := Int.emod_nonneg _ (by decide)
  have h1 : a % 97 < 97 := Int.emod_lt_of_pos _ (by decide)
  have h2 : 97 < 2 ^ 250 := by decide
  unfold Bd
  omega
local macro_rules | `(tactic| walk_at "bd") => `(tactic| first | assumption | exact Bd.mod _ | (unfold Bd; decide))
local macro_rules | `(tactic| walk_at "rd") => `(tactic| repeat (first | refine ⟨_, rfl, ?_⟩ | refine ⟨_, _, rfl, rfl, ?_⟩ | refine ⟨_, _, rfl, ?_⟩ | refine ⟨_, _, _, rfl, ?_⟩ | refine ⟨rfl, ?_⟩ | refine ⟨(by walk_at "bd" : Bd _), ?_⟩))
local macro_rules | `(tactic| walk_at "mem") => `(tactic| first | assumption | exact upd_same | (refine old ?_ ?_ <;> walk_at "mem"))
local macro_rules | `(tactic| walk_at "sq") => `(tactic| first | assumption | (refine SqL.of ?_; walk_at "mem"))
section
variable {P : Program} {w : World} {K : PySem.W.Frag} {mg : Str → Option Value} {base : Heap}
theorem sc_is_whole : FnScope ["thing"] ["thing"] (defScope s_is_whole) := ⟨rfl, rfl, rfl, by decide +kernel, rfl, by decide +kernel, by decide +kernel⟩
theorem sc_is_between : FnScope ["thing", "least", "most"] ["thing", "least", "most"] (defScope s_is_between) := ⟨rfl, rfl, rfl, by decide +kernel, rfl, by decide +kernel, by decide +kernel⟩
theorem sc_is_rest : FnScope ["thing"] ["thing"] (defScope s_is_rest) := ⟨rfl, rfl, rfl, by decide +kernel, rfl, by decide +kernel, by decide +kernel⟩
theorem sc_sum_of_products : FnScope ["factors", "numbers", "factor", "number"] ["factors", "numbers"] (defScope s_sum_of_products) := ⟨rfl, rfl, rfl, by decide +kernel, rfl, by decide +kernel, by decide +kernel⟩
theorem sc_sums_of : FnScope ["cells", "many"] ["cells"] (defScope s_sums_of) := ⟨rfl, rfl, rfl, by decide +kernel, rfl, by decide +kernel, by decide +kernel⟩
theorem sc_cells_of : FnScope ["card"] ["card"] (defScope s_cells_of) := ⟨rfl, rfl, rfl, by decide +kernel, rfl, by decide +kernel, by decide +kernel⟩
theorem sc_looked : FnScope ["card", "ticket", "place", "cells", "cell"] ["card", "ticket", "place"] (defScope s_looked) := ⟨rfl, rfl, rfl, by decide +kernel, rfl, by decide +kernel, by decide +kernel⟩
theorem sc__law_cell : FnScope ["script", "k"] ["script", "k"] (defScope s__law_cell) := ⟨rfl, rfl, rfl, by decide +kernel, rfl, by decide +kernel, by decide +kernel⟩
theorem sc__law_source : FnScope ["cell", "place"] ["cell", "place"] (defScope s__law_source) := ⟨rfl, rfl, rfl, by decide +kernel, rfl, by decide +kernel, by decide +kernel⟩
theorem sc__law_pick : FnScope ["urn", "many", "found", "mixed"] ["urn", "many"] (defScope s__law_pick) := ⟨rfl, rfl, rfl, by decide +kernel, rfl, by decide +kernel, by decide +kernel⟩
theorem sc__law_alike : FnScope ["found", "due", "one", "other"] ["found", "due"] (defScope s__law_alike) := ⟨rfl, rfl, rfl, by decide +kernel, rfl, by decide +kernel, by decide +kernel⟩
theorem sc__law_made : FnScope ["ticket", "place", "cells", "one", "i", "two"] ["ticket", "place", "cells"] (defScope s__law_made) := ⟨rfl, rfl, rfl, by decide +kernel, rfl, by decide +kernel, by decide +kernel⟩
theorem sc__law_some_cells : FnScope ["urn", "way", "many", "wide", "k"] ["urn"] (defScope s__law_some_cells) := ⟨rfl, rfl, rfl, by decide +kernel, rfl, by decide +kernel, by decide +kernel⟩
theorem sc__law_some_key : FnScope ["urn", "way", "wide"] ["urn"] (defScope s__law_some_key) := ⟨rfl, rfl, rfl, by decide +kernel, rfl, by decide +kernel, by decide +kernel⟩
theorem sc__law_state : FnScope ["card", "ticket", "place", "cells", "cell", "one", "i", "two"] ["card", "ticket", "place"] (defScope s__law_state) := ⟨rfl, rfl, rfl, by decide +kernel, rfl, by decide +kernel, by decide +kernel⟩
theorem sc__law_turned : FnScope ["urn", "card", "places", "found", "place"] ["urn", "card", "places"] (defScope s__law_turned) := ⟨rfl, rfl, rfl, by decide +kernel, rfl, by decide +kernel, by decide +kernel⟩
theorem sc__law_places : FnScope ["urn", "many", "most", "left", "k"] ["urn", "many", "most"] (defScope s__law_places) := ⟨rfl, rfl, rfl, by decide +kernel, rfl, by decide +kernel, by decide +kernel⟩
theorem sc__law_known : FnScope ["urn", "ticket", "place", "card", "many", "k", "more"] ["urn", "ticket", "place", "card"] (defScope s__law_known) := ⟨rfl, rfl, rfl, by decide +kernel, rfl, by decide +kernel, by decide +kernel⟩
theorem sc_law : FnScope ["script", "k", "urn", "ticket", "place"] ["script"] (defScope s_law) := ⟨rfl, rfl, rfl, by decide +kernel, rfl, by decide +kernel, by decide +kernel⟩
def isInt : V → Bool
  | .int _ => true
  | _ => false
def betw (v : V) (lo hi : Int) : Bool := match v with
  | .int i => decide (lo ≤ i) && decide (i ≤ hi)
  | _ => false
theorem ty_isInt {K : PySem.W.Frag} {H : Hp} {v : V} {n : String} (h : Ty K H v n) : ((n == "int" || (n == "bool" && "int" == "int")) && !(n == "bool" || (n == "bool" && "bool" == "int"))) = isInt v := by
  cases h <;> rfl
def spWhole (K : PySem.W.Frag) : Sp := fun vs H Q _ => ∃ v n, vs = [v] ∧ Ty K H v n ∧ Q (.bl (isInt v)) H
def spBetw (K : PySem.W.Frag) : Sp := fun vs H Q _ => ∃ v n lo hi, vs = [v, .int lo, .int hi] ∧ Ty K H v n ∧ Q (.bl (betw v lo hi)) H
def spRest (K : PySem.W.Frag) : Sp := fun vs H Q _ => ∃ v n, vs = [v] ∧ Ty K H v n ∧ Q (.bl (betw v 0 96)) H
theorem ok_whole (T : Txt mg) (F : At K mg "is_whole" s_is_whole ["thing"]) : Dn P w K mg base CX0 1 "is_whole" ["thing"] (spWhole K) := by
  refine F.ok sc_is_whole (fun vs H Q E h => ?_) (fun f cdv A outer s H vs Q E hr h => ?_)
  · obtain ⟨v, n, rfl, _⟩ := h
    rfl
  · obtain ⟨v, n, rfl, ty, q⟩ := h
    refine ⟨_, (pss_one (ps_ret (pe_and (pe_callB (r := rIsi K) call_isi (by rfl) T.n_isinstance (by decide +kernel) (pa_cons (pv 0) (pa_cons (pe_bltn (v := .ty "int") (u := .type "int") (by rfl) T.n_int (by decide +kernel) (by exact rfl)) pa_nil))) (pe_one (pe_not (pe_callB (r := rIsi K) call_isi (by rfl) T.n_isinstance (by decide +kernel) (pa_cons (pv 0) (pa_cons (pe_bltn (v := .ty "bool") (u := .type "bool") (by rfl) T.n_bool (by decide +kernel) (by exact rfl)) pa_nil)))))))), ?_⟩
    rw [← ty_isInt ty] at q
    refine ⟨_, rfl, _, _, _, _, _, rfl, .ty "int", ty.x, ty.kit "int", ?_⟩
    refine ⟨_, rfl, iteB (fun h => ?_) fun h => ?_⟩
    · rw [h, Bool.true_and] at q
      exact ⟨_, rfl, _, _, _, _, _, rfl, .ty "bool", ty.x, ty.kit "bool", _, rfl, q⟩
    · rw [h, Bool.false_and] at q
      exact q
theorem ok_between (D_is_whole : Dn P w K mg base CX0 1 "is_whole" ["thing"] (spWhole K)) (F : At K mg "is_between" s_is_between ["thing", "least", "most"]) : Dn P w K mg base CX0 2 "is_between" ["thing", "least", "most"] (spBetw K) := by
  refine F.ok sc_is_between (fun vs H Q E h => ?_) (fun f cdv A outer s H vs Q E hr h => ?_)
  · obtain ⟨v, n, lo, hi, rfl, _⟩ := h
    rfl
  · obtain ⟨v, n, lo, hi, rfl, ty, q⟩ := h
    refine ⟨_, (pss_one (ps_ret (pe_and (pe_callD D_is_whole (by first | exact hr | exact hr.mono (by decide)) (pa_cons (pv 0) pa_nil)) (pe_one (pe_chain op_le op_le (pv 1) (pv 0) (pv 2)))))), ?_⟩
    refine ⟨_, rfl, _, _, rfl, ty, _, rfl, iteB (fun h => ?_) fun h => ?_⟩
    · obtain ⟨i, rfl⟩ : ∃ i, v = .int i := by
        cases v with
        | int i => exact ⟨i, rfl⟩
        | _ => cases h
      refine ⟨_, rfl, _, rfl, _, _, rfl, rfl, _, rfl, iteD (fun h1 => ?_) fun h1 => ?_⟩
      · refine ⟨_, rfl, _, _, rfl, rfl, ?_⟩
        have q' : Q (.bl (decide (lo ≤ i) && decide (i ≤ hi))) H := q
        rw [decide_eq_true h1, Bool.true_and] at q'
        exact q'
      · have q' : Q (.bl (decide (lo ≤ i) && decide (i ≤ hi))) H := q
        rw [decide_eq_false h1, Bool.false_and] at q'
        exact q'
    · have e : betw v lo hi = false := by
        cases v with
        | int i => cases h
        | _ => rfl
      rw [e] at q
      exact q
theorem ok_rest (T : Txt mg) (D_is_between : Dn P w K mg base CX0 2 "is_between" ["thing", "least", "most"] (spBetw K)) (F : At K mg "is_rest" s_is_rest ["thing"]) : Dn P w K mg base CX0 3 "is_rest" ["thing"] (spRest K) := by
  refine F.ok sc_is_rest (fun vs H Q E h => ?_) (fun f cdv A outer s H vs Q E hr h => ?_)
  · obtain ⟨v, n, rfl, _⟩ := h
    rfl
  · obtain ⟨v, n, rfl, ty, q⟩ := h
    refine ⟨_, (pss_one (ps_ret (pe_callD D_is_between (by first | exact hr | exact hr.mono (by decide)) (pa_cons (pv 0) (pa_cons pe_int (pa_cons (pe_op op_sub (pe_glob rfl T.g_PRIME (by exact T.v_PRIME)) pe_int) pa_nil)))))), ?_⟩
    exact ⟨_, rfl, _, _, rfl, rfl, v, n, _, _, rfl, ty, q⟩
/-- the products of both, each with each, added up -/
def dot (fs ns : List Int) : Int := (List.zipWith (· * ·) fs ns).sum
def spSop (K : PySem.W.Frag) : Sp := fun vs H Q _ => ∃ (a b : Addr) (fs ns : List Int), vs = [.ref a, .ref b] ∧ SqL K H a (fs.map V.int) ∧ SqL K H b (ns.map V.int) ∧ fs.length ≤ 100000 ∧ (∀ f ∈ fs, -(2 ^ 64) < f ∧ f < 2 ^ 64) ∧
  ∀ H', Same H H' → Q (.int (dot fs ns % 97)) H'
theorem zip_range {α β γ : Type} [Inhabited α] [Inhabited β] (f : α → β → γ) (xs : List α) (ys : List β) : (List.range (min xs.length ys.length)).map (fun i => f (xs.getD i default) (ys.getD i default)) = List.zipWith f xs ys := by
  apply List.ext_getElem?
  intro i
  rw [List.getElem?_map, List.getElem?_zipWith]
  by_cases h : i < min xs.length ys.length
  · rw [List.getElem?_range h]
    have h1 : i < xs.length := by omega
    have h2 : i < ys.length := by omega
    simp [List.getD, h1, h2]
  · have e : (List.range (min xs.length ys.length))[i]? = none := by rw [List.getElem?_eq_none_iff, List.length_range]; omega
    rw [e]
    by_cases h1 : i < xs.length
    · have h2 : ys[i]? = none := by rw [List.getElem?_eq_none_iff]; omega
      rw [h2]
      cases xs[i]? <;> rfl
    · have h2 : xs[i]? = none := by rw [List.getElem?_eq_none_iff]; omega
      rw [h2]
      rfl
theorem ok_sop (T : Txt mg) (F : At K mg "sum_of_products" s_sum_of_products ["factors", "numbers"]) : Dn P w K mg base CX0 1 "sum_of_products" ["factors", "numbers"] (spSop K) := by
  refine F.ok sc_sum_of_products (fun vs H Q E h => ?_) (fun f cdv A outer s H vs Q E hr h => ?_)
  · obtain ⟨a, b, fs, ns, rfl, _⟩ := h
    rfl
  · obtain ⟨a, b, fs, ns, rfl, ha, hb, hl, hf, q⟩ := h
    refine ⟨_, (pss_one (ps_ret (pe_op op_mod (pe_callB (r := rSum K) (cr_sum rfl) (by rfl) T.n_sum (by decide +kernel) (pa_cons (pe_lc (own := [("factor", 2), ("number", 3)]) (g := (gTup K 2 (gCons (gName 2) (gCons (gName 3) gNil)))) (by rfl) sc_sum_of_products.nd (pi_zip (by rfl) T.n_zip (pa_cons (pv 0) (pa_cons (pv 1) pa_nil))) (blkOk_by (own := [("factor", 2), ("number", 3)]) (N := ["factors", "numbers", "factor", "number"]) (sc := defScope s_sum_of_products) (by decide +kernel)) (fun _ _ _ _ _ => (pg_tup rfl (pgs_cons (pg_name (i := 2) sc_sum_of_products.nd rfl (Or.inl rfl) (Or.inr rfl)) (pgs_cons (pg_name (i := 3) sc_sum_of_products.nd rfl (Or.inl rfl) (Or.inr rfl)) pgs_nil)))) (fun _ _ _ _ _ => pts_nil) (fun _ _ _ _ _ => (pe_op op_mul (pv 2) (pv 3)))) pa_nil)) (pe_glob rfl T.g_PRIME (by exact T.v_PRIME))))), ?_⟩
    refine ⟨_, rfl, _, rfl, _, _, _, _, rfl, ha, hb, fun D nD => lc_ints (walk_zip rfl) (fun i => fs.getD i default * ns.getD i default) nD ?_ (fun H' s => ⟨s.seq ha, s.seq hb⟩) ?_ ?_⟩
    · rw [List.length_map, List.length_map]
      exact small1000' (by omega)
    · intro i x H1 H2 R R' hi s1 y k
      obtain ⟨t, x1, x2, rfl, nt, rfl, e1, e2⟩ := y
      have z1 : i < fs.length := by simp at hi; omega
      have z2 : i < ns.length := by simp at hi; omega
      obtain rfl := map_get z1 e1
      obtain rfl := map_get z2 e2
      refine ⟨_, _, rfl, SqT.of upd_same, rfl, _, _, rfl, _, _, rfl, rfl, rfl, _, rfl, _, rfl, _, _, rfl, rfl, .inl (hf _ (getD_in z1)), k _ (Same.new nt)⟩
    · intro H1 s1 e1
      refine ⟨_, _, rfl, SqL.of e1, ?_⟩
      refine ⟨_, _, rfl, rfl, (by show (0 : Int) < 97; decide), ?_⟩
      have z := q H1 s1
      unfold dot at z
      rw [← zip_range] at z
      simpa using z
def upTo (n : Nat) : List Int := (List.range n).map fun (i : Nat) => 1 + (i : Int)
def sum0 (cs : List Int) : Int := cs.sum % 97
def sum1 (cs : List Int) : Int := dot (upTo cs.length) cs % 97
theorem dot_ones : ∀ cs : List Int, dot (List.replicate cs.length 1) cs = cs.sum
  | [] => rfl
  | c :: cs => by
    have ih := dot_ones cs
    unfold dot at ih ⊢
    rw [List.length_cons, List.replicate_succ, List.zipWith_cons_cons, List.sum_cons, List.sum_cons, ih, Int.one_mul]
def spSums (K : PySem.W.Frag) : Sp := fun vs H Q _ => ∃ (a : Addr) (cs : List Int), vs = [.ref a] ∧ SqL K H a (cs.map V.int) ∧ cs.length ≤ 10000 ∧
  ∀ p H', Same H H' → H' p = some (.tup [.int (sum0 cs), .int (sum1 cs)]) → Q (.ref p) H'
theorem rep1 (n : Nat) : (List.replicate n [V.int 1]).flatten = (List.replicate n (1 : Int)).map V.int := by
  induction n with
  | zero => rfl
  | succ n ih => rw [List.replicate_succ, List.flatten_cons, ih, List.replicate_succ]; rfl
theorem rg_upTo (n : Nat) : rgV 1 ((n : Int) + 1) = (upTo n).map V.int := by
  unfold rgV upTo
  rw [List.map_map, show ((n : Int) + 1 - 1).toNat = n by omega]
  rfl
theorem upTo_bd {n : Nat} (h : n ≤ 10000) : ∀ f ∈ upTo n, -(2 ^ 64) < f ∧ f < 2 ^ 64 := by
  intro f hf
  obtain ⟨i, hi, rfl⟩ := List.mem_map.mp hf
  have := List.mem_range.mp hi
  omega
theorem ok_sums_of (T : Txt mg) (D_sum_of_products : Dn P w K mg base CX0 1 "sum_of_products" ["factors", "numbers"] (spSop K)) (F : At K mg "sums_of" s_sums_of ["cells"]) : Dn P w K mg base CX0 2 "sums_of" ["cells"] (spSums K) := by
  refine F.ok sc_sums_of (fun vs H Q E h => ?_) (fun f cdv A outer s H vs Q E hr h => ?_)
  · obtain ⟨a, cs, rfl, _⟩ := h
    rfl
  · obtain ⟨a, cs, rfl, ha, hl, q⟩ := h
    refine ⟨_, (pss_cons (ps_set (i := 1) sc_sums_of.nd rfl (by first | exact Or.inl rfl | exact Or.inr rfl) (pe_callB (r := rLen K) call_len (by rfl) T.n_len (by decide +kernel) (pa_cons (pv 0) pa_nil)))
  (pss_one (ps_ret (pe_tup (pa_cons (pe_callD D_sum_of_products (by first | exact hr | exact hr.mono (by decide)) (pa_cons (pe_op op_rep (pe_lst (pa_cons pe_int pa_nil)) (pv 1)) (pa_cons (pv 0) pa_nil))) (pa_cons (pe_callD D_sum_of_products (by first | exact hr | exact hr.mono (by decide)) (pa_cons (pe_listRg rfl (by rfl) T.n_list (prg_2 (by rfl) T.n_range pe_int (pe_op op_add (pv 1) pe_int))) (pa_cons (pv 0) pa_nil))) pa_nil)))))), ?_⟩
    refine ⟨_, rfl, _, _, rfl, .inl ⟨_, ha, rfl⟩, ?_⟩
    rw [List.length_map]
    refine ⟨by show 1 ≤ sizeLine; decide, fun l nl => ?_⟩
    refine ⟨_, rfl, _, _, _, rfl, rfl, upd_same, by omega, by omega, by show 1 * _ ≤ sizeLine; rw [Nat.one_mul]; exact small1000' (by omega), fun m nm => ?_⟩
    rw [Int.toNat_natCast, rep1]
    have s1 := Same.new (o := .lst [V.int 1]) nl
    have s2 := Same.trans s1 (Same.new (o := .lst ((List.replicate cs.length (1 : Int)).map V.int)) nm)
    refine ⟨_, rfl, _, _, _, _, rfl, SqL.of upd_same, s2.seq ha, by rw [List.length_replicate]; omega, fun f hf => by rw [List.eq_of_mem_replicate hf]; decide, fun H1 t1 => ?_⟩
    rw [dot_ones]
    refine ⟨_, rfl, _, _, rfl, rfl, _, _, rfl, rfl, RgOk.of_le (by omega) (by omega) (by omega) (by omega), fun r nr => ?_⟩
    rw [rg_upTo]
    have s3 := Same.trans (Same.trans s2 t1) (Same.new (o := .lst ((upTo cs.length).map V.int)) nr)
    refine ⟨_, rfl, _, _, _, _, rfl, SqL.of upd_same, s3.seq ha, by unfold upTo; rw [List.length_map, List.length_range]; omega, upTo_bd hl, fun H2 t2 => ?_⟩
    refine ⟨by show 2 ≤ sizeLine; decide, fun p np => ?_⟩
    exact q p _ (Same.trans (Same.trans s3 t2) (Same.new np)) upd_same
/-- a card's members -/
def cardOf (t pl : Int) (cs : List Int) : List Int := (5 + (cs.length : Int)) :: t :: pl :: (cs ++ [sum0 cs, sum1 cs])
/-- the cells of a card's members -/
def cellsOf (c : List Int) : List Int := (c.drop 3).take (c.length - 5)
def spCells (K : PySem.W.Frag) : Sp := fun vs H Q _ => ∃ (a : Addr) (c : List Int), vs = [.ref a] ∧ SqT K H a (c.map V.int) ∧ 5 ≤ c.length ∧
  ∀ p H', Same H H' → H p = none → H' p = some (.lst ((cellsOf c).map V.int)) → Q (.ref p) H'
theorem cut_cells {c : List Int} (h : 5 ≤ c.length) : cutV (c.map V.int) (some 3) (some (-2)) = (cellsOf c).map V.int := by
  unfold cutV cellsOf
  have e1 : HT.sIx (c.map V.int).length 0 (some 3) = 3 := by
    unfold HT.sIx
    simp
    omega
  have e2 : HT.sIx (c.map V.int).length (c.map V.int).length (some (-2)) = c.length - 2 := by
    unfold HT.sIx
    simp
    omega
  rw [e1, e2, List.map_take, List.map_drop, show c.length - 2 - 3 = c.length - 5 by omega]
theorem ok_cells_of (T : Txt mg) (F : At K mg "cells_of" s_cells_of ["card"]) : Dn P w K mg base CX0 1 "cells_of" ["card"] (spCells K) := by
  refine F.ok sc_cells_of (fun vs H Q E h => ?_) (fun f cdv A outer s H vs Q E hr h => ?_)
  · obtain ⟨a, c, rfl, _⟩ := h
    rfl
  · obtain ⟨a, c, rfl, ha, hl, q⟩ := h
    refine ⟨_, (pss_one (ps_ret (pe_callTy call_list_of (by rfl) T.n_list (by decide +kernel) (pa_cons (pe_slice (r := rSlT K) sl_tup (pv 0) (po_some pe_int) (po_some (pe_un un_neg pe_int))) pa_nil)))), ?_⟩
    refine ⟨_, rfl, _, rfl, _, rfl, _, rfl, _, _, rfl, ha, ?_, fun r nr => ?_⟩
    · intro z
      have z1 := z.1
      rw [show HT.sIx (c.map V.int).length 0 (some 3) = 3 from by unfold HT.sIx; simp; omega] at z1
      omega
    · rw [cut_cells hl]
      refine ⟨_, _, rfl, .inr (SqT.of upd_same), fun p np => ?_⟩
      exact q p _ (Same.trans (Same.new nr) (Same.new np)) (by
        cases e : H p with
        | none => rfl
        | some o => rw [old e nr] at np; cases np) upd_same
/-- how a card lies under a key -/
def rightCells (cs : List Int) : Bool := cs.all fun c => decide (0 ≤ c) && decide (c ≤ 96)
def lookF (c : List Int) (t pl : Int) : Str :=
  if c.length < 5 ∨ (c.length : Int) ≠ c.headD 0 then "torn" else if (c.drop 1).take 2 ≠ [t, pl] then "strange"
  else if rightCells (cellsOf c) = false ∨ c.drop (c.length - 2) ≠ [sum0 (cellsOf c), sum1 (cellsOf c)] then "spoilt" else "whole"
def spLooked (K : PySem.W.Frag) : Sp := fun vs H Q _ => ∃ (a : Addr) (c : List Int) (t pl : Int), vs = [.ref a, .int t, .int pl] ∧ SqT K H a (c.map V.int) ∧ c.length ≤ 10000 ∧ c ≠ [] ∧ ∀ H', Same H H' → Q (.str (lookF c t pl)) H'
theorem cut12 {c : List Int} (h : 5 ≤ c.length) : cutV (c.map V.int) (some 1) (some 3) = ((c.drop 1).take 2).map V.int := by
  unfold cutV
  have e1 : HT.sIx (c.map V.int).length 0 (some 1) = 1 := by
    unfold HT.sIx
    simp
    omega
  have e2 : HT.sIx (c.map V.int).length (c.map V.int).length (some 3) = 3 := by
    unfold HT.sIx
    simp
    omega
  rw [e1, e2, List.map_take, List.map_drop]
theorem cut2 {c : List Int} (h : 5 ≤ c.length) : cutV (c.map V.int) (some (-2)) none = (c.drop (c.length - 2)).map V.int := by
  unfold cutV
  have e1 : HT.sIx (c.map V.int).length 0 (some (-2)) = c.length - 2 := by
    unfold HT.sIx
    simp
    omega
  have e2 : HT.sIx (c.map V.int).length (c.map V.int).length none = c.length := by
    unfold HT.sIx
    simp
  rw [e1, e2, List.map_drop, List.take_of_length_le]
  rw [List.length_drop, List.length_map]
  omega
theorem ok_looked (T : Txt mg) (D_cells_of : Dn P w K mg base CX0 1 "cells_of" ["card"] (spCells K)) (D_is_rest : Dn P w K mg base CX0 3 "is_rest" ["thing"] (spRest K)) (D_sums_of : Dn P w K mg base CX0 2 "sums_of" ["cells"] (spSums K))
    (F : At K mg "looked" s_looked ["card", "ticket", "place"]) : Dn P w K mg base CX0 4 "looked" ["card", "ticket", "place"] (spLooked K) := by
  refine F.ok sc_looked (fun vs H Q E h => ?_) (fun f cdv A outer s H vs Q E hr h => ?_)
  · obtain ⟨a, c, t, pl, rfl, _⟩ := h
    rfl
  · obtain ⟨a, c, t, pl, rfl, ha, hl, hc, q⟩ := h
    obtain ⟨c0, cr, rfl⟩ : ∃ c0 cr, c = c0 :: cr := by
      cases c with
      | nil => exact absurd rfl hc
      | cons x y => exact ⟨x, y, rfl⟩
    refine ⟨_, (pss_cons (ps_if (PW.pt (pw_or (pt_cmpR op_lt (pe_callB (r := rLen K) call_len (by rfl) T.n_len (by decide +kernel) (pa_cons (pv 0) pa_nil)) (pe_glob rfl T.g_BESIDES (by exact T.v_BESIDES)) (nomark _)) (pw_or1 (pt_cmpR op_ne (pe_callB (r := rLen K) call_len (by rfl) T.n_len (by decide +kernel) (pa_cons (pv 0) pa_nil)) (pe_ix (r := rIxT K) ix_tup (pv 0) pe_int (fun _ _ => rfl)) (nomark _))))) (pss_one (ps_ret pe_str)) pss_nil)
  (pss_cons (ps_if (pt_cmpR (r := rNeD K) (op_neD hr.units) (pe_slice (r := rSlT K) sl_tup (pv 0) (po_some pe_int) (po_some pe_int)) (pe_tup (pa_cons (pv 1) (pa_cons (pv 2) pa_nil))) (nomark _)) (pss_one (ps_ret pe_str)) pss_nil)
  (pss_cons (ps_set (i := 3) sc_looked.nd rfl (by first | exact Or.inl rfl | exact Or.inr rfl) (pe_callD D_cells_of (by first | exact hr | exact hr.mono (by decide)) (pa_cons (pv 0) pa_nil)))
  (pss_cons (ps_if (PW.pt (pw_or (pt_not (pt_val (pe_callB (r := rAll K) (cr_all rfl) (by rfl) T.n_all (by decide +kernel) (pa_cons (pe_lc (own := [("cell", 4)]) (g := (gName 4)) (by rfl) sc_looked.nd (pi_list (pv 3)) (blkOk_by (own := [("cell", 4)]) (N := ["card", "ticket", "place", "cells", "cell"]) (sc := defScope s_looked) (by decide +kernel)) (fun _ _ _ _ _ => (pg_name (i := 4) sc_looked.nd rfl (Or.inl rfl) (Or.inr rfl))) (fun _ _ _ _ _ => pts_nil) (fun _ _ _ _ _ => (pe_callD D_is_rest (by first | exact hr | exact hr.mono (by decide)) (pa_cons (pv 4) pa_nil)))) pa_nil)))) (pw_or1 (pt_cmpR (r := rNeD K) (op_neD hr.units) (pe_slice (r := rSlT K) sl_tup (pv 0) (po_some (pe_un un_neg pe_int)) po_none) (pe_callD D_sums_of (by first | exact hr | exact hr.mono (by decide)) (pa_cons (pv 3) pa_nil)) (nomark _))))) (pss_one (ps_ret pe_str)) pss_nil)
  (pss_one (ps_ret pe_str)))))), ?_⟩
    refine ⟨_, rfl, _, _, rfl, .inr ⟨_, ha, rfl⟩, _, _, rfl, rfl, _, rfl, iteD (fun h1 => ?_) fun h1 => ?_⟩
    · have e : lookF (c0 :: cr) t pl = "torn" := if_pos (.inl (by rw [List.length_map] at h1; omega))
      rw [e] at q
      exact q H (Same.refl _)
    refine ⟨_, rfl, _, _, rfl, .inr ⟨_, ha, rfl⟩, _, rfl, _, _, _, _, rfl, rfl, ha, at_of (j := 0) rfl rfl, ?_⟩
    rw [List.length_map] at h1 ⊢
    refine ⟨rfl, _, rfl, iteIn (fun h2 => ?_) fun h2 => ?_⟩
    · have e : lookF (c0 :: cr) t pl = "torn" := if_pos (.inr h2)
      rw [e] at q
      exact q H (Same.refl _)
    have l5 : 5 ≤ (c0 :: cr).length := by omega
    have nt : ¬ ((c0 :: cr).length < 5 ∨ (((c0 :: cr).length : Nat) : Int) ≠ (c0 :: cr).headD 0) := by
      rintro (z | z)
      · omega
      · exact z h2
    refine ⟨_, rfl, _, rfl, _, rfl, _, _, rfl, ha, ?_, fun r nr => ?_⟩
    · intro z
      have z1 := z.1
      unfold HT.sIx at z1
      simp at z1
    rw [cut12 l5]
    have s1 := Same.new (o := .tup ((((c0 :: cr).drop 1).take 2).map V.int)) nr
    refine ⟨_, rfl, _, rfl, by show 2 ≤ sizeLine; decide, fun k nk => ?_⟩
    have s2 := Same.trans s1 (Same.new (o := .tup [.int t, .int pl]) nk)
    refine ⟨_, _, dpT (SqT.of (old upd_same nk)), dpT (xs := [t, pl]) (SqT.of upd_same), shT _, shT _, ?_⟩
    rw [eqvT]
    refine ⟨_, rfl, iteDn (fun h3 => ?_) fun h3 => ?_⟩
    · have e : lookF (c0 :: cr) t pl = "strange" := by unfold lookF; rw [if_neg nt, if_pos h3]
      rw [e] at q
      exact q _ s2
    refine ⟨_, rfl, _, _, rfl, Same.sqt s2 ha, l5, fun g H3 s3 ng eg => ?_⟩
    have s3' := Same.trans s2 s3
    refine ⟨_, rfl, _, rfl, ?_⟩
    refine ⟨⟨_, SqL.of eg⟩, fun D nD => ?_⟩
    have cl : (cellsOf (c0 :: cr)).length ≤ 10000 := by unfold cellsOf; rw [List.length_take, List.length_drop]; omega
    refine lc_bools (walk_list (xs := (cellsOf (c0 :: cr)).map V.int)) (fun i => betw (.int ((cellsOf (c0 :: cr)).getD i default)) 0 96) nD (by rw [List.length_map]; exact small1000' (by omega)) (fun H s => s.seq (SqL.of eg)) ?_ ?_
    · intro i x H4 H5 R R' hi s4 y k4
      obtain ⟨rfl, ex⟩ := y
      rw [List.length_map] at hi
      obtain rfl := map_get hi ex
      exact ⟨rfl, _, rfl, _, _, rfl, .int _, k4 _ (Same.refl _)⟩
    · intro H4 s4 e4
      rw [List.length_map, range_map (fun x => betw (.int x) 0 96)] at e4
      refine ⟨_, _, rfl, SqL.of e4, _, rfl, ?_⟩
      have ea : (((cellsOf (c0 :: cr)).map fun x => betw (.int x) 0 96).all id) = rightCells (cellsOf (c0 :: cr)) := by
        rw [List.all_map]
        rfl
      rw [ea]
      have s4' := Same.trans s3' (Same.trans (Same.new (o := .lst []) nD) (Same.refl _))
      have s5 := Same.trans s3' s4
      refine iteBn (fun h4 => ?_) fun h4 => ?_
      · have e : lookF (c0 :: cr) t pl = "spoilt" := by
          unfold lookF
          rw [if_neg nt, if_neg (by rw [h3]; exact fun z => z rfl), if_pos (.inl h4)]
        rw [e] at q
        exact q _ s5
      refine ⟨_, rfl, _, rfl, _, rfl, _, _, rfl, Same.sqt s5 ha, ?_, fun u nu => ?_⟩
      · intro z
        have z1 := z.1
        rw [show HT.sIx ((c0 :: cr).map V.int).length 0 (some (-2)) = (c0 :: cr).length - 2 from by unfold HT.sIx; simp; omega] at z1
        omega
      rw [cut2 l5]
      have s6 := Same.trans s5 (Same.new (o := .tup (((c0 :: cr).drop ((c0 :: cr).length - 2)).map V.int)) nu)
      refine ⟨_, rfl, g, _, rfl, SqL.of (Same.trans s4 (Same.new nu) _ _ eg), cl, fun v H6 s7 ev => ?_⟩
      refine ⟨_, _, dpT (SqT.of (s7 _ _ upd_same)), dpT (xs := [sum0 (cellsOf (c0 :: cr)), sum1 (cellsOf (c0 :: cr))]) (SqT.of ev), shT _, shT _, ?_⟩
      rw [eqvT]
      refine ⟨_, rfl, iteDn (fun h5 => ?_) fun h5 => ?_⟩
      · have e : lookF (c0 :: cr) t pl = "spoilt" := by
          unfold lookF
          rw [if_neg nt, if_neg (by rw [h3]; exact fun z => z rfl), if_pos (.inr h5)]
        rw [e] at q
        exact q _ (Same.trans s6 s7)
      · have e : lookF (c0 :: cr) t pl = "whole" := by
          unfold lookF
          rw [if_neg nt, if_neg (by rw [h3]; exact fun z => z rfl), if_neg (by
            rintro (z | z)
            · rw [h4] at z; cases z
            · exact z h5)]
        rw [e] at q
        exact q _ (Same.trans s6 s7)
/-- a purse at p, of which at most c turns are taken -/
def Purse (H : Hp) (p : Addr) (c : Int) : Prop := ∃ x y z : Int, H p = some (.lst [.int x, .int y, .int z]) ∧ 0 ≤ x ∧ 0 ≤ y ∧ y < 2 ^ 210 ∧ 0 ≤ z ∧ z ≤ c
theorem Purse.mono {H : Hp} {p : Addr} {c d : Int} (h : Purse H p c) (l : c ≤ d) : Purse H p d := by
  obtain ⟨x, y, z, h1, h2, h3, h4, h5, h6⟩ := h
  exact ⟨x, y, z, h1, h2, h3, h4, h5, by omega⟩
theorem Purse.same {H H' : Hp} {p : Addr} {c : Int} (h : Purse H p c) (s : Same H H') : Purse H' p c := by
  obtain ⟨x, y, z, h1, h2⟩ := h
  exact ⟨x, y, z, s _ _ h1, h2⟩
/-- a draw: any number below many -/
def spDrawn : Sp := fun vs H Q _ => ∃ (p : Addr) (c many : Int), vs = [.ref p, .int many] ∧ Purse H p c ∧ c ≤ 100000 ∧ 0 < many ∧ many < 2 ^ 200 ∧
  ∀ v H', 0 ≤ v → v < many → Purse H' p (c + 1) → Kp p H H' → Q (.int v) H'
theorem Purse.ne {H : Hp} {p l : Addr} {c : Int} (h : Purse H p c) (n : H l = none) : l ≠ p := by
  obtain ⟨x, y, z, h1, _⟩ := h
  exact (ne_of_none h1 n).symm
/-- .. where p itself is not written -/
theorem Purse.upd {H : Hp} {p l : Addr} {c : Int} {o : HO} (h : Purse H p c) (n : l ≠ p) : Purse (upd H l o) p c := by
  obtain ⟨x, y, z, h1, h2⟩ := h
  exact ⟨x, y, z, by rw [upd_ne n.symm]; exact h1, h2⟩
theorem dot_range (cs : List Int) : ((List.range cs.length).map fun (i : Nat) => (1 + (i : Int)) * cs.getD i default).sum = dot (upTo cs.length) cs := by
  unfold dot
  rw [← zip_range]
  congr 1
  have hu : (upTo cs.length).length = cs.length := by unfold upTo; rw [List.length_map, List.length_range]
  rw [hu, Nat.min_self]
  apply List.map_congr_left
  intro i hi
  have := List.mem_range.mp hi
  unfold upTo
  simp [List.getD, this]
theorem two_more {c0 : Int} {cr : List Int} (h : 5 ≤ (c0 :: cr).length) : ∃ c1 c2 cs, cr = c1 :: c2 :: cs := by
  cases cr with
  | nil => simp at h
  | cons c1 r =>
    cases r with
    | nil => simp at h
    | cons c2 cs => exact ⟨c1, c2, cs, rfl⟩
def spState (K : PySem.W.Frag) : Sp := spLooked K
theorem ok_state (T : Txt mg) (F : At K mg "_law_state" s__law_state ["card", "ticket", "place"]) : Dn P w K mg base CX0 1 "_law_state" ["card", "ticket", "place"] (spState K) := by
  refine F.ok sc__law_state (fun vs H Q E h => ?_) (fun f cdv A outer s H vs Q E hr h => ?_)
  · obtain ⟨a, c, t, pl, rfl, _⟩ := h
    rfl
  · obtain ⟨a, c, t, pl, rfl, ha, hl, hc, q⟩ := h
    obtain ⟨c0, cr, rfl⟩ : ∃ c0 cr, c = c0 :: cr := by
      cases c with
      | nil => exact absurd rfl hc
      | cons x y => exact ⟨x, y, rfl⟩
    refine ⟨_, (pss_cons (ps_if (PW.pt (pw_or (pt_cmpR op_ne (pe_callB (r := rLen K) call_len (by rfl) T.n_len (by decide +kernel) (pa_cons (pv 0) pa_nil)) (pe_ix (r := rIxT K) ix_tup (pv 0) pe_int (fun _ _ => rfl)) (nomark _)) (pw_or1 (pt_cmpR op_lt (pe_callB (r := rLen K) call_len (by rfl) T.n_len (by decide +kernel) (pa_cons (pv 0) pa_nil)) pe_int (nomark _))))) (pss_one (ps_ret pe_str)) pss_nil)
  (pss_cons (ps_if (PW.pt (pw_or (pt_cmpR op_ne (pe_ix (r := rIxT K) ix_tup (pv 0) pe_int (fun _ _ => rfl)) (pv 1) (nomark _)) (pw_or1 (pt_cmpR op_ne (pe_ix (r := rIxT K) ix_tup (pv 0) pe_int (fun _ _ => rfl)) (pv 2) (nomark _))))) (pss_one (ps_ret pe_str)) pss_nil)
  (pss_cons (ps_set (i := 3) sc__law_state.nd rfl (by first | exact Or.inl rfl | exact Or.inr rfl) (pe_slice (r := rSlT K) sl_tup (pv 0) (po_some pe_int) (po_some (pe_op op_sub (pe_callB (r := rLen K) call_len (by rfl) T.n_len (by decide +kernel) (pa_cons (pv 0) pa_nil)) pe_int))))
  (pss_cons (ps_if (pt_cmpR (r := rNeD K) (op_neD hr.units) (pe_lc (own := [("cell", 4)]) (g := (gName 4)) (by rfl) sc__law_state.nd (pi_tup (pv 3)) (blkOk_by (own := [("cell", 4)]) (N := ["card", "ticket", "place", "cells", "cell", "one", "i", "two"]) (sc := defScope s__law_state) (by decide +kernel)) (fun _ _ _ _ _ => (pg_name (i := 4) sc__law_state.nd rfl (Or.inl rfl) (Or.inr rfl))) (fun _ _ _ _ _ => (pts_one (PW.pt (pw_or (pt_cmpR op_lt (pv 4) pe_int (nomark _)) (pw_or1 (pt_cmpR op_gt (pv 4) pe_int (nomark _))))))) (fun _ _ _ _ _ => (pv 4))) (pe_lst pa_nil) (nomark _)) (pss_one (ps_ret pe_str)) pss_nil)
  (pss_cons (ps_set (i := 5) sc__law_state.nd rfl (by first | exact Or.inl rfl | exact Or.inr rfl) (pe_op op_mod (pe_callB (r := rSumT K) (cr_sumT rfl) (by rfl) T.n_sum (by decide +kernel) (pa_cons (pv 3) pa_nil)) pe_int))
  (pss_cons (ps_set (i := 7) sc__law_state.nd rfl (by first | exact Or.inl rfl | exact Or.inr rfl) (pe_op op_mod (pe_callB (r := rSum K) (cr_sum rfl) (by rfl) T.n_sum (by decide +kernel) (pa_cons (pe_lc (own := [("i", 6)]) (g := (gName 6)) (by rfl) sc__law_state.nd (pi_range1 (by rfl) T.n_range (pa_cons (pe_callB (r := rLen K) call_len (by rfl) T.n_len (by decide +kernel) (pa_cons (pv 3) pa_nil)) pa_nil)) (blkOk_by (own := [("i", 6)]) (N := ["card", "ticket", "place", "cells", "cell", "one", "i", "two"]) (sc := defScope s__law_state) (by decide +kernel)) (fun _ _ _ _ _ => (pg_name (i := 6) sc__law_state.nd rfl (Or.inl rfl) (Or.inr rfl))) (fun _ _ _ _ _ => pts_nil) (fun _ _ _ _ _ => (pe_op op_mul (pe_op op_add (pv 6) pe_int) (pe_ix (r := rIxT K) ix_tup (pv 3) (pv 6) (fun _ _ => rfl))))) pa_nil)) pe_int))
  (pss_one (ps_ret (pe_ix (r := rIxL K) ix_list (pe_lst (pa_cons pe_str (pa_cons pe_str pa_nil))) (pe_callTy call_int1 (by rfl) T.n_int (by decide +kernel) (pa_cons (pe_cmpR (r := rEqD K) (op_eqD hr.units) (pe_slice (r := rSlT K) sl_tup (pv 0) (po_some (pe_op op_sub (pe_callB (r := rLen K) call_len (by rfl) T.n_len (by decide +kernel) (pa_cons (pv 0) pa_nil)) pe_int)) po_none) (pe_tup (pa_cons (pv 5) (pa_cons (pv 7) pa_nil))) (nomark _)) pa_nil)) (fun _ _ => rfl)))))))))), ?_⟩
    refine ⟨_, rfl, _, _, rfl, .inr ⟨_, ha, rfl⟩, _, rfl, _, _, _, _, rfl, rfl, ha, at_of (j := 0) rfl rfl, rfl, ?_⟩
    rw [List.length_map]
    refine ⟨_, rfl, iteIn (fun h1 => ?_) fun h1 => ?_⟩
    · have e : lookF (c0 :: cr) t pl = "torn" := if_pos (.inr h1)
      rw [e] at q
      exact q H (Same.refl _)
    refine ⟨_, rfl, _, _, rfl, .inr ⟨_, ha, rfl⟩, ?_⟩
    rw [List.length_map]
    refine ⟨_, _, rfl, rfl, _, rfl, iteD (fun h2 => ?_) fun h2 => ?_⟩
    · have e : lookF (c0 :: cr) t pl = "torn" := if_pos (.inl (by omega))
      rw [e] at q
      exact q H (Same.refl _)
    have l5 : 5 ≤ (c0 :: cr).length := by omega
    have nt : ¬ ((c0 :: cr).length < 5 ∨ (((c0 :: cr).length : Nat) : Int) ≠ (c0 :: cr).headD 0) := by
      rintro (z | z)
      · omega
      · exact z h1
    obtain ⟨c1, c2, cs, rfl⟩ := two_more l5
    have key : (List.take 2 (List.drop 1 (c0 :: c1 :: c2 :: cs)) = [t, pl]) ↔ (c1 = t ∧ c2 = pl) := by
      simp
    refine ⟨_, rfl, _, _, _, _, rfl, rfl, ha, at_of (j := 1) rfl rfl, _, rfl, rfl, _, rfl, iteIn (fun h3 => ?_) fun h3 => ?_⟩
    · have e : lookF (c0 :: c1 :: c2 :: cs) t pl = "strange" := by
        unfold lookF
        rw [if_neg nt, if_pos (fun z => h3 (key.mp z).1)]
      rw [e] at q
      exact q H (Same.refl _)
    refine ⟨_, rfl, _, _, _, _, rfl, rfl, ha, at_of (j := 2) rfl rfl, _, rfl, rfl, _, rfl, iteIn (fun h4 => ?_) fun h4 => ?_⟩
    · have e : lookF (c0 :: c1 :: c2 :: cs) t pl = "strange" := by
        unfold lookF
        rw [if_neg nt, if_pos (fun z => h4 (key.mp z).2)]
      rw [e] at q
      exact q H (Same.refl _)
    have nk : ¬ (List.take 2 (List.drop 1 (c0 :: c1 :: c2 :: cs)) ≠ [t, pl]) := fun z => z (key.mpr ⟨h3, h4⟩)
    generalize hC : c0 :: c1 :: c2 :: cs = C at *
    refine ⟨_, rfl, _, rfl, _, rfl, _, _, rfl, .inr ⟨_, ha, rfl⟩, _, _, rfl, rfl, _, rfl, _, _, rfl, ha, ?_, fun u nu => ?_⟩
    · intro z
      have z1 := z.1
      rw [show HT.sIx (C.map V.int).length 0 (some 3) = 3 from by unfold HT.sIx; simp; omega] at z1
      omega
    have ecut : cutV (C.map V.int) (some 3) (some (((C.map V.int).length : Int) - 2)) = (cellsOf C).map V.int := by
      unfold cutV cellsOf
      have e1 : HT.sIx (C.map V.int).length 0 (some 3) = 3 := by
        unfold HT.sIx
        simp
        omega
      have e2 : HT.sIx (C.map V.int).length (C.map V.int).length (some (((C.map V.int).length : Int) - 2)) = C.length - 2 := by
        unfold HT.sIx
        rw [List.length_map]
        simp
        split <;> omega
      rw [e1, e2, List.map_take, List.map_drop, show C.length - 2 - 3 = C.length - 5 by omega]
    rw [ecut]
    have s1 := Same.new (o := .tup ((cellsOf C).map V.int)) nu
    have cl : (cellsOf C).length ≤ 10000 := by unfold cellsOf; rw [List.length_take, List.length_drop]; omega
    refine ⟨_, rfl, _, rfl, ⟨_, SqT.of upd_same⟩, fun D nD => ?_⟩
    refine lc_filt V.int (walk_tup (xs := (cellsOf C).map V.int)) (fun i => (cellsOf C).getD i default) (fun x => decide (x < 0) || decide (x > 96)) nD (by rw [List.length_map]; exact small1000' (by omega)) (fun H s => Same.sqt s (SqT.of upd_same)) ?_ ?_
    · intro i x H4 H5 R R' hi s4 y k1 k2
      obtain ⟨rfl, ex⟩ := y
      rw [List.length_map] at hi
      obtain rfl := map_get hi ex
      refine ⟨rfl, _, rfl, _, _, rfl, rfl, _, rfl, iteD (fun z => ?_) fun z => ?_⟩
      · exact ⟨_, rfl, k1 _ (Same.refl _) (by show (decide _ || decide _) = true; rw [decide_eq_true z, Bool.true_or])⟩
      · refine ⟨_, rfl, _, _, rfl, rfl, _, rfl, iteD (fun z2 => ?_) fun z2 => ?_⟩
        · exact ⟨_, rfl, k1 _ (Same.refl _) (by show (decide _ || decide _) = true; rw [decide_eq_true z2, Bool.or_true])⟩
        · exact k2 _ (Same.refl _) (by show (decide _ || decide _) = false; rw [decide_eq_false z, decide_eq_false z2]; rfl)
    · intro H4 s4 e4
      rw [List.length_map, range_map (fun x => x)] at e4
      have hf : (cellsOf C).filter (fun x => decide (x < 0) || decide (x > 96)) = [] ↔ rightCells (cellsOf C) = true := by
        unfold rightCells
        rw [List.filter_eq_nil_iff, List.all_eq_true]
        constructor
        · intro z x hx
          have h7 := z x hx
          simp only [Bool.or_eq_true, Bool.and_eq_true, decide_eq_true_eq] at h7 ⊢
          omega
        · intro z x hx
          have h7 := z x hx
          simp only [Bool.or_eq_true, Bool.and_eq_true, decide_eq_true_eq] at h7 ⊢
          omega
      rw [List.map_id'] at e4
      refine ⟨Nat.zero_le _, fun l nl => ?_⟩
      refine ⟨_, _, dpL (SqL.of (old e4 nl)), dpL (xs := []) (SqL.of upd_same), shL _, shL _, ?_⟩
      rw [eqvL]
      have s5 := Same.trans (Same.trans s1 s4) (Same.new (o := .lst []) nl)
      refine ⟨_, rfl, iteDn (fun h5 => ?_) fun h5 => ?_⟩
      · have e : lookF C t pl = "spoilt" := by
          unfold lookF
          have rf : rightCells (cellsOf C) = false := by
            cases z : rightCells (cellsOf C) with
            | false => rfl
            | true => exact absurd (hf.mpr z) h5
          rw [if_neg nt, if_neg nk, if_pos (.inl rf)]
        rw [e] at q
        exact q _ s5
      have rc := hf.mp h5
      have hu : upd H4 l (.lst []) u = some (.tup ((cellsOf C).map V.int)) := old (s4 _ _ upd_same) nl
      refine ⟨_, rfl, _, cellsOf C, rfl, SqT.of hu, _, _, rfl, rfl, (by show (0 : Int) < 97; decide), ?_⟩
      refine ⟨_, rfl, _, _, rfl, .inr ⟨_, SqT.of hu, rfl⟩, _, rfl, by omega, by rw [List.length_map]; omega, fun D2 nD2 => ?_⟩
      rw [Int.toNat_natCast, List.length_map]
      refine lc_ints walk_range (fun (i : Nat) => (1 + (i : Int)) * (cellsOf C).getD i default) nD2 (small1000' (by omega)) (fun _ _ => trivial) ?_ ?_
      · intro i x H5 H6 R R' hi s6 y k6
        obtain ⟨rfl, rfl⟩ := y
        obtain ⟨z, hz1, hz2, hz3⟩ := at_ints (ns := cellsOf C) (k := 0 + (i : Int)) (by omega) (by omega)
        have e : z = (cellsOf C).getD i default := by
          rw [show (0 + (i : Int)).toNat = i by omega] at hz2
          simp [List.getD, hz2]
        refine ⟨rfl, _, rfl, _, _, rfl, rfl, _, rfl, _, rfl, _, _, _, _, rfl, rfl, Same.sqt s6 (SqT.of hu), hz3, _, _, rfl, rfl, .inl ⟨by omega, by omega⟩, ?_⟩
        rw [e, show (0 : Int) + i + 1 = 1 + i by omega]
        exact k6 _ (Same.refl _)
      · intro H6 s6 e6
        refine ⟨_, _, rfl, SqL.of e6, _, _, rfl, rfl, (by show (0 : Int) < 97; decide), ?_⟩
        rw [dot_range]
        have s7 := Same.trans s5 s6
        refine ⟨by show 2 ≤ sizeLine; decide, fun m nm => ?_⟩
        have s8 := Same.trans s7 (Same.new (o := .lst [.str "spoilt", .str "whole"]) nm)
        refine ⟨_, rfl, _, rfl, _, _, rfl, .inr ⟨_, Same.sqt s8 ha, rfl⟩, _, _, rfl, rfl, _, rfl, _, _, rfl, Same.sqt s8 ha, ?_, fun v nv => ?_⟩
        · intro z
          have z1 := z.1
          rw [show HT.sIx (C.map V.int).length 0 (some (((C.map V.int).length : Int) - 2)) = C.length - 2 from by unfold HT.sIx; rw [List.length_map]; simp; split <;> omega] at z1
          omega
        have ecut2 : cutV (C.map V.int) (some (((C.map V.int).length : Int) - 2)) none = (C.drop (C.length - 2)).map V.int := by
          unfold cutV
          rw [show HT.sIx (C.map V.int).length 0 (some (((C.map V.int).length : Int) - 2)) = C.length - 2 from by unfold HT.sIx; rw [List.length_map]; simp; split <;> omega,
            show HT.sIx (C.map V.int).length (C.map V.int).length none = C.length from by unfold HT.sIx; simp, List.map_drop, List.take_of_length_le]
          rw [List.length_drop, List.length_map]
          omega
        rw [ecut2]
        refine ⟨_, rfl, _, rfl, by show 2 ≤ sizeLine; decide, fun x nx => ?_⟩
        refine ⟨_, _, dpT (SqT.of (old upd_same nx)), dpT (xs := [sum0 (cellsOf C), sum1 (cellsOf C)]) (SqT.of upd_same), shT _, shT _, ?_⟩
        rw [eqvT]
        have s9 := Same.trans (Same.trans s8 (Same.new (o := .tup ((C.drop (C.length - 2)).map V.int)) nv)) (Same.new (o := .tup [.int (sum0 (cellsOf C)), .int (sum1 (cellsOf C))]) nx)
        have hm := old (old (upd_same (H := H6) (a := m) (o := .lst [.str "spoilt", .str "whole"])) nv (o := .tup ((C.drop (C.length - 2)).map V.int))) nx (o := .tup [.int (sum0 (cellsOf C)), .int (sum1 (cellsOf C))])
        by_cases h6 : C.drop (C.length - 2) = [sum0 (cellsOf C), sum1 (cellsOf C)]
        · have e : lookF C t pl = "whole" := by
            unfold lookF
            rw [if_neg nt, if_neg nk, if_neg]
            rintro (z | z)
            · rw [rc] at z; cases z
            · exact z h6
          rw [e] at q
          rw [decide_eq_true h6]
          exact .inr ⟨true, rfl, _, _, _, _, rfl, rfl, SqL.of hm, at_of (j := 1) rfl rfl, q _ s9⟩
        · have e : lookF C t pl = "spoilt" := by
            unfold lookF
            rw [if_neg nt, if_neg nk, if_pos (.inr h6)]
          rw [e] at q
          rw [decide_eq_false h6]
          exact .inr ⟨false, rfl, _, _, _, _, rfl, rfl, SqL.of hm, at_of (j := 0) rfl rfl, q _ s9⟩
/-- each item so many times as its number from k on -/
def wsum : Int → List Int → Int
  | _, [] => 0
  | k, x :: xs => k * x + wsum (k + 1) xs
theorem dot_w (cs : List Int) : ∀ k : Int, (List.zipWith (· * ·) ((List.range cs.length).map fun (i : Nat) => k + (i : Int)) cs).sum = wsum k cs := by
  induction cs with
  | nil => intro k; rfl
  | cons x xs ih =>
    intro k
    rw [List.length_cons, List.range_succ_eq_map, List.map_cons, List.zipWith_cons_cons, List.sum_cons, wsum, ← ih (k + 1), List.map_map]
    have e1 : ((fun (i : Nat) => k + (i : Int)) ∘ Nat.succ) = fun (i : Nat) => k + 1 + (i : Int) := by
      funext i
      show k + ((i + 1 : Nat) : Int) = k + 1 + (i : Int)
      omega
    rw [e1]
    simp
theorem sum1_w (cs : List Int) : sum1 cs = wsum 1 cs % 97 := by
  unfold sum1 dot upTo
  rw [dot_w]
theorem wsum_set {v : Int} : ∀ {cs : List Int} {i : Nat} {z : Int} (k : Int), cs[i]? = some z → wsum k (cs.set i v) = wsum k cs + (k + i) * (v - z)
  | [], i, z, k, h => by simp at h
  | x :: xs, 0, z, k, h => by
    obtain rfl : x = z := Option.some.inj h
    show k * v + wsum (k + 1) xs = k * x + wsum (k + 1) xs + (k + 0) * (v - x)
    rw [Int.add_zero, Int.mul_sub]
    omega
  | x :: xs, i + 1, z, k, h => by
    have ih := wsum_set (v := v) (cs := xs) (i := i) (z := z) (k + 1) h
    show k * x + wsum (k + 1) (xs.set i v) = k * x + wsum (k + 1) xs + (k + ((i + 1 : Nat) : Int)) * (v - z)
    rw [ih, show k + 1 + (i : Int) = k + ((i + 1 : Nat) : Int) by omega]
    omega
/-- a card with these sums -/
def cardS (t pl : Int) (cs : List Int) (a b : Int) : List Int := (5 + (cs.length : Int)) :: t :: pl :: (cs ++ [a, b])
theorem cardS_len (t pl : Int) (cs : List Int) (a b : Int) : (cardS t pl cs a b).length = cs.length + 5 := by
  unfold cardS
  simp only [List.length_cons, List.length_append, List.length_nil]
theorem cellsOf_S (t pl : Int) (cs : List Int) (a b : Int) : cellsOf (cardS t pl cs a b) = cs := by
  unfold cellsOf cardS
  simp only [List.drop_succ_cons, List.drop_zero, List.length_cons, List.length_append, List.length_nil]
  rw [show cs.length + (0 + 1 + 1) + 1 + 1 + 1 - 5 = cs.length by omega, List.take_left']
  rfl
theorem look_S (t pl : Int) (cs : List Int) (a b : Int) : lookF (cardS t pl cs a b) t pl = if rightCells cs = false ∨ ¬ (a = sum0 cs ∧ b = sum1 cs) then "spoilt" else "whole" := by
  unfold lookF
  rw [cellsOf_S, cardS_len, if_neg, if_neg]
  · have e : List.drop (cs.length + 5 - 2) (cardS t pl cs a b) = [a, b] := by
      unfold cardS
      rw [show cs.length + 5 - 2 = cs.length + 3 by omega]
      simp
    rw [e]
    by_cases h : rightCells cs = false
    · rw [if_pos (.inl h), if_pos (.inl h)]
    · by_cases h2 : a = sum0 cs ∧ b = sum1 cs
      · rw [if_neg, if_neg]
        · rintro (z | z)
          · exact h z
          · exact z h2
        · rintro (z | z)
          · exact h z
          · exact z (by rw [h2.1, h2.2])
      · have hne : ([a, b] : List Int) ≠ [sum0 cs, sum1 cs] := by
          intro z
          simp at z
          exact h2 z
        rw [if_pos (.inr hne), if_pos (.inr h2)]
  · intro z
    apply z
    rfl
  · rintro (z | z)
    · omega
    · apply z
      unfold cardS
      show ((cs.length + 5 : Nat) : Int) = 5 + (cs.length : Int)
      omega
theorem set_cell (t pl : Int) {cs : List Int} (a b : Int) {i : Nat} (v : Int) (h : i < cs.length) : (cardS t pl cs a b).set (3 + i) v = cardS t pl (cs.set i v) a b := by
  unfold cardS
  rw [show 3 + i = i + 1 + 1 + 1 by omega, List.set_cons_succ, List.set_cons_succ, List.set_cons_succ, List.set_append_left _ _ h, List.length_set]
theorem get_cell (t pl : Int) {cs : List Int} (a b : Int) {i : Nat} (h : i < cs.length) : (cardS t pl cs a b)[3 + i]? = cs[i]? := by
  unfold cardS
  rw [show 3 + i = i + 1 + 1 + 1 by omega, List.getElem?_cons_succ, List.getElem?_cons_succ, List.getElem?_cons_succ, List.getElem?_append_left h]
/-- one cell otherwise -/
theorem one_spoilt (t pl : Int) {cs : List Int} {i : Nat} {z v : Int} (h : cs[i]? = some z) (d : (v - z) % 97 ≠ 0) : lookF ((cardS t pl cs (sum0 cs) (sum1 cs)).set (3 + i) v) t pl = "spoilt" := by
  have hi : i < cs.length := (List.getElem?_eq_some_iff.mp h).1
  have hne : ¬ (sum0 cs = sum0 (cs.set i v) ∧ sum1 cs = sum1 (cs.set i v)) := by
    rintro ⟨e, _⟩
    unfold sum0 at e
    rw [sum_set h] at e
    omega
  rw [set_cell _ _ _ _ _ hi, look_S, if_pos (.inr hne)]
theorem mul97 {k d : Int} (h0 : 0 < k) (h1 : k < 97) (h : (k * d) % 97 = 0) : d % 97 = 0 := by
  have g : ∀ k : Fin 97, ∀ d : Fin 97, k.val ≠ 0 → ((k.val : Int) * (d.val : Int)) % 97 = 0 → d.val = 0 := by decide +kernel
  have d0 : 0 ≤ d % 97 := Int.emod_nonneg _ (by decide)
  have d1 : d % 97 < 97 := Int.emod_lt_of_pos _ (by decide)
  obtain ⟨a, ha⟩ : ∃ a : Nat, k = (a : Int) := ⟨k.toNat, by omega⟩
  obtain ⟨b, hb⟩ : ∃ b : Nat, d % 97 = (b : Int) := ⟨(d % 97).toNat, by omega⟩
  have e : ((a : Int) * (b : Int)) % 97 = 0 := by rw [← ha, ← hb, Int.mul_emod, Int.emod_emod, ← Int.mul_emod]; exact h
  have := g ⟨a, by omega⟩ ⟨b, by omega⟩ (by simp; omega) e
  simp at this
  omega
theorem two_alg {p q : Int} {i j : Nat} (hij : i ≠ j) (hi : i < 97) (hj : j < 97) (f1 : (p + q) % 97 = 0) (f2 : ((1 + (i : Int)) * p + (1 + (j : Int)) * q) % 97 = 0) : p % 97 = 0 := by
  obtain ⟨m, hm⟩ : ∃ m, p + q = 97 * m := ⟨(p + q) / 97, by omega⟩
  obtain rfl : q = 97 * m - p := by omega
  have f3 : (((i : Int) - j) * p) % 97 = 0 := by
    have e3 : (1 + (i : Int)) * p + (1 + (j : Int)) * (97 * m - p) = ((i : Int) - j) * p + 97 * ((1 + (j : Int)) * m) := by
      rw [Int.mul_sub, Int.sub_mul, Int.mul_left_comm, Int.add_mul 1 (i : Int) p, Int.add_mul 1 (j : Int) p, Int.one_mul]
      omega
    rw [e3] at f2
    omega
  rcases Nat.lt_or_gt_of_ne hij with g | g
  · have f4 : (((j : Int) - i) * p) % 97 = 0 := by
      have : ((j : Int) - i) * p = - (((i : Int) - j) * p) := by rw [← Int.neg_mul]; congr 1; omega
      omega
    exact mul97 (by omega) (by omega) f4
  · exact mul97 (by omega) (by omega) f3
/-- two cells otherwise -/
theorem two_spoilt (t pl : Int) {cs : List Int} (hl : cs.length ≤ 60) {i j : Nat} {z v y u : Int} (hij : i ≠ j) (h : cs[i]? = some z) (h2 : cs[j]? = some y) (d : (v - z) % 97 ≠ 0) :
    lookF (((cardS t pl cs (sum0 cs) (sum1 cs)).set (3 + i) v).set (3 + j) u) t pl = "spoilt" := by
  have hi : i < cs.length := (List.getElem?_eq_some_iff.mp h).1
  have hj : j < cs.length := (List.getElem?_eq_some_iff.mp h2).1
  have h2' : (cs.set i v)[j]? = some y := by rw [List.getElem?_set_ne hij]; exact h2
  have hne : ¬ (sum0 cs = sum0 ((cs.set i v).set j u) ∧ sum1 cs = sum1 ((cs.set i v).set j u)) := by
    rintro ⟨e1, e2⟩
    unfold sum0 at e1
    rw [sum_set h2', sum_set h] at e1
    rw [sum1_w, sum1_w, wsum_set 1 h2', wsum_set 1 h] at e2
    exact d (two_alg (q := u - y) hij (by omega) (by omega) (by omega) (by omega))
  rw [set_cell _ _ _ _ _ hi, set_cell _ _ _ _ _ (by rw [List.length_set]; exact hj), look_S, if_pos (.inr hne)]
/-- a sum otherwise -/
theorem sum_spoilt (t pl : Int) {cs : List Int} {k : Nat} (hk : k < 2) {v z : Int} (h : (cardS t pl cs (sum0 cs) (sum1 cs))[cs.length + 5 - 1 - k]? = some z) (d : (v - z) % 97 ≠ 0) :
    lookF ((cardS t pl cs (sum0 cs) (sum1 cs)).set (cs.length + 5 - 1 - k) v) t pl = "spoilt" := by
  have hn : v ≠ z := fun e => d (by rw [e]; omega)
  rcases (by omega : k = 0 ∨ k = 1) with rfl | rfl
  · have e : (cardS t pl cs (sum0 cs) (sum1 cs)).set (cs.length + 5 - 1 - 0) v = cardS t pl cs (sum0 cs) v := by
      unfold cardS
      rw [show cs.length + 5 - 1 - 0 = cs.length + 1 + 1 + 1 + 1 by omega, List.set_cons_succ, List.set_cons_succ, List.set_cons_succ, List.set_append_right _ _ (by omega), show cs.length + 1 - cs.length = 1 by omega]
      rfl
    have f : (cardS t pl cs (sum0 cs) (sum1 cs))[cs.length + 5 - 1 - 0]? = some (sum1 cs) := by
      unfold cardS
      rw [show cs.length + 5 - 1 - 0 = cs.length + 1 + 1 + 1 + 1 by omega, List.getElem?_cons_succ, List.getElem?_cons_succ, List.getElem?_cons_succ, List.getElem?_append_right (by omega), show cs.length + 1 - cs.length = 1 by omega]
      rfl
    rw [f] at h
    cases h
    rw [e, look_S, if_pos (.inr fun z => hn z.2)]
  · have e : (cardS t pl cs (sum0 cs) (sum1 cs)).set (cs.length + 5 - 1 - 1) v = cardS t pl cs v (sum1 cs) := by
      unfold cardS
      rw [show cs.length + 5 - 1 - 1 = cs.length + 0 + 1 + 1 + 1 by omega, List.set_cons_succ, List.set_cons_succ, List.set_cons_succ, List.set_append_right _ _ (by omega), show cs.length - cs.length = 0 by omega]
      rfl
    have f : (cardS t pl cs (sum0 cs) (sum1 cs))[cs.length + 5 - 1 - 1]? = some (sum0 cs) := by
      unfold cardS
      rw [show cs.length + 5 - 1 - 1 = cs.length + 0 + 1 + 1 + 1 by omega, List.getElem?_cons_succ, List.getElem?_cons_succ, List.getElem?_cons_succ, List.getElem?_append_right (by omega), show cs.length - cs.length = 0 by omega]
      rfl
    rw [f] at h
    cases h
    rw [e, look_S, if_pos (.inr fun z => hn z.1)]
theorem whole_S (t pl : Int) {cs : List Int} (h : ∀ x ∈ cs, 0 ≤ x ∧ x ≤ 96) : lookF (cardS t pl cs (sum0 cs) (sum1 cs)) t pl = "whole" := by
  rw [look_S, if_neg]
  rintro (z | z)
  · unfold rightCells at z
    rw [List.all_eq_false] at z
    obtain ⟨x, hx, q⟩ := z
    obtain ⟨h1, h2⟩ := h x hx
    simp [h1, h2] at q
  · exact z ⟨rfl, rfl⟩
/-- the next number of an urn: any number below many -/
theorem ok_pick (F : At K mg "_law_pick" s__law_pick ["urn", "many"]) : Dn P w K mg base CX0 1 "_law_pick" ["urn", "many"] spDrawn := by
  refine F.ok sc__law_pick (fun vs H Q E h => ?_) (fun f cdv A outer s H vs Q E hr h => ?_)
  · obtain ⟨p, c, many, rfl, _⟩ := h
    rfl
  · obtain ⟨p, c, many, rfl, ⟨x, y, z, hp, x0, y0, y1, z0, zc⟩, c1, m0, m1, q⟩ := h
    refine ⟨_, (pss_cons (ps_if (pt_cmpR op_gt (pe_ix (r := rIxL K) ix_list (pv 0) pe_int (fun _ _ => rfl)) pe_int (nomark _)) (pss_cons (ps_set (i := 2) sc__law_pick.nd rfl (by first | exact Or.inl rfl | exact Or.inr rfl) (pe_op op_mod (pe_ix (r := rIxL K) ix_list (pv 0) pe_int (fun _ _ => rfl)) (pv 1)))
  (pss_cons (ps_asg (pe_op op_fdivW (pe_ix (r := rIxL K) ix_list (pv 0) pe_int (fun _ _ => rfl)) (pv 1)) (pg_sub (pv 0) pe_int set_list))
  (pss_one (ps_ret (pv 2))))) pss_nil)
  (pss_cons (ps_asg (pe_op op_add (pe_ix (r := rIxL K) ix_list (pv 0) pe_int (fun _ _ => rfl)) pe_int) (pg_sub (pv 0) pe_int set_list))
  (pss_cons (ps_set (i := 3) sc__law_pick.nd rfl (by first | exact Or.inl rfl | exact Or.inr rfl) (pe_op op_mod (pe_op op_powW (pe_op op_add (pe_ix (r := rIxL K) ix_list (pv 0) pe_int (fun _ _ => rfl)) (pe_op op_mul pe_int (pe_ix (r := rIxL K) ix_list (pv 0) pe_int (fun _ _ => rfl)))) pe_int) (pe_op op_add (pe_op op_pow pe_int pe_int) pe_int)))
  (pss_cons (ps_set (i := 3) sc__law_pick.nd rfl (by first | exact Or.inl rfl | exact Or.inr rfl) (pe_op op_mod (pe_op op_powW (pe_op op_add (pv 3) (pe_op op_mul (pe_op op_mul pe_int (pe_ix (r := rIxL K) ix_list (pv 0) pe_int (fun _ _ => rfl))) (pe_ix (r := rIxL K) ix_list (pv 0) pe_int (fun _ _ => rfl)))) pe_int) (pe_op op_add (pe_op op_pow pe_int pe_int) pe_int)))
  (pss_one (ps_ret (pe_op op_mod (pe_op op_fdiv (pv 3) pe_int) (pv 1)))))))), ?_⟩
    refine ⟨_, rfl, _, _, _, _, rfl, rfl, SqL.of hp, rfl, _, _, rfl, rfl, _, rfl, iteD (fun hx => ?_) fun hx => ?_⟩
    · refine ⟨_, rfl, _, _, _, _, rfl, rfl, SqL.of hp, rfl, _, rfl, _, _, rfl, rfl, m0, ?_⟩
      refine ⟨_, rfl, _, _, _, _, rfl, rfl, SqL.of hp, rfl, _, rfl, _, _, rfl, rfl, wide_div m0 (b := 200) (by omega) (by decide) (by decide), ?_⟩
      refine ⟨_, rfl, _, _, _, 0, rfl, rfl, hp, rfl, _, rfl, ?_⟩
      refine q _ _ (Int.emod_nonneg _ (by omega)) (Int.emod_lt_of_pos _ m0) ⟨_, y, z, upd_same, Int.ediv_nonneg x0 (by omega), y0, y1, z0, by omega⟩ Kp.put
    · have t0 : 0 ≤ z + 1 := by omega
      have t1 : z + 1 ≤ 100001 := by omega
      refine ⟨_, rfl, _, _, _, _, rfl, rfl, SqL.of hp, rfl, _, _, rfl, rfl, _, rfl, _, _, _, 2, rfl, rfl, hp, rfl, ?_⟩
      refine ⟨_, rfl, _, _, _, _, rfl, rfl, SqL.of upd_same, rfl, _, rfl, _, _, _, _, rfl, rfl, SqL.of upd_same, rfl, _, _, rfl, rfl, .inl ⟨by decide, by decide⟩, _, _, rfl, rfl, ?_⟩
      refine ⟨_, _, rfl, rfl, CPowW.mk (a := 220) (n := 3) ?_ (by decide) (by decide), _, _, rfl, rfl, ⟨by decide, by decide, by decide⟩, _, _, rfl, rfl, _, _, rfl, rfl, (by show (0 : Int) < _; decide), ?_⟩
      · have e : (2 : Int) ^ 210 + 7368787 * 100001 < 2 ^ 220 := by decide
        omega
      generalize hm : ((y + 7368787 * (z + 1)) ^ (3 : Int).toNat % (10 ^ (43 : Int).toNat + 57) : Int) = m
      have m2 : 0 ≤ m := by rw [← hm]; exact Int.emod_nonneg _ (by decide)
      have m3 : m < 10 ^ (43 : Int).toNat + 57 := by rw [← hm]; exact Int.emod_lt_of_pos _ (by decide)
      have b1 : (15485863 * (z + 1)) * (z + 1) ≤ 15485863 * 100001 * 100001 := Int.mul_le_mul (by omega) t1 t0 (by omega)
      have b0 : 0 ≤ (15485863 * (z + 1)) * (z + 1) := Int.mul_nonneg (by omega) t0
      refine ⟨_, rfl, _, rfl, _, _, _, _, rfl, rfl, SqL.of upd_same, rfl, _, _, rfl, rfl, .inl ⟨by decide, by decide⟩, _, rfl, _, _, _, _, rfl, rfl, SqL.of upd_same, rfl, _, _, rfl, rfl, .inl ⟨by omega, by omega⟩, _, _, rfl, rfl, _, _, rfl, rfl, CPowW.mk (a := 220) (n := 5) ?_ (by decide) (by decide), _, _, rfl, rfl, ⟨by decide, by decide, by decide⟩, _, _, rfl, rfl, _, _, rfl, rfl, (by show (0 : Int) < _; decide), ?_⟩
      · have e : (10 : Int) ^ (43 : Int).toNat + 57 + 15485863 * 100001 * 100001 < 2 ^ 220 := by decide
        omega
      refine ⟨_, rfl, _, _, rfl, rfl, ⟨by decide, by decide⟩, _, rfl, _, _, rfl, rfl, m0, ?_⟩
      refine q _ _ (Int.emod_nonneg _ (by omega)) (Int.emod_lt_of_pos _ m0) ⟨x, y, z + 1, upd_same, x0, y0, y1, by omega, by omega⟩ Kp.put
def spCell (K : PySem.W.Frag) : Sp := fun vs H Q _ => ∃ (a : Addr) (ns : List Int) (k : Int), vs = [.ref a, .int k] ∧ SqL K H a (ns.map V.int) ∧ ns.length ≤ 1000 ∧ 0 ≤ k ∧ ∀ c, Q (.int c) H
theorem ok_cell (T : Txt mg) (F : At K mg "_law_cell" s__law_cell ["script", "k"]) : Dn P w K mg base CX0 1 "_law_cell" ["script", "k"] (spCell K) := by
  refine F.ok sc__law_cell (fun vs H Q E h => ?_) (fun f cdv A outer s H vs Q E hr h => ?_)
  · obtain ⟨a, ns, k, rfl, _⟩ := h
    rfl
  · obtain ⟨a, ns, k, rfl, hS, hl, k0, q⟩ := h
    refine ⟨_, (pss_cons (ps_if (pt_cmpR op_lt (pv 1) (pe_callB (r := rLen K) call_len (by rfl) T.n_len (by decide +kernel) (pa_cons (pv 0) pa_nil)) (nomark _)) (pss_one (ps_ret (pe_ix (r := rIxL K) ix_list (pv 0) (pv 1) (fun _ _ => rfl)))) pss_nil)
  (pss_one (ps_ret pe_int))), ?_⟩
    refine ⟨_, rfl, _, rfl, _, _, rfl, .inl ⟨_, hS, rfl⟩, _, _, rfl, rfl, _, rfl, iteD (fun hk => ?_) fun _ => q _⟩
    obtain ⟨z, _, _, hz⟩ := at_ints (ns := ns) (k := k) k0 (by rw [List.length_map] at hk; exact hk)
    exact ⟨_, rfl, _, rfl, _, _, _, _, rfl, rfl, hS, hz, q _⟩
def spSource : Sp := fun vs H Q _ => ∃ (c k : Int), vs = [.int c, .int k] ∧ 0 ≤ k ∧ k ≤ 1000 ∧ ∀ p x y, H p = none → 0 ≤ x → 0 ≤ y → y < 2 ^ 210 → Q (.ref p) (upd H p (.lst [.int x, .int y, .int 0]))
theorem ok_source (T : Txt mg) (F : At K mg "_law_source" s__law_source ["cell", "place"]) : Dn P w K mg base CX0 1 "_law_source" ["cell", "place"] spSource := by
  refine F.ok sc__law_source (fun vs H Q E h => ?_) (fun f cdv A outer s H vs Q E hr h => ?_)
  · obtain ⟨c, k, rfl, _⟩ := h
    rfl
  · obtain ⟨c, k, rfl, k0, k1, q⟩ := h
    refine ⟨_, (pss_one (ps_ret (pe_lst (pa_cons (pe_callB (call_max2 rfl) (by rfl) T.n_max (by decide +kernel) (pa_cons pe_int (pa_cons (pe_op op_sub (pv 0) (pe_op op_pow pe_int pe_int)) pa_nil))) (pa_cons (pe_op op_add (pe_op op_mul (pe_op op_mod (pv 0) (pe_op op_add (pe_op op_pow pe_int pe_int) pe_int)) pe_int) (pv 1)) (pa_cons pe_int pa_nil)))))), ?_⟩
    have h1 : 0 ≤ c % (10 ^ (41 : Int).toNat + 9) := Int.emod_nonneg _ (by decide)
    have h2 : c % (10 ^ (41 : Int).toNat + 9) < 10 ^ (41 : Int).toNat + 9 := Int.emod_lt_of_pos _ (by decide)
    have h3 : ((10 : Int) ^ (41 : Int).toNat + 9) * 64 + 1000 < 2 ^ 210 := by decide
    refine ⟨_, rfl, _, _, rfl, rfl, ⟨by decide, by decide, by decide⟩, _, _, rfl, rfl, _, _, rfl, ?_⟩
    refine ⟨_, rfl, _, _, rfl, rfl, ⟨by decide, by decide, by decide⟩, _, _, rfl, rfl, _, _, rfl, rfl, (by show (0 : Int) < _; decide), _, _, rfl, rfl, .inr ⟨by decide, by decide⟩, _, rfl, _, _, rfl, rfl, by show 3 ≤ sizeLine; decide, fun p np => q p _ _ np ?_ ?_ ?_⟩
    · split <;> omega
    · omega
    · omega
theorem erase_perm {α : Type} : ∀ {L : List α} {j : Nat} (h : j < L.length), (L[j] :: L.eraseIdx j).Perm L
  | [], j, h => by simp at h
  | x :: L, 0, h => List.Perm.refl _
  | x :: L, j + 1, h => by
    have ih := erase_perm (L := L) (j := j) (by simpa using h)
    exact (List.Perm.swap _ _ _).trans (ih.cons x)
theorem erase_map {α β : Type} (f : α → β) : ∀ (L : List α) (j : Nat), (L.eraseIdx j).map f = (L.map f).eraseIdx j
  | [], j => rfl
  | x :: L, 0 => rfl
  | x :: L, j + 1 => congrArg (f x :: ·) (erase_map f L j)
/-- at each of these places another number, by the rest of 97 -/
def Turn : List Int → List Nat → List Int → Prop
  | c, [], c' => c' = c
  | c, p :: ps, c' => ∃ v z : Int, c[p]? = some z ∧ (v - z) % 97 ≠ 0 ∧ Turn (c.set p v) ps c'
theorem Turn.len : ∀ {c c' : List Int} {ps : List Nat}, Turn c ps c' → c'.length = c.length
  | c, c', [], h => by rw [show c' = c from h]
  | c, c', p :: ps, h => by
    obtain ⟨v, z, _, _, t⟩ := h
    rw [t.len, List.length_set]
theorem Turn.snoc : ∀ {c c1 : List Int} {ps : List Nat} {p : Nat} {v z : Int}, Turn c ps c1 → c1[p]? = some z → (v - z) % 97 ≠ 0 → Turn c (ps ++ [p]) (c1.set p v)
  | c, c1, [], p, v, z, h, e, d => by
    obtain rfl : c1 = c := h
    exact ⟨v, z, e, d, rfl⟩
  | c, c1, q :: ps, p, v, z, h, e, d => by
    obtain ⟨v', z', e', d', t⟩ := h
    exact ⟨v', z', e', d', t.snoc e d⟩
def spTurned (K : PySem.W.Frag) : Sp := fun vs H Q _ => ∃ (p a b : Addr) (n : Int) (c : List Int) (ps : List Nat), vs = [.ref p, .ref a, .ref b] ∧ Purse H p n ∧ n + ps.length ≤ 90000 ∧ SqT K H a (c.map V.int) ∧ c.length ≤ 1000 ∧
  SqL K H b (ps.map fun (i : Nat) => V.int i) ∧ b ≠ p ∧ (∀ i ∈ ps, i < c.length) ∧ ∀ r c' H', Purse H' p (n + ps.length) → Kp p H H' → SqT K H' r (c'.map V.int) → Turn c ps c' → Q (.ref r) H'
theorem ok_turned (T : Txt mg) (D__law_pick : Dn P w K mg base CX0 1 "_law_pick" ["urn", "many"] spDrawn) (F : At K mg "_law_turned" s__law_turned ["urn", "card", "places"]) : Dn P w K mg base CX0 2 "_law_turned" ["urn", "card", "places"] (spTurned K) := by
  refine F.ok sc__law_turned (fun vs H Q E h => ?_) (fun f cdv A outer s H vs Q E hr h => ?_)
  · obtain ⟨p, a, b, n, c, ps, rfl, _⟩ := h
    rfl
  · obtain ⟨p, a, b, n, c, ps, rfl, hp, hn, ha, hl, hb, bp, hps, q⟩ := h
    refine ⟨_, (pss_cons (ps_set (i := 3) sc__law_turned.nd rfl (by first | exact Or.inl rfl | exact Or.inr rfl) (pe_callTy call_list_of (by rfl) T.n_list (by decide +kernel) (pa_cons (pv 1) pa_nil)))
  (pss_cons (ps_for PassesOwn.never rfl (pi_list (pv 2)) (pg_name (i := 4) sc__law_turned.nd rfl (by first | exact Or.inl rfl | exact Or.inr rfl))
  (pss_one (ps_asg (pe_op op_mod (pe_op op_add (pe_op op_add (pe_ix (r := rIxL K) ix_list (pv 3) (pv 4) (fun _ _ => rfl)) pe_int) (pe_callD D__law_pick (by first | exact hr | exact hr.mono (by decide)) (pa_cons (pv 0) (pa_cons pe_int pa_nil)))) pe_int) (pg_sub (pv 3) (pv 4) set_list))))
  (pss_one (ps_ret (pe_callTy call_tuple_of (by rfl) T.n_tuple (by decide +kernel) (pa_cons (pv 3) pa_nil)))))), ?_⟩
    refine ⟨_, rfl, _, _, rfl, .inr ha, fun l nl => ?_⟩
    have nlp : l ≠ p := hp.ne nl
    refine ⟨_, rfl, b, rfl, ⟨_, Same.seq (Same.new nl) hb⟩, ?_⟩
    have hb' : ∀ {H' : Hp}, Kp p H H' → SqL K H' b (ps.map fun (i : Nat) => V.int i) := fun {H'} k => by
      rcases hb with (h | ⟨o, h⟩) | h
      · exact .inl (.inl (k _ _ h bp))
      · exact .inl (.inr ⟨o, k _ _ h bp⟩)
      · exact .inr h
    refine for_list (K := K) (a := b) (xs := ps.map fun (i : Nat) => V.int i) (fun i σ H' => ∃ (c' : List Int) (v : Option V), σ = [some (.ref p), some (.ref a), some (.ref b), some (.ref l), v] ∧ H' l = some (.lst (c'.map V.int)) ∧ Turn c (ps.take i) c' ∧ Purse H' p (n + i) ∧ Kp p H H')
      ⟨c, none, rfl, upd_same, by rw [List.take_zero]; rfl, (hp.same (Same.new nl)).mono (by omega), Kp.new nl⟩ (fun i σ H' _ ⟨_, _, _, _, _, _, k⟩ => hb' k) ?_ ?_
    · rintro i x σ H' hi ⟨c', v, rfl, hL, ht, hp', hk⟩
      have hi' : i < ps.length := by
        have := (List.getElem?_eq_some_iff.mp hi).1
        rw [List.length_map] at this
        exact this
      obtain ⟨j, hj, rfl⟩ : ∃ j : Nat, ps[i]? = some j ∧ x = V.int j := by
        rw [List.getElem?_map] at hi
        cases e : ps[i]? with
        | none => rw [e] at hi; cases hi
        | some j => rw [e] at hi; exact ⟨j, rfl, (Option.some.inj hi).symm⟩
      have jl : j < c'.length := by rw [ht.len]; exact hps j (List.mem_of_getElem? hj)
      obtain ⟨z, _, hz, hz2⟩ := at_ints (ns := c') (k := (j : Int)) (by omega) (by omega)
      rw [Int.toNat_natCast] at hz
      refine ⟨_, rfl, _, rfl, _, _, _, _, rfl, rfl, SqL.of hL, hz2, _, _, rfl, rfl, _, rfl, p, _, 96, rfl, hp', by omega, by decide, by decide, fun d H1 d0 d1 hp1 k1 => ?_⟩
      have hL1 := k1 _ _ hL nlp
      refine ⟨_, _, rfl, rfl, _, _, rfl, rfl, (by show (0 : Int) < 97; decide), ?_⟩
      refine ⟨_, rfl, _, rfl, _, _, _, j, rfl, rfl, hL1, ?_, ?_⟩
      · unfold ixN
        rw [if_pos (by omega), if_pos (by rw [List.length_map]; omega), Int.toNat_natCast]
      refine ⟨c'.set j ((z + 1 + d) % 97), _, rfl, by rw [upd_same, List.map_set], ?_, ?_, ?_⟩
      · rw [List.take_succ, hj]
        exact ht.snoc hz (by omega)
      · obtain ⟨x, y, w', h1, h2, h3, h4, h5, h6⟩ := hp1
        exact ⟨x, y, w', by rw [upd_ne nlp.symm]; exact h1, h2, h3, h4, h5, by omega⟩
      · intro e o he hep
        rw [upd_ne (ne_of_none he nl)]
        exact k1 _ _ (hk _ _ he hep) hep
    · rintro σ H' ⟨c', v, rfl, hL, ht, hp', hk⟩
      rw [List.length_map] at ht hp'
      rw [List.take_length] at ht
      refine ⟨_, rfl, _, _, rfl, .inl ⟨SqL.of hL, fun r nr => ?_⟩⟩
      exact q r c' _ (hp'.same (Same.new nr)) (hk.trans (Kp.new nr)) (SqT.of upd_same) ht
def spPlaces : Sp := fun vs H Q _ => ∃ (p : Addr) (n many most : Int), vs = [.ref p, .int many, .int most] ∧ Purse H p n ∧ n ≤ 80000 ∧ 0 ≤ many ∧ many ≤ 1000 ∧ 0 ≤ most ∧
  ∀ (r : Addr) (ps : List Nat) (H' : Hp), Purse H' p (n + ps.length) → Kp p H H' → H' r = some (.lst (ps.map fun (i : Nat) => V.int i)) → r ≠ p → H r = none → ps.Nodup → (∀ i ∈ ps, 3 ≤ i ∧ (i : Int) < 3 + many) → (ps.length : Int) = (if most < many then most else many) → Q (.ref r) H'
theorem ok_places (T : Txt mg) (D__law_pick : Dn P w K mg base CX0 1 "_law_pick" ["urn", "many"] spDrawn) (F : At K mg "_law_places" s__law_places ["urn", "many", "most"]) : Dn P w K mg base CX0 2 "_law_places" ["urn", "many", "most"] spPlaces := by
  refine F.ok sc__law_places (fun vs H Q E h => ?_) (fun f cdv A outer s H vs Q E hr h => ?_)
  · obtain ⟨p, n, many, most, rfl, _⟩ := h
    rfl
  · obtain ⟨p, n, many, most, rfl, hp, hn, m0, m1, o0, q⟩ := h
    refine ⟨_, (pss_cons (ps_set (i := 3) sc__law_places.nd rfl (by first | exact Or.inl rfl | exact Or.inr rfl) (pe_listRg rfl (by rfl) T.n_list (prg_2 (by rfl) T.n_range pe_int (pe_op op_add pe_int (pv 1)))))
  (pss_one (ps_ret (pe_lc (own := [("k", 4)]) (g := (gName 4)) (by rfl) sc__law_places.nd (pi_range1 (by rfl) T.n_range (pa_cons (pe_callB (call_min2 rfl) (by rfl) T.n_min (by decide +kernel) (pa_cons (pv 1) (pa_cons (pv 2) pa_nil))) pa_nil)) (blkOk_by (own := [("k", 4)]) (N := ["urn", "many", "most", "left", "k"]) (sc := defScope s__law_places) (by decide +kernel)) (fun _ _ _ _ _ => (pg_name (i := 4) sc__law_places.nd rfl (Or.inl rfl) (Or.inr rfl))) (fun _ _ _ _ _ => pts_nil) (fun _ _ _ _ _ => (pe_bmK K PySem.F.plainAttrs_list PySem.F.slot_list_pop PySem.F.type_list_pop mt_popAt (pv 3) (pa_cons (pe_callD D__law_pick (by first | exact hr | exact hr.mono (by decide)) (pa_cons (pv 0) (pa_cons (pe_callB (r := rLen K) call_len (by rfl) T.n_len (by decide +kernel) (pa_cons (pv 3) pa_nil)) pa_nil))) pa_nil))))))), ?_⟩
    refine ⟨_, rfl, _, _, rfl, rfl, _, _, rfl, rfl, RgOk.of_le (by omega) (by omega) (by omega) (by omega), fun l nl => ?_⟩
    have nlp : l ≠ p := hp.ne nl
    have e0 : rgV 3 (3 + many) = ((List.range many.toNat).map (3 + ·)).map fun (i : Nat) => V.int i := by
      unfold rgV
      rw [List.map_map, show (3 + many - 3).toNat = many.toNat by omega]
      apply List.map_congr_left
      intro i _
      show V.int (3 + (i : Int)) = V.int ((3 + i : Nat) : Int)
      congr 1
    rw [e0]
    generalize hS : (List.range many.toNat).map (3 + ·) = S
    have lS : S.length = many.toNat := by rw [← hS, List.length_map, List.length_range]
    have nS : S.Nodup := by
      rw [← hS]
      exact List.Pairwise.map _ (fun a b h => by simpa using h) List.nodup_range
    have bS : ∀ i ∈ S, 3 ≤ i ∧ (i : Int) < 3 + many := by
      intro i hi
      rw [← hS] at hi
      obtain ⟨j, hj, rfl⟩ := List.mem_map.mp hi
      have := List.mem_range.mp hj
      omega
    refine ⟨_, rfl, _, rfl, _, _, rfl, _, rfl, ?_, ?_, fun D nD => ?_⟩
    · split <;> omega
    · split <;> omega
    have nDp : D ≠ p := (hp.same (Same.new nl)).ne nD
    have nDl : D ≠ l := fun e => by rw [e, upd_same] at nD; cases nD
    refine lc_it walk_range (fun i H' => ∃ (ps L : List Nat), H' D = some (.lst (ps.map fun (i : Nat) => V.int i)) ∧ H' l = some (.lst (L.map fun (i : Nat) => V.int i)) ∧ ps.length = i ∧ L.length + i = many.toNat ∧ (ps ++ L).Nodup ∧ (∀ x ∈ ps ++ L, x ∈ S) ∧ Purse H' p (n + i) ∧ Kp p H H')
      ⟨[], S, upd_same, old upd_same nD, rfl, by omega, nS, fun x hx => hx, ((hp.same (Same.new nl)).same (Same.new nD)).mono (by omega), (Kp.new nl).trans (Kp.new nD)⟩ (fun _ _ _ _ => trivial) ?_ ?_
    · intro i x H6 H7 hi ⟨ps, L, e1, e2, e3, e4, e5, e6, e7, e8⟩ y
      obtain ⟨rfl, rfl⟩ := y
      have hiL : 0 < L.length := by
        have : (i : Int) < many := by
          split at hi <;> omega
        omega
      refine ⟨rfl, _, rfl, .inl ⟨rfl, _, SqL.of e2⟩, _, rfl, _, rfl, _, _, rfl, .inl ⟨_, SqL.of e2, rfl⟩, p, _, _, rfl, e7, by omega, by rw [List.length_map]; omega, by rw [List.length_map]; omega, fun d H8 d0 d1 hp8 k8 => ?_⟩
      rw [List.length_map] at d1
      have e1' := k8 _ _ e1 nDp
      have e2' := k8 _ _ e2 nlp
      obtain ⟨j, rfl⟩ : ∃ j : Nat, d = (j : Int) := ⟨d.toNat, by omega⟩
      have hj : j < L.length := by omega
      have pm : ((ps ++ [L[j]]) ++ L.eraseIdx j).Perm (ps ++ L) := by
        rw [List.append_assoc]
        exact List.Perm.append_left ps (erase_perm hj)
      refine ⟨l, _, _, j, V.int (L[j] : Nat), rfl, rfl, e2', by omega, by omega, ?_, ?_, ps.map fun (i : Nat) => V.int i, ?_, ?_, ps ++ [L[j]], L.eraseIdx j, ?_, ?_, ?_, ?_, ?_, ?_, ?_, ?_⟩
      · unfold seqIndex?
        simp
        omega
      · rw [List.getElem?_map, List.getElem?_eq_getElem hj]
        rfl
      · rw [upd_ne nDl]
        exact e1'
      · rw [List.length_map]
        exact small1000 (by omega)
      · rw [upd_same, List.map_append]
        rfl
      · rw [upd_ne nDl.symm, upd_same, ← erase_map]
      · rw [List.length_append, e3]
        rfl
      · rw [List.length_eraseIdx_of_lt hj]
        omega
      · exact pm.nodup_iff.mpr e5
      · exact fun x hx => e6 x (pm.mem_iff.mp hx)
      · exact ((hp8.upd nlp).upd nDp).mono (by omega)
      · intro b o hb hbp
        rw [upd_ne (ne_of_none (old hb nl) nD), upd_ne (ne_of_none hb nl)]
        exact k8 _ _ (e8 _ _ hb hbp) hbp
    · intro H6 ⟨ps, L, e1, e2, e3, e4, e5, e6, e7, e8⟩
      refine q D ps H6 (by rw [e3]; exact e7) e8 e1 nDp ?_ (List.nodup_append.mp e5).1 (fun i hi => bS i (e6 i (List.mem_append_left _ hi))) ?_
      · cases e : H D with
        | none => rfl
        | some o => rw [old e nl] at nD; cases nD
      · rw [e3]
        split <;> omega
/-- alike things that are no lists and tuples -/
def flatA : V → Bool
  | .non => true
  | .bl _ => true
  | .int _ => true
  | .str _ => true
  | _ => false
def spAlike1 : Sp := fun vs H Q _ => ∃ v, vs = [v, v] ∧ flatA v = true ∧ Q (.bl true) H
/-- lists, tuples of such ones -/
def spAlikeS (K : PySem.W.Frag) : Sp := fun vs H Q _ =>
  ∃ (a b : Addr) (xs : List V), vs = [.ref a, .ref b] ∧ ((SqL K H a xs ∧ SqL K H b xs) ∨ (SqT K H a xs ∧ SqT K H b xs)) ∧ xs.length ≤ 100000 ∧ (∀ x ∈ xs, flatA x = true) ∧ ∀ H', Same H H' → Q (.bl true) H'
def spAlike (K : PySem.W.Frag) : Sp := fun vs H Q E => spAlike1 vs H Q E ∨ spAlikeS K vs H Q E
theorem ty_flat {K : PySem.W.Frag} {H : Hp} {v : V} (h : flatA v = true) : ∃ n, Ty K H v n := by
  cases v with
  | non => exact ⟨_, .non⟩
  | bl b => exact ⟨_, .bl b⟩
  | int i => exact ⟨_, .int i⟩
  | str s => exact ⟨_, .str s⟩
  | _ => cases h
theorem bl_eq {Q : VK} {H : Hp} {x : V} (q : Q (.bl true) H) : Q (.bl (decide (x = x))) H := by
  rw [decide_eq_true rfl]; exact q
theorem ok_alike1 (T : Txt mg) (F : At K mg "_law_alike" s__law_alike ["found", "due"]) : Dn P w K mg base CX0 1 "_law_alike" ["found", "due"] spAlike1 := by
  have D__law_alike : Dn P w K mg base CX0 0 "_law_alike" ["found", "due"] (fun _ _ _ _ => False) := F.none 0
  refine F.ok sc__law_alike (fun vs H Q E h => ?_) (fun f cdv A outer s H vs Q E hr h => ?_)
  · obtain ⟨v, rfl, _⟩ := h
    rfl
  · obtain ⟨v, rfl, hv, q⟩ := h
    refine ⟨_, (pss_cons (ps_if (pt_cmpR op_isN (pv 1) pe_non (nomark _)) (pss_one (ps_ret (pe_cmpR op_isN (pv 0) pe_non (nomark _)))) pss_nil)
  (pss_cons (ps_if (pt_val (pe_callB (r := rIsi K) call_isi (by rfl) T.n_isinstance (by decide +kernel) (pa_cons (pv 1) (pa_cons (pe_bltn (v := .ty "bool") (u := .type "bool") (by rfl) T.n_bool (by decide +kernel) (by exact rfl)) pa_nil)))) (pss_one (ps_ret (pe_and (pe_callB (r := rIsi K) call_isi (by rfl) T.n_isinstance (by decide +kernel) (pa_cons (pv 0) (pa_cons (pe_bltn (v := .ty "bool") (u := .type "bool") (by rfl) T.n_bool (by decide +kernel) (by exact rfl)) pa_nil))) (pe_one (pe_cmpR op_eq (pv 0) (pv 1) (nomark _)))))) pss_nil)
  (pss_cons (ps_if (pt_val (pe_callB (r := rIsi K) call_isi (by rfl) T.n_isinstance (by decide +kernel) (pa_cons (pv 1) (pa_cons (pe_bltn (v := .ty "int") (u := .type "int") (by rfl) T.n_int (by decide +kernel) (by exact rfl)) pa_nil)))) (pss_one (ps_ret (pe_and (pe_callB (r := rIsi K) call_isi (by rfl) T.n_isinstance (by decide +kernel) (pa_cons (pv 0) (pa_cons (pe_bltn (v := .ty "int") (u := .type "int") (by rfl) T.n_int (by decide +kernel) (by exact rfl)) pa_nil))) (pe_and (pe_not (pe_callB (r := rIsi K) call_isi (by rfl) T.n_isinstance (by decide +kernel) (pa_cons (pv 0) (pa_cons (pe_bltn (v := .ty "bool") (u := .type "bool") (by rfl) T.n_bool (by decide +kernel) (by exact rfl)) pa_nil)))) (pe_one (pe_cmpR op_eq (pv 0) (pv 1) (nomark _))))))) pss_nil)
  (pss_cons (ps_if (pt_val (pe_callB (r := rIsi K) call_isi (by rfl) T.n_isinstance (by decide +kernel) (pa_cons (pv 1) (pa_cons (pe_bltn (v := .ty "str") (u := .type "str") (by rfl) T.n_str (by decide +kernel) (by exact rfl)) pa_nil)))) (pss_one (ps_ret (pe_and (pe_callB (r := rIsi K) call_isi (by rfl) T.n_isinstance (by decide +kernel) (pa_cons (pv 0) (pa_cons (pe_bltn (v := .ty "str") (u := .type "str") (by rfl) T.n_str (by decide +kernel) (by exact rfl)) pa_nil))) (pe_one (pe_cmpR op_eq (pv 0) (pv 1) (nomark _)))))) pss_nil)
  (pss_cons (ps_if (PW.pt (pw_or (pt_cmpR op_ne (pe_callB (r := rIsi K) call_isi (by rfl) T.n_isinstance (by decide +kernel) (pa_cons (pv 1) (pa_cons (pe_bltn (v := .ty "tuple") (u := .type "tuple") (by rfl) T.n_tuple (by decide +kernel) (by exact rfl)) pa_nil))) (pe_callB (r := rIsi K) call_isi (by rfl) T.n_isinstance (by decide +kernel) (pa_cons (pv 0) (pa_cons (pe_bltn (v := .ty "tuple") (u := .type "tuple") (by rfl) T.n_tuple (by decide +kernel) (by exact rfl)) pa_nil))) (nomark _)) (pw_or1 (pt_cmpR op_ne (pe_callB (r := rIsi K) call_isi (by rfl) T.n_isinstance (by decide +kernel) (pa_cons (pv 1) (pa_cons (pe_bltn (v := .ty "list") (u := .type "list") (by rfl) T.n_list (by decide +kernel) (by exact rfl)) pa_nil))) (pe_callB (r := rIsi K) call_isi (by rfl) T.n_isinstance (by decide +kernel) (pa_cons (pv 0) (pa_cons (pe_bltn (v := .ty "list") (u := .type "list") (by rfl) T.n_list (by decide +kernel) (by exact rfl)) pa_nil))) (nomark _))))) (pss_one (ps_ret pe_bl)) pss_nil)
  (pss_one (ps_ret (pe_and (pe_cmpR op_eq (pe_callB (r := rLen K) call_len (by rfl) T.n_len (by decide +kernel) (pa_cons (pv 0) pa_nil)) (pe_callB (r := rLen K) call_len (by rfl) T.n_len (by decide +kernel) (pa_cons (pv 1) pa_nil)) (nomark _)) (pe_one (pe_callB (r := rAll K) (cr_all rfl) (by rfl) T.n_all (by decide +kernel) (pa_cons (pe_lc (own := [("one", 2), ("other", 3)]) (g := (gTup K 2 (gCons (gName 2) (gCons (gName 3) gNil)))) (by rfl) sc__law_alike.nd (RZ.pi_zipA (by rfl) T.n_zip (pa_cons (pv 0) (pa_cons (pv 1) pa_nil))) (blkOk_by (own := [("one", 2), ("other", 3)]) (N := ["found", "due", "one", "other"]) (sc := defScope s__law_alike) (by decide +kernel)) (fun _ _ _ _ _ => (pg_tup rfl (pgs_cons (pg_name (i := 2) sc__law_alike.nd rfl (Or.inl rfl) (Or.inr rfl)) (pgs_cons (pg_name (i := 3) sc__law_alike.nd rfl (Or.inl rfl) (Or.inr rfl)) pgs_nil)))) (fun _ _ _ _ _ => pts_nil) (fun _ _ _ _ _ => (pe_callD D__law_alike (by first | exact hr | exact hr.mono (by decide)) (pa_cons (pv 2) (pa_cons (pv 3) pa_nil))))) pa_nil))))))))))), ?_⟩
    cases v with
    | non => exact ⟨_, rfl, rfl, _, rfl, _, rfl, rfl, q⟩
    | bl b =>
      have ty : Ty K H (.bl b) "bool" := .bl b
      refine ⟨_, rfl, rfl, _, rfl, _, rfl, _, _, _, _, _, rfl, .ty "bool", ty.x, ty.kit "bool", _, rfl, ?_⟩
      exact ⟨_, rfl, _, _, _, _, _, rfl, .ty "bool", ty.x, ty.kit "bool", _, rfl, _, rfl, _, rfl, rfl, bl_eq q⟩
    | int i =>
      have ty : Ty K H (.int i) "int" := .int i
      refine ⟨_, rfl, rfl, _, rfl, _, rfl, _, _, _, _, _, rfl, .ty "bool", ty.x, ty.kit "bool", _, rfl, ?_⟩
      refine ⟨_, rfl, _, _, _, _, _, rfl, .ty "int", ty.x, ty.kit "int", _, rfl, ?_⟩
      exact ⟨_, rfl, _, _, _, _, _, rfl, .ty "int", ty.x, ty.kit "int", _, rfl, _, rfl, _, _, _, _, _, rfl, .ty "bool", ty.x, ty.kit "bool", _, rfl, _, rfl, _, rfl, _, rfl, rfl, bl_eq q⟩
    | str z =>
      have ty : Ty K H (.str z) "str" := .str z
      refine ⟨_, rfl, rfl, _, rfl, _, rfl, _, _, _, _, _, rfl, .ty "bool", ty.x, ty.kit "bool", _, rfl, ?_⟩
      refine ⟨_, rfl, _, _, _, _, _, rfl, .ty "int", ty.x, ty.kit "int", _, rfl, ?_⟩
      refine ⟨_, rfl, _, _, _, _, _, rfl, .ty "str", ty.x, ty.kit "str", _, rfl, ?_⟩
      exact ⟨_, rfl, _, _, _, _, _, rfl, .ty "str", ty.x, ty.kit "str", _, rfl, _, rfl, _, rfl, rfl, bl_eq q⟩
    | byt b => cases hv
    | flt b => cases hv
    | ref a => cases hv
    | ty n => cases hv
theorem ok_alikeS (T : Txt mg) (D__law_alike : Dn P w K mg base CX0 1 "_law_alike" ["found", "due"] spAlike1) (F : At K mg "_law_alike" s__law_alike ["found", "due"]) : Dn P w K mg base CX0 2 "_law_alike" ["found", "due"] (spAlikeS K) := by
  refine F.ok sc__law_alike (fun vs H Q E h => ?_) (fun f cdv A outer s H vs Q E hr h => ?_)
  · obtain ⟨a, b, xs, rfl, _⟩ := h
    rfl
  · obtain ⟨a, b, xs, rfl, hab, hl, hx, q⟩ := h
    refine ⟨_, (pss_cons (ps_if (pt_cmpR op_isN (pv 1) pe_non (nomark _)) (pss_one (ps_ret (pe_cmpR op_isN (pv 0) pe_non (nomark _)))) pss_nil)
  (pss_cons (ps_if (pt_val (pe_callB (r := rIsi K) call_isi (by rfl) T.n_isinstance (by decide +kernel) (pa_cons (pv 1) (pa_cons (pe_bltn (v := .ty "bool") (u := .type "bool") (by rfl) T.n_bool (by decide +kernel) (by exact rfl)) pa_nil)))) (pss_one (ps_ret (pe_and (pe_callB (r := rIsi K) call_isi (by rfl) T.n_isinstance (by decide +kernel) (pa_cons (pv 0) (pa_cons (pe_bltn (v := .ty "bool") (u := .type "bool") (by rfl) T.n_bool (by decide +kernel) (by exact rfl)) pa_nil))) (pe_one (pe_cmpR op_eq (pv 0) (pv 1) (nomark _)))))) pss_nil)
  (pss_cons (ps_if (pt_val (pe_callB (r := rIsi K) call_isi (by rfl) T.n_isinstance (by decide +kernel) (pa_cons (pv 1) (pa_cons (pe_bltn (v := .ty "int") (u := .type "int") (by rfl) T.n_int (by decide +kernel) (by exact rfl)) pa_nil)))) (pss_one (ps_ret (pe_and (pe_callB (r := rIsi K) call_isi (by rfl) T.n_isinstance (by decide +kernel) (pa_cons (pv 0) (pa_cons (pe_bltn (v := .ty "int") (u := .type "int") (by rfl) T.n_int (by decide +kernel) (by exact rfl)) pa_nil))) (pe_and (pe_not (pe_callB (r := rIsi K) call_isi (by rfl) T.n_isinstance (by decide +kernel) (pa_cons (pv 0) (pa_cons (pe_bltn (v := .ty "bool") (u := .type "bool") (by rfl) T.n_bool (by decide +kernel) (by exact rfl)) pa_nil)))) (pe_one (pe_cmpR op_eq (pv 0) (pv 1) (nomark _))))))) pss_nil)
  (pss_cons (ps_if (pt_val (pe_callB (r := rIsi K) call_isi (by rfl) T.n_isinstance (by decide +kernel) (pa_cons (pv 1) (pa_cons (pe_bltn (v := .ty "str") (u := .type "str") (by rfl) T.n_str (by decide +kernel) (by exact rfl)) pa_nil)))) (pss_one (ps_ret (pe_and (pe_callB (r := rIsi K) call_isi (by rfl) T.n_isinstance (by decide +kernel) (pa_cons (pv 0) (pa_cons (pe_bltn (v := .ty "str") (u := .type "str") (by rfl) T.n_str (by decide +kernel) (by exact rfl)) pa_nil))) (pe_one (pe_cmpR op_eq (pv 0) (pv 1) (nomark _)))))) pss_nil)
  (pss_cons (ps_if (PW.pt (pw_or (pt_cmpR op_ne (pe_callB (r := rIsi K) call_isi (by rfl) T.n_isinstance (by decide +kernel) (pa_cons (pv 1) (pa_cons (pe_bltn (v := .ty "tuple") (u := .type "tuple") (by rfl) T.n_tuple (by decide +kernel) (by exact rfl)) pa_nil))) (pe_callB (r := rIsi K) call_isi (by rfl) T.n_isinstance (by decide +kernel) (pa_cons (pv 0) (pa_cons (pe_bltn (v := .ty "tuple") (u := .type "tuple") (by rfl) T.n_tuple (by decide +kernel) (by exact rfl)) pa_nil))) (nomark _)) (pw_or1 (pt_cmpR op_ne (pe_callB (r := rIsi K) call_isi (by rfl) T.n_isinstance (by decide +kernel) (pa_cons (pv 1) (pa_cons (pe_bltn (v := .ty "list") (u := .type "list") (by rfl) T.n_list (by decide +kernel) (by exact rfl)) pa_nil))) (pe_callB (r := rIsi K) call_isi (by rfl) T.n_isinstance (by decide +kernel) (pa_cons (pv 0) (pa_cons (pe_bltn (v := .ty "list") (u := .type "list") (by rfl) T.n_list (by decide +kernel) (by exact rfl)) pa_nil))) (nomark _))))) (pss_one (ps_ret pe_bl)) pss_nil)
  (pss_one (ps_ret (pe_and (pe_cmpR op_eq (pe_callB (r := rLen K) call_len (by rfl) T.n_len (by decide +kernel) (pa_cons (pv 0) pa_nil)) (pe_callB (r := rLen K) call_len (by rfl) T.n_len (by decide +kernel) (pa_cons (pv 1) pa_nil)) (nomark _)) (pe_one (pe_callB (r := rAll K) (cr_all rfl) (by rfl) T.n_all (by decide +kernel) (pa_cons (pe_lc (own := [("one", 2), ("other", 3)]) (g := (gTup K 2 (gCons (gName 2) (gCons (gName 3) gNil)))) (by rfl) sc__law_alike.nd (RZ.pi_zipA (by rfl) T.n_zip (pa_cons (pv 0) (pa_cons (pv 1) pa_nil))) (blkOk_by (own := [("one", 2), ("other", 3)]) (N := ["found", "due", "one", "other"]) (sc := defScope s__law_alike) (by decide +kernel)) (fun _ _ _ _ _ => (pg_tup rfl (pgs_cons (pg_name (i := 2) sc__law_alike.nd rfl (Or.inl rfl) (Or.inr rfl)) (pgs_cons (pg_name (i := 3) sc__law_alike.nd rfl (Or.inl rfl) (Or.inr rfl)) pgs_nil)))) (fun _ _ _ _ _ => pts_nil) (fun _ _ _ _ _ => (pe_callD D__law_alike (by first | exact hr | exact hr.mono (by decide)) (pa_cons (pv 2) (pa_cons (pv 3) pa_nil))))) pa_nil))))))))))), ?_⟩
    obtain ⟨n, hn, ta, tb⟩ : ∃ n, (n = "list" ∨ n = "tuple") ∧ Ty K H (.ref a) n ∧ Ty K H (.ref b) n := by
      rcases hab with ⟨ha, hb⟩ | ⟨ha, hb⟩
      · exact ⟨_, .inl rfl, .lst ha, .lst hb⟩
      · exact ⟨_, .inr rfl, .tup ha, .tup hb⟩
    have n1 : (n == "bool" || (n == "bool" && "bool" == "int")) = false := by rcases hn with rfl | rfl <;> rfl
    have n2 : (n == "int" || (n == "bool" && "int" == "int")) = false := by rcases hn with rfl | rfl <;> rfl
    have n3 : (n == "str" || (n == "bool" && "str" == "int")) = false := by rcases hn with rfl | rfl <;> rfl
    refine ⟨_, rfl, rfl, _, rfl, _, rfl, _, _, _, _, _, rfl, .ty "bool", tb.x, tb.kit "bool", ?_⟩
    rw [n1]
    refine ⟨_, rfl, _, rfl, _, _, _, _, _, rfl, .ty "int", tb.x, tb.kit "int", ?_⟩
    rw [n2]
    refine ⟨_, rfl, _, rfl, _, _, _, _, _, rfl, .ty "str", tb.x, tb.kit "str", ?_⟩
    rw [n3]
    refine ⟨_, rfl, _, rfl, _, _, _, _, _, rfl, .ty "tuple", tb.x, tb.kit "tuple", _, rfl, _, _, _, _, _, rfl, .ty "tuple", ta.x, ta.kit "tuple", rfl, ?_⟩
    refine ⟨_, rfl, iteDn (fun h => absurd rfl h) fun _ => ?_⟩
    refine ⟨_, rfl, _, _, _, _, _, rfl, .ty "list", tb.x, tb.kit "list", _, rfl, _, _, _, _, _, rfl, .ty "list", ta.x, ta.kit "list", rfl, ?_⟩
    refine ⟨_, rfl, iteDn (fun h => absurd rfl h) fun _ => ?_⟩
    have la : LenV K (.ref a) H xs.length := by
      rcases hab with ⟨ha, _⟩ | ⟨ha, _⟩
      · exact .inl ⟨_, ha, rfl⟩
      · exact .inr ⟨_, ha, rfl⟩
    have lb : LenV K (.ref b) H xs.length := by
      rcases hab with ⟨_, hb⟩ | ⟨_, hb⟩
      · exact .inl ⟨_, hb, rfl⟩
      · exact .inr ⟨_, hb, rfl⟩
    refine ⟨_, rfl, _, _, rfl, la, _, rfl, _, _, rfl, lb, rfl, _, rfl, iteI (fun _ => ?_) fun h => absurd rfl h⟩
    have step : ∀ (i : Nat) (x : V) (H1 H2 : Hp), i < min xs.length xs.length → YPair (fun i => xs[i]?) (fun i => xs[i]?) i H1 x H2 → ∃ t v, x = .ref t ∧ H1 t = none ∧ H2 = upd H1 t (.tup [v, v]) ∧ flatA v = true := by
      intro i x H1 H2 hi y
      obtain ⟨t, x1, x2, rfl, nt, rfl, e1, e2⟩ := y
      rw [e1] at e2
      cases e2
      exact ⟨t, x1, rfl, nt, rfl, hx _ (List.mem_of_getElem? e1)⟩
    have all : ((List.range (min xs.length xs.length)).map fun _ => true).all id = true := by
      rw [List.all_map, List.all_eq_true]
      intro x _
      rfl
    rcases hab with ⟨ha, hb⟩ | ⟨ha, hb⟩
    · refine ⟨_, rfl, _, rfl, _, _, _, _, rfl, .inl ⟨ha, hb, fun D nD => lc_bools (walk_zip rfl) (fun _ => true) nD (small1000' (by omega)) (fun H s => ⟨s.seq ha, s.seq hb⟩) ?_ ?_⟩⟩
      · intro i x H4 H5 R R' hi s4 y k4
        obtain ⟨t, v, rfl, nt, rfl, fv⟩ := step i x H4 H5 hi y
        exact ⟨_, _, rfl, SqT.of upd_same, rfl, _, _, rfl, _, _, rfl, rfl, rfl, _, rfl, _, rfl, v, rfl, fv, k4 _ (Same.new nt)⟩
      · intro H4 s4 e4
        refine ⟨_, _, rfl, SqL.of e4, ?_⟩
        rw [all]
        exact q _ s4
    · refine ⟨_, rfl, _, rfl, _, _, _, _, rfl, .inr ⟨ha, hb, fun D nD => lc_bools (walk_zipT rfl) (fun _ => true) nD (small1000' (by omega)) (fun H s => ⟨Same.sqt s ha, Same.sqt s hb⟩) ?_ ?_⟩⟩
      · intro i x H4 H5 R R' hi s4 y k4
        obtain ⟨t, v, rfl, nt, rfl, fv⟩ := step i x H4 H5 hi y
        exact ⟨_, _, rfl, SqT.of upd_same, rfl, _, _, rfl, _, _, rfl, rfl, rfl, _, rfl, _, rfl, v, rfl, fv, k4 _ (Same.new nt)⟩
      · intro H4 s4 e4
        refine ⟨_, _, rfl, SqL.of e4, ?_⟩
        rw [all]
        exact q _ s4
/-- the law's own card -/
def spLawMade (K : PySem.W.Frag) : Sp := fun vs H Q _ => ∃ (t pl : Int) (a : Addr) (cs : List Int), vs = [.int t, .int pl, .ref a] ∧ SqL K H a (cs.map V.int) ∧ cs.length ≤ 10000 ∧ (∀ c ∈ cs, -(2 ^ 64) < c ∧ c < 2 ^ 64) ∧ ∀ p H', Same H H' → H' p = some (.tup ((cardOf t pl cs).map V.int)) → Q (.ref p) H'
theorem ok_law_made (T : Txt mg) (F : At K mg "_law_made" s__law_made ["ticket", "place", "cells"]) : Dn P w K mg base CX0 1 "_law_made" ["ticket", "place", "cells"]
    (spLawMade K) := by
  refine F.ok sc__law_made (fun vs H Q E h => ?_) (fun f cdv A outer s H vs Q E hr h => ?_)
  · obtain ⟨t, pl, a, cs, rfl, _⟩ := h
    rfl
  · obtain ⟨t, pl, a, cs, rfl, ha, hl, hb, q⟩ := h
    refine ⟨_, (pss_cons (ps_set (i := 3) sc__law_made.nd rfl (by first | exact Or.inl rfl | exact Or.inr rfl) (pe_op op_mod (pe_callB (r := rSum K) (cr_sum rfl) (by rfl) T.n_sum (by decide +kernel) (pa_cons (pv 2) pa_nil)) pe_int))
  (pss_cons (ps_set (i := 5) sc__law_made.nd rfl (by first | exact Or.inl rfl | exact Or.inr rfl) (pe_op op_mod (pe_callB (r := rSum K) (cr_sum rfl) (by rfl) T.n_sum (by decide +kernel) (pa_cons (pe_lc (own := [("i", 4)]) (g := (gName 4)) (by rfl) sc__law_made.nd (pi_range1 (by rfl) T.n_range (pa_cons (pe_callB (r := rLen K) call_len (by rfl) T.n_len (by decide +kernel) (pa_cons (pv 2) pa_nil)) pa_nil)) (blkOk_by (own := [("i", 4)]) (N := ["ticket", "place", "cells", "one", "i", "two"]) (sc := defScope s__law_made) (by decide +kernel)) (fun _ _ _ _ _ => (pg_name (i := 4) sc__law_made.nd rfl (Or.inl rfl) (Or.inr rfl))) (fun _ _ _ _ _ => pts_nil) (fun _ _ _ _ _ => (pe_op op_mul (pe_op op_add (pv 4) pe_int) (pe_ix (r := rIxL K) ix_list (pv 2) (pv 4) (fun _ _ => rfl))))) pa_nil)) pe_int))
  (pss_one (ps_ret (pe_op (r := rCatA K) op_catA (pe_op (r := rCatA K) op_catA (pe_tup (pa_cons (pe_op op_add pe_int (pe_callB (r := rLen K) call_len (by rfl) T.n_len (by decide +kernel) (pa_cons (pv 2) pa_nil))) (pa_cons (pv 0) (pa_cons (pv 1) pa_nil)))) (pe_callTy call_tuple_of (by rfl) T.n_tuple (by decide +kernel) (pa_cons (pv 2) pa_nil))) (pe_tup (pa_cons (pv 3) (pa_cons (pv 5) pa_nil)))))))), ?_⟩
    refine ⟨_, rfl, _, cs, rfl, ha, _, _, rfl, rfl, (by show (0 : Int) < 97; decide), ?_⟩
    refine ⟨_, rfl, _, _, rfl, .inl ⟨_, ha, rfl⟩, _, rfl, by omega, by rw [List.length_map]; omega, fun D nD => ?_⟩
    rw [Int.toNat_natCast, List.length_map]
    refine lc_ints walk_range (fun i => (1 + (i : Int)) * cs.getD i default) nD (small1000' (by omega)) (fun _ _ => trivial) ?_ ?_
    · intro i x H4 H5 R R' hi s4 y k4
      obtain ⟨rfl, rfl⟩ := y
      obtain ⟨z, hz1, hz2, hz3⟩ := at_ints (ns := cs) (k := 0 + (i : Int)) (by omega) (by omega)
      have e : z = cs.getD i default := by
        rw [show (0 + (i : Int)).toNat = i by omega] at hz2
        simp [List.getD, hz2]
      refine ⟨rfl, _, rfl, _, _, rfl, rfl, _, rfl, _, rfl, _, _, _, _, rfl, rfl, s4.seq ha, hz3, _, _, rfl, rfl, .inr (hb z hz1), ?_⟩
      rw [e, show (0 : Int) + i + 1 = 1 + i by omega]
      exact k4 _ (Same.refl _)
    · intro H4 s4 e4
      have ed : ((List.range cs.length).map fun (i : Nat) => (1 + (i : Int)) * cs.getD i default).sum = dot (upTo cs.length) cs := by
        unfold dot
        rw [← zip_range]
        congr 1
        have hu : (upTo cs.length).length = cs.length := by unfold upTo; rw [List.length_map, List.length_range]
        rw [hu, Nat.min_self]
        apply List.map_congr_left
        intro i hi
        have := List.mem_range.mp hi
        unfold upTo
        simp [List.getD, this]
      refine ⟨_, _, rfl, SqL.of e4, _, _, rfl, rfl, (by show (0 : Int) < 97; decide), ?_⟩
      rw [ed]
      refine ⟨_, rfl, _, _, rfl, .inl ⟨_, s4.seq ha, rfl⟩, _, _, rfl, rfl, _, rfl, _, rfl, by show 3 ≤ sizeLine; decide, fun u nu => ?_⟩
      refine ⟨_, rfl, _, _, rfl, .inl ⟨(Same.trans s4 (Same.new nu)).seq ha, fun v nv => ?_⟩⟩
      have s5 := Same.trans (Same.trans s4 (Same.new (o := .tup [.int (5 + ((cs.map V.int).length : Nat)), .int t, .int pl]) nu)) (Same.new (o := .tup (cs.map V.int)) nv)
      refine ⟨_, _, _, _, rfl, rfl, SqT.of (old upd_same nv), SqT.of upd_same, ?_, fun z => (by cases z), fun _ ye => ?_, fun _ yn m nm => ?_⟩
      · simp only [List.length_cons, List.length_map, List.length_nil]
        exact small1000' (by omega)
      · obtain rfl : cs = [] := List.map_eq_nil_iff.mp ye
        refine ⟨_, rfl, _, rfl, by show 2 ≤ sizeLine; decide, fun x nx => ?_⟩
        refine ⟨_, _, _, _, rfl, rfl, SqT.of (old (old upd_same nv) nx), SqT.of upd_same, ?_, fun z => (by cases z), fun _ z => (by cases z), fun _ _ r nr => ?_⟩
        · simp only [List.length_cons, List.length_append, List.length_map, List.length_nil]
          exact small1000' (by omega)
        · refine q r _ (Same.trans (Same.trans s5 (Same.new nx)) (Same.new nr)) ?_
          rw [upd_same, List.length_map]
          unfold cardOf sum0 sum1
          simp only [List.map_cons, List.map_append, List.map_nil, List.cons_append, List.nil_append, List.append_assoc]
      · have s6 := Same.trans s5 (Same.new (o := .tup ([.int (5 + ((cs.map V.int).length : Nat)), .int t, .int pl] ++ cs.map V.int)) nm)
        refine ⟨_, rfl, _, rfl, by show 2 ≤ sizeLine; decide, fun x nx => ?_⟩
        refine ⟨_, _, _, _, rfl, rfl, SqT.of (old upd_same nx), SqT.of upd_same, ?_, fun z => (by cases z), fun _ z => (by cases z), fun _ _ r nr => ?_⟩
        · simp only [List.length_cons, List.length_append, List.length_map, List.length_nil]
          exact small1000' (by omega)
        · refine q r _ (Same.trans (Same.trans s6 (Same.new nx)) (Same.new nr)) ?_
          rw [upd_same, List.length_map]
          unfold cardOf sum0 sum1
          simp only [List.map_cons, List.map_append, List.map_nil, List.cons_append, List.nil_append, List.append_assoc]

def spSomeKey : Sp := fun vs H Q _ => ∃ (p : Addr) (c : Int), vs = [.ref p] ∧ Purse H p c ∧ c ≤ 90000 ∧ ∀ r t pl H', Purse H' p (c + 10) → Kp p H H' → H' r = some (.tup [.int t, .int pl]) → r ≠ p → Q (.ref r) H'
theorem ok_some_key (T : Txt mg) (D__law_pick : Dn P w K mg base CX0 1 "_law_pick" ["urn", "many"] spDrawn) (F : At K mg "_law_some_key" s__law_some_key ["urn"]) : Dn P w K mg base CX0 2 "_law_some_key" ["urn"]
    spSomeKey := by
  refine F.ok sc__law_some_key (fun vs H Q E h => ?_) (fun f cdv A outer s H vs Q E hr h => ?_)
  · obtain ⟨p, c, rfl, _⟩ := h
    rfl
  · obtain ⟨p, c, rfl, hp, hc, q⟩ := h
    refine ⟨_, (pss_cons (ps_set (i := 1) sc__law_some_key.nd rfl (by first | exact Or.inl rfl | exact Or.inr rfl) (pe_callD D__law_pick (by first | exact hr | exact hr.mono (by decide)) (pa_cons (pv 0) (pa_cons pe_int pa_nil))))
  (pss_cons (ps_set (i := 2) sc__law_some_key.nd rfl (by first | exact Or.inl rfl | exact Or.inr rfl) (pe_ix (r := rIxL K) ix_list (pe_lst (pa_cons pe_int (pa_cons pe_int (pa_cons (pe_op op_pow pe_int pe_int) pa_nil)))) (pv 1) (fun _ _ => rfl)))
  (pss_one (ps_ret (pe_tup (pa_cons (pe_op op_add pe_int (pe_callD D__law_pick (by first | exact hr | exact hr.mono (by decide)) (pa_cons (pv 0) (pa_cons (pv 2) pa_nil)))) (pa_cons (pe_callD D__law_pick (by first | exact hr | exact hr.mono (by decide)) (pa_cons (pv 0) (pa_cons (pe_ix (r := rIxL K) ix_list (pe_lst (pa_cons pe_int (pa_cons pe_int (pa_cons (pe_op op_pow pe_int pe_int) pa_nil)))) (pv 1) (fun _ _ => rfl)) pa_nil))) pa_nil))))))), ?_⟩
    refine ⟨_, rfl, p, c, 3, rfl, hp, by omega, by decide, by decide, fun v H1 v0 v1 hp1 k1 => ?_⟩
    refine ⟨_, _, rfl, rfl, ⟨by decide, by decide, by decide⟩, by show 3 ≤ sizeLine; decide, fun l nl => ?_⟩
    obtain ⟨wd, hwd, w0, w1⟩ : ∃ wd : Int, atI [V.int 3, V.int 60, V.int (10 ^ (40 : Int).toNat)] v = some (.int wd) ∧ 0 < wd ∧ wd < 2 ^ 200 := by
      rcases (by omega : v = 0 ∨ v = 1 ∨ v = 2) with rfl | rfl | rfl
      · exact ⟨3, rfl, by decide, by decide⟩
      · exact ⟨60, rfl, by decide, by decide⟩
      · exact ⟨10 ^ (40 : Int).toNat, rfl, by decide, by decide⟩
    refine ⟨_, rfl, _, _, _, _, rfl, rfl, SqL.of upd_same, hwd, ?_⟩
    refine ⟨_, rfl, _, rfl, p, c + 1, wd, rfl, hp1.same (Same.new nl), by omega, w0, w1, fun t H2 t0 t1 hp2 k2 => ?_⟩
    refine ⟨_, _, rfl, rfl, _, rfl, _, _, rfl, rfl, ⟨by decide, by decide, by decide⟩, by show 3 ≤ sizeLine; decide, fun m nm => ?_⟩
    obtain ⟨xd, hxd, x0, x1⟩ : ∃ wd : Int, atI [V.int 3, V.int 22, V.int (10 ^ (30 : Int).toNat)] v = some (.int wd) ∧ 0 < wd ∧ wd < 2 ^ 200 := by
      rcases (by omega : v = 0 ∨ v = 1 ∨ v = 2) with rfl | rfl | rfl
      · exact ⟨3, rfl, by decide, by decide⟩
      · exact ⟨22, rfl, by decide, by decide⟩
      · exact ⟨10 ^ (30 : Int).toNat, rfl, by decide, by decide⟩
    refine ⟨_, rfl, _, _, _, _, rfl, rfl, SqL.of upd_same, hxd, p, c + 2, xd, rfl, (hp2.same (Same.new nm)).mono (by omega), by omega, x0, x1, fun pl H3 p0 p1 hp3 k3 => ?_⟩
    refine ⟨by show 2 ≤ sizeLine; decide, fun r nr => ?_⟩
    exact q r _ _ _ ((hp3.same (Same.new nr)).mono (by omega)) (((((k1.trans (Kp.new nl)).trans k2).trans (Kp.new nm)).trans k3).trans (Kp.new nr)) upd_same (by
      obtain ⟨x, y, z, h1, _⟩ := hp3
      exact (ne_of_none h1 nr).symm)
theorem cells_card (t pl : Int) (cs : List Int) : cellsOf (cardOf t pl cs) = cs := by
  unfold cellsOf cardOf
  simp only [List.drop_succ_cons, List.drop_zero, List.length_cons, List.length_append, List.length_nil]
  rw [show cs.length + (0 + 1 + 1) + 1 + 1 + 1 - 5 = cs.length by omega, List.take_left']
  rfl
theorem look_card (t pl : Int) {cs : List Int} (h : ∀ x ∈ cs, 0 ≤ x ∧ x ≤ 96) : lookF (cardOf t pl cs) t pl = "whole" := by
  have e1 : (cardOf t pl cs).length = cs.length + 5 := by
    unfold cardOf
    simp only [List.length_cons, List.length_append, List.length_nil]
  unfold lookF
  rw [cells_card, e1, if_neg, if_neg, if_neg]
  · rintro (z | z)
    · unfold rightCells at z
      rw [List.all_eq_false] at z
      obtain ⟨x, hx, q⟩ := z
      obtain ⟨h1, h2⟩ := h x hx
      simp [h1, h2] at q
    · apply z
      unfold cardOf
      rw [show cs.length + 5 - 2 = cs.length + 3 by omega]
      simp
  · intro z
    apply z
    rfl
  · rintro (z | z)
    · omega
    · apply z
      unfold cardOf
      show ((cs.length + 5 : Nat) : Int) = 5 + (cs.length : Int)
      omega
def spSomeCells : Sp := fun vs H Q _ => ∃ (p : Addr) (c : Int), vs = [.ref p] ∧ Purse H p c ∧ c ≤ 90000 ∧ ∀ (r : Addr) (cs : List Int) (H' : Hp), Purse H' p (c + 100) → Kp p H H' → H' r = some (.lst (cs.map V.int)) → r ≠ p → H r = none → cs.length ≤ 60 → (∀ x ∈ cs, 0 ≤ x ∧ x ≤ 96) → Q (.ref r) H'
theorem ok_some_cells (T : Txt mg) (D__law_pick : Dn P w K mg base CX0 1 "_law_pick" ["urn", "many"] spDrawn) (F : At K mg "_law_some_cells" s__law_some_cells ["urn"]) : Dn P w K mg base CX0 2 "_law_some_cells" ["urn"]
    spSomeCells := by
  refine F.ok sc__law_some_cells (fun vs H Q E h => ?_) (fun f cdv A outer s H vs Q E hr h => ?_)
  · obtain ⟨p, c, rfl, _⟩ := h
    rfl
  · obtain ⟨p, c, rfl, hp, hc, q⟩ := h
    refine ⟨_, (pss_cons (ps_set (i := 1) sc__law_some_cells.nd rfl (by first | exact Or.inl rfl | exact Or.inr rfl) (pe_callD D__law_pick (by first | exact hr | exact hr.mono (by decide)) (pa_cons (pv 0) (pa_cons pe_int pa_nil))))
  (pss_cons (ps_set (i := 2) sc__law_some_cells.nd rfl (by first | exact Or.inl rfl | exact Or.inr rfl) (pe_ix (r := rIxL K) ix_list (pe_lst (pa_cons (pe_callD D__law_pick (by first | exact hr | exact hr.mono (by decide)) (pa_cons (pv 0) (pa_cons pe_int pa_nil))) (pa_cons (pe_callD D__law_pick (by first | exact hr | exact hr.mono (by decide)) (pa_cons (pv 0) (pa_cons pe_int pa_nil))) (pa_cons pe_int (pa_cons (pe_op op_add pe_int (pe_callD D__law_pick (by first | exact hr | exact hr.mono (by decide)) (pa_cons (pv 0) (pa_cons pe_int pa_nil)))) pa_nil))))) (pv 1) (fun _ _ => rfl)))
  (pss_cons (ps_set (i := 3) sc__law_some_cells.nd rfl (by first | exact Or.inl rfl | exact Or.inr rfl) (pe_ix (r := rIxL K) ix_list (pe_lst (pa_cons pe_int (pa_cons pe_int (pa_cons pe_int (pa_cons pe_int (pa_cons pe_int pa_nil)))))) (pe_callD D__law_pick (by first | exact hr | exact hr.mono (by decide)) (pa_cons (pv 0) (pa_cons pe_int pa_nil))) (fun _ _ => rfl)))
  (pss_one (ps_ret (pe_lc (own := [("k", 4)]) (g := (gName 4)) (by rfl) sc__law_some_cells.nd (pi_range1 (by rfl) T.n_range (pa_cons (pv 2) pa_nil)) (blkOk_by (own := [("k", 4)]) (N := ["urn", "way", "many", "wide", "k"]) (sc := defScope s__law_some_cells) (by decide +kernel)) (fun _ _ _ _ _ => (pg_name (i := 4) sc__law_some_cells.nd rfl (Or.inl rfl) (Or.inr rfl))) (fun _ _ _ _ _ => pts_nil) (fun _ _ _ _ _ => (pe_op op_sub pe_int (pe_callD D__law_pick (by first | exact hr | exact hr.mono (by decide)) (pa_cons (pv 0) (pa_cons (pv 3) pa_nil))))))))))), ?_⟩
    refine ⟨_, rfl, p, c, 4, rfl, hp, by omega, by decide, by decide, fun v H1 v0 v1 hp1 k1 => ?_⟩
    refine ⟨_, rfl, p, _, 5, rfl, hp1, by omega, by decide, by decide, fun a1 H2 a10 a11 hp2 k2 => ?_⟩
    refine ⟨_, rfl, p, _, 61, rfl, hp2, by omega, by decide, by decide, fun a2 H3 a20 a21 hp3 k3 => ?_⟩
    refine ⟨_, rfl, p, _, 9, rfl, hp3, by omega, by decide, by decide, fun a3 H4 a30 a31 hp4 k4 => ?_⟩
    refine ⟨_, _, rfl, rfl, by show 4 ≤ sizeLine; decide, fun l nl => ?_⟩
    obtain ⟨n, hn, n0, n1⟩ : ∃ n : Int, atI [V.int a1, V.int a2, V.int 60, V.int (1 + a3)] v = some (.int n) ∧ 0 ≤ n ∧ n ≤ 60 := by
      rcases (by omega : v = 0 ∨ v = 1 ∨ v = 2 ∨ v = 3) with rfl | rfl | rfl | rfl
      · exact ⟨_, rfl, by omega, by omega⟩
      · exact ⟨_, rfl, by omega, by omega⟩
      · exact ⟨_, rfl, by omega, by omega⟩
      · exact ⟨_, rfl, by omega, by omega⟩
    refine ⟨_, rfl, _, _, _, _, rfl, rfl, SqL.of upd_same, hn, by show 5 ≤ sizeLine; decide, fun m nm => ?_⟩
    refine ⟨_, rfl, p, _, 5, rfl, (hp4.same (Same.new nl)).same (Same.new nm), by omega, by decide, by decide, fun b H5 b0 b1 hp5 k5 => ?_⟩
    have kk := (((((k1.trans k2).trans k3).trans k4).trans (Kp.new (o := .lst [.int a1, .int a2, .int 60, .int (1 + a3)]) nl)).trans (Kp.new (o := .lst [.int 97, .int 97, .int 97, .int 2, .int 1]) nm)).trans k5
    have nmp : m ≠ p := by
      obtain ⟨x, y, z, h1, _⟩ := hp4.same (Same.new (o := .lst [.int a1, .int a2, .int 60, .int (1 + a3)]) nl)
      exact (ne_of_none h1 nm).symm
    obtain ⟨wd, hw, w0, w1⟩ : ∃ n : Int, atI [V.int 97, V.int 97, V.int 97, V.int 2, V.int 1] b = some (.int n) ∧ 0 < n ∧ n ≤ 97 := by
      rcases (by omega : b = 0 ∨ b = 1 ∨ b = 2 ∨ b = 3 ∨ b = 4) with rfl | rfl | rfl | rfl | rfl
      · exact ⟨_, rfl, by omega, by omega⟩
      · exact ⟨_, rfl, by omega, by omega⟩
      · exact ⟨_, rfl, by omega, by omega⟩
      · exact ⟨_, rfl, by omega, by omega⟩
      · exact ⟨_, rfl, by omega, by omega⟩
    refine ⟨_, _, _, _, rfl, rfl, SqL.of (k5 _ _ upd_same nmp), hw, _, rfl, _, rfl, by omega, by omega, fun D nD => ?_⟩
    have nDp : D ≠ p := by
      obtain ⟨x, y, z, h1, _⟩ := hp5
      exact (ne_of_none h1 nD).symm
    refine lc_it walk_range (fun i H' => ∃ cs : List Int, H' D = some (.lst (cs.map V.int)) ∧ cs.length = i ∧ i ≤ 60 ∧ (∀ x ∈ cs, 0 ≤ x ∧ x ≤ 96) ∧ Purse H' p (c + 10 + i) ∧ Kp p H5 H') ⟨[], upd_same, rfl, by omega, (fun _ z => nomatch z), (hp5.same (Same.new nD)).mono (by omega), Kp.new nD⟩ (fun _ _ _ _ => trivial) ?_ ?_
    · intro i x H6 H7 hi ⟨cs, e1, e2, e3, e4, e5, e6⟩ y
      obtain ⟨rfl, rfl⟩ := y
      refine ⟨rfl, _, rfl, _, rfl, p, _, wd, rfl, e5, by omega, w0, by omega, fun d H8 d0 d1 hp8 k8 => ?_⟩
      refine ⟨_, _, rfl, rfl, _, k8 _ _ e1 nDp, by rw [List.length_map]; exact small1000 (by omega), cs ++ [96 - d], ?_, by rw [List.length_append, e2]; rfl, by omega, ?_, ?_, ?_⟩
      · rw [upd_same, List.map_append]
        rfl
      · intro x hx
        rcases List.mem_append.mp hx with hx | hx
        · exact e4 x hx
        · rw [List.mem_singleton.mp hx]
          omega
      · obtain ⟨x, y, z, h1, h2, h3, h4, h5, h6⟩ := hp8
        exact ⟨x, y, z, by rw [upd_ne nDp.symm]; exact h1, h2, h3, h4, h5, by omega⟩
      · intro b o hb hbp
        rw [upd_ne (ne_of_none hb nD)]
        exact k8 _ _ (e6 _ _ hb hbp) hbp
    · intro H6 ⟨cs, e1, e2, e3, e4, e5, e6⟩
      refine q D cs H6 (e5.mono (by omega)) (kk.trans e6) e1 nDp ?_ (by omega) e4
      cases e : H D with
      | none => rfl
      | some o => rw [kk _ _ e nDp] at nD; cases nD
theorem Kp.sqt {K : PySem.W.Frag} {H H' : Hp} {p a : Addr} {c : Int} {xs : List V} (k : Kp p H H') (h : Purse H p c) (s : SqT K H a xs) : SqT K H' a xs := by
  obtain ⟨x, y, z, hp, _⟩ := h
  rcases s with (s | ⟨o, s⟩) | s
  · exact .inl (.inl (k _ _ s (ne_of s hp (by intro q; cases q))))
  · exact .inl (.inr ⟨o, k _ _ s (ne_of s hp (by intro q; cases q))⟩)
  · exact .inr s
theorem card_S (t pl : Int) (cs : List Int) : cardOf t pl cs = cardS t pl cs (sum0 cs) (sum1 cs) := rfl
theorem sp_ne {Q : Prop} {A : Prop} {x : Str} (h : x = "spoilt") (q : A) : if (!decide (V.str x = V.str "spoilt")) = true then Q else A := by
  subst h
  rw [decide_eq_true rfl]
  exact iteF q
def spKnown (K : PySem.W.Frag) : Sp := fun vs H Q _ => ∃ (p a : Addr) (n t pl : Int) (cs : List Int), vs = [.ref p, .int t, .int pl, .ref a] ∧ Purse H p n ∧ n ≤ 10000 ∧ SqT K H a ((cardOf t pl cs).map V.int) ∧ cs.length ≤ 60 ∧ (∀ x ∈ cs, 0 ≤ x ∧ x ≤ 96) ∧
  ∀ H', Kp p H H' → Q (.bl true) H'
theorem ok_known (T : Txt mg) (D_looked : Dn P w K mg base CX0 4 "looked" ["card", "ticket", "place"] (spLooked K)) (D__law_turned : Dn P w K mg base CX0 2 "_law_turned" ["urn", "card", "places"] (spTurned K))
    (D__law_places : Dn P w K mg base CX0 2 "_law_places" ["urn", "many", "most"] spPlaces) (D__law_state : Dn P w K mg base CX0 1 "_law_state" ["card", "ticket", "place"] (spState K)) (D__law_alike : Dn P w K mg base CX0 1 "_law_alike" ["found", "due"] spAlike1)
    (D__law_pick : Dn P w K mg base CX0 1 "_law_pick" ["urn", "many"] spDrawn) (F : At K mg "_law_known" s__law_known ["urn", "ticket", "place", "card"]) : Dn P w K mg base CX0 5 "_law_known" ["urn", "ticket", "place", "card"] (spKnown K) := by
  refine F.ok sc__law_known (fun vs H Q E h => ?_) (fun f cdv A outer s H vs Q E hr h => ?_)
  · obtain ⟨p, a, n, t, pl, cs, rfl, _⟩ := h
    rfl
  · obtain ⟨p, a, n, t, pl, cs, rfl, hp, hn, ha, hl, hb, q⟩ := h
    have lc : (cardOf t pl cs).length = cs.length + 5 := cardS_len t pl cs _ _
    refine ⟨_, (pss_cons (ps_set (i := 4) sc__law_known.nd rfl (by first | exact Or.inl rfl | exact Or.inr rfl) (pe_op op_sub (pe_callB (r := rLen K) call_len (by rfl) T.n_len (by decide +kernel) (pa_cons (pv 3) pa_nil)) pe_int))
  (pss_cons (ps_for PassesOwn.never rfl (pi_range1 (by rfl) T.n_range (pa_cons (pv 4) pa_nil)) (pg_name (i := 5) sc__law_known.nd rfl (by first | exact Or.inl rfl | exact Or.inr rfl))
  (pss_one (ps_if (pt_cmpR op_ne (pe_callD D_looked (by first | exact hr | exact hr.mono (by decide)) (pa_cons (pe_callD D__law_turned (by first | exact hr | exact hr.mono (by decide)) (pa_cons (pv 0) (pa_cons (pv 3) (pa_cons (pe_lst (pa_cons (pe_op op_add pe_int (pv 5)) pa_nil)) pa_nil)))) (pa_cons (pv 1) (pa_cons (pv 2) pa_nil)))) pe_str (nomark _)) (pss_one (ps_ret pe_bl)) pss_nil)))
  (pss_cons (ps_for PassesOwn.never rfl (pi_range1 (by rfl) T.n_range (pa_cons (pe_callB (call_min2 rfl) (by rfl) T.n_min (by decide +kernel) (pa_cons pe_int (pa_cons (pe_op op_mul (pv 4) (pe_op op_sub (pv 4) pe_int)) pa_nil))) pa_nil)) (pg_name (i := 5) sc__law_known.nd rfl (by first | exact Or.inl rfl | exact Or.inr rfl))
  (pss_one (ps_if (pt_cmpR op_ne (pe_callD D_looked (by first | exact hr | exact hr.mono (by decide)) (pa_cons (pe_callD D__law_turned (by first | exact hr | exact hr.mono (by decide)) (pa_cons (pv 0) (pa_cons (pv 3) (pa_cons (pe_callD D__law_places (by first | exact hr | exact hr.mono (by decide)) (pa_cons (pv 0) (pa_cons (pv 4) (pa_cons pe_int pa_nil)))) pa_nil)))) (pa_cons (pv 1) (pa_cons (pv 2) pa_nil)))) pe_str (nomark _)) (pss_one (ps_ret pe_bl)) pss_nil)))
  (pss_cons (ps_for PassesOwn.never rfl (pi_range1 (by rfl) T.n_range (pa_cons pe_int pa_nil)) (pg_name (i := 5) sc__law_known.nd rfl (by first | exact Or.inl rfl | exact Or.inr rfl))
  (pss_one (ps_if (pt_cmpR op_ne (pe_callD D_looked (by first | exact hr | exact hr.mono (by decide)) (pa_cons (pe_callD D__law_turned (by first | exact hr | exact hr.mono (by decide)) (pa_cons (pv 0) (pa_cons (pv 3) (pa_cons (pe_lst (pa_cons (pe_op op_sub (pe_op op_sub (pe_callB (r := rLen K) call_len (by rfl) T.n_len (by decide +kernel) (pa_cons (pv 3) pa_nil)) pe_int) (pv 5)) pa_nil)) pa_nil)))) (pa_cons (pv 1) (pa_cons (pv 2) pa_nil)))) pe_str (nomark _)) (pss_one (ps_ret pe_bl)) pss_nil)))
  (pss_cons (ps_for PassesOwn.never rfl (pi_range1 (by rfl) T.n_range (pa_cons pe_int pa_nil)) (pg_name (i := 5) sc__law_known.nd rfl (by first | exact Or.inl rfl | exact Or.inr rfl))
  (pss_cons (ps_set (i := 6) sc__law_known.nd rfl (by first | exact Or.inl rfl | exact Or.inr rfl) (pe_callD D__law_turned (by first | exact hr | exact hr.mono (by decide)) (pa_cons (pv 0) (pa_cons (pv 3) (pa_cons (pe_callD D__law_places (by first | exact hr | exact hr.mono (by decide)) (pa_cons (pv 0) (pa_cons (pv 4) (pa_cons (pe_op op_add pe_int (pe_callD D__law_pick (by first | exact hr | exact hr.mono (by decide)) (pa_cons (pv 0) (pa_cons pe_int pa_nil)))) pa_nil)))) pa_nil)))))
  (pss_one (ps_if (pt_not (pt_val (pe_callD D__law_alike (by first | exact hr | exact hr.mono (by decide)) (pa_cons (pe_callD D_looked (by first | exact hr | exact hr.mono (by decide)) (pa_cons (pv 6) (pa_cons (pv 1) (pa_cons (pv 2) pa_nil)))) (pa_cons (pe_callD D__law_state (by first | exact hr | exact hr.mono (by decide)) (pa_cons (pv 6) (pa_cons (pv 1) (pa_cons (pv 2) pa_nil)))) pa_nil))))) (pss_one (ps_ret pe_bl)) pss_nil))))
  (pss_one (ps_ret (pe_cmpR op_eq (pe_callD D_looked (by first | exact hr | exact hr.mono (by decide)) (pa_cons (pv 3) (pa_cons (pv 1) (pa_cons (pv 2) pa_nil)))) pe_str (nomark _))))))))), ?_⟩
    refine ⟨_, rfl, _, _, rfl, .inr ⟨_, ha, rfl⟩, _, _, rfl, rfl, ?_⟩
    have em : (((cardOf t pl cs).map V.int).length : Int) - 5 = cs.length := by rw [List.length_map, lc]; omega
    simp only [em]
    have ha' : ∀ {H' : Hp}, Kp p H H' → SqT K H' a ((cardOf t pl cs).map V.int) := fun k => Kp.sqt k hp ha
    have ne0 : ∀ {c' : List Int}, c'.length = cs.length + 5 → c' ≠ [] := fun h z => by rw [z] at h; simp at h
    -- one cell otherwise
    refine ⟨_, rfl, _, rfl, by omega, by omega, ?_⟩
    refine for_range (lo := 0) (fun i σ H' => ∃ v w, σ = [some (.ref p), some (.int t), some (.int pl), some (.ref a), some (.int cs.length), v, w] ∧ Purse H' p (n + i) ∧ Kp p H H') ⟨none, none, rfl, hp.mono (by omega), Kp.refl _ _⟩ ?_ ?_
    · rintro i σ H0 hi ⟨v, w', rfl, hp0, k0⟩
      rw [Int.toNat_natCast] at hi
      refine ⟨_, rfl, _, rfl, _, rfl, _, _, rfl, rfl, by show 1 ≤ sizeLine; decide, fun l nl => ?_⟩
      have nlp : l ≠ p := hp0.ne nl
      refine ⟨p, a, l, _, cardOf t pl cs, [3 + i], rfl, hp0.same (Same.new nl), by simp; omega, Same.sqt (Same.new nl) (ha' k0), by omega, SqL.of ?_, nlp, by simp; omega, fun r c' H1 hp1 k1 hr1 ht => ?_⟩
      · rw [upd_same]
        show some (HO.lst [V.int (3 + (0 + (i : Int)))]) = some (HO.lst [V.int ((3 + i : Nat) : Int)])
        rw [show 3 + (0 + (i : Int)) = ((3 + i : Nat) : Int) by omega]
      obtain ⟨v1, z1, e1, d1, rfl⟩ := ht
      have ei : cs[i]? = some z1 := by
        rw [card_S, get_cell _ _ _ _ hi] at e1
        exact e1
      refine ⟨_, rfl, _, rfl, r, _, t, pl, rfl, hr1, by rw [List.length_set]; omega, ne0 (by rw [List.length_set, lc]), fun H2 s2 => ?_⟩
      rw [card_S, one_spoilt t pl ei d1]
      refine ⟨rfl, _, rfl, sp_ne rfl ?_⟩
      exact ⟨_, _, rfl, (hp1.same s2).mono (by simp; omega), ((k0.trans (Kp.new nl)).trans k1).trans (Kp.of s2)⟩
    rintro σ H0 ⟨v, w', rfl, hp0, k0⟩
    -- two cells otherwise
    have b1 : (cs.length : Int) * (cs.length - 1) = cs.length * (cs.length - 1) := rfl
    refine ⟨_, rfl, _, rfl, _, _, rfl, rfl, _, _, rfl, rfl, .inl ⟨by omega, by omega⟩, _, _, rfl, _, rfl, ?_, ?_, ?_⟩
    · split
      · have : (0 : Int) ≤ (cs.length : Int) * (cs.length - 1) := by
          rcases Nat.eq_zero_or_pos cs.length with z | z
          · rw [z]; decide
          · exact Int.mul_nonneg (by omega) (by omega)
        omega
      · omega
    · split <;> omega
    refine for_range (lo := 0) (fun i σ H' => ∃ v w, σ = [some (.ref p), some (.int t), some (.int pl), some (.ref a), some (.int cs.length), v, w] ∧ Purse H' p (n + 60 + 4 * i) ∧ Kp p H H' ∧ i ≤ 16) ⟨v, w', rfl, hp0.mono (by omega), k0, by omega⟩ ?_ ?_
    · rintro i σ H1 hi ⟨v, w', rfl, hp1, k1, i16⟩
      have m2 : 2 ≤ cs.length := by
        rcases Nat.lt_or_ge cs.length 2 with z | z
        · exfalso
          rcases (by omega : cs.length = 0 ∨ cs.length = 1) with e | e <;> rw [e] at hi <;> simp at hi
        · exact z
      have i15 : i < 16 := by
        split at hi <;> omega
      refine ⟨_, rfl, _, rfl, _, rfl, _, rfl, p, _, cs.length, 2, rfl, hp1, by omega, by omega, by omega, by decide, fun b ps H2 hp2 k2 eb nbp nb nd bd lp => ?_⟩
      obtain ⟨x, y, rfl⟩ : ∃ x y, ps = [x, y] := by
        have l2 : ps.length = 2 := by
          split at lp <;> omega
        match ps, l2 with
        | [x, y], _ => exact ⟨x, y, rfl⟩
      have bx := bd x (by simp)
      have by' := bd y (by simp)
      have nxy : x ≠ y := by
        intro z
        rw [z] at nd
        simp at nd
      refine ⟨p, a, b, _, cardOf t pl cs, [x, y], rfl, hp2, by simp; omega, ha' (k1.trans k2), by omega, SqL.of eb, nbp, by simp; omega, fun r c' H3 hp3 k3 hr3 ht => ?_⟩
      obtain ⟨v1, z1, e1, d1, v2, z2, e2, d2, rfl⟩ := ht
      obtain ⟨i1, rfl⟩ : ∃ i1, x = 3 + i1 := ⟨x - 3, by omega⟩
      obtain ⟨j1, rfl⟩ : ∃ j1, y = 3 + j1 := ⟨y - 3, by omega⟩
      have ei : cs[i1]? = some z1 := by
        rw [card_S, get_cell _ _ _ _ (by omega)] at e1
        exact e1
      have ej : cs[j1]? = some z2 := by
        rw [List.getElem?_set_ne (by omega), card_S, get_cell _ _ _ _ (by omega)] at e2
        exact e2
      refine ⟨_, rfl, _, rfl, r, _, t, pl, rfl, hr3, by rw [List.length_set, List.length_set]; omega, ne0 (by rw [List.length_set, List.length_set, lc]), fun H4 s4 => ?_⟩
      rw [card_S, two_spoilt t pl hl (by omega) ei ej d1]
      refine ⟨rfl, _, rfl, sp_ne rfl ?_⟩
      exact ⟨_, _, rfl, (hp3.same s4).mono (by simp; omega), ((k1.trans k2).trans k3).trans (Kp.of s4), by omega⟩
    rintro σ H1 ⟨v, w', rfl, hp1, k1, i16⟩
    -- a sum otherwise
    refine ⟨_, rfl, by decide, by decide, ?_⟩
    refine for_range (lo := 0) (fun i σ H' => ∃ v w, σ = [some (.ref p), some (.int t), some (.int pl), some (.ref a), some (.int cs.length), v, w] ∧ Purse H' p (n + 200 + i) ∧ Kp p H H') ⟨v, w', rfl, hp1.mono (by omega), k1⟩ ?_ ?_
    · rintro i σ H0 hi ⟨v, w', rfl, hp0, k0⟩
      have hi2 : i < 2 := hi
      refine ⟨_, rfl, _, rfl, _, rfl, _, _, rfl, .inr ⟨_, ha' k0, rfl⟩, _, _, rfl, rfl, _, rfl, _, _, rfl, rfl, by show 1 ≤ sizeLine; decide, fun l nl => ?_⟩
      have nlp : l ≠ p := hp0.ne nl
      refine ⟨p, a, l, _, cardOf t pl cs, [cs.length + 5 - 1 - i], rfl, hp0.same (Same.new nl), by simp; omega, Same.sqt (Same.new nl) (ha' k0), by omega, SqL.of ?_, nlp, by simp; omega, fun r c' H1 hp1 k1 hr1 ht => ?_⟩
      · rw [upd_same, List.length_map, lc]
        show some (HO.lst [V.int _]) = some (HO.lst [V.int _])
        rw [show ((cs.length + 5 : Nat) : Int) - 1 - (0 + (i : Int)) = ((cs.length + 5 - 1 - i : Nat) : Int) by omega]
      obtain ⟨v1, z1, e1, d1, rfl⟩ := ht
      refine ⟨_, rfl, _, rfl, r, _, t, pl, rfl, hr1, by rw [List.length_set]; omega, ne0 (by rw [List.length_set, lc]), fun H2 s2 => ?_⟩
      rw [card_S, sum_spoilt t pl hi2 e1 d1]
      refine ⟨rfl, _, rfl, sp_ne rfl ?_⟩
      exact ⟨_, _, rfl, (hp1.same s2).mono (by simp; omega), ((k0.trans (Kp.new nl)).trans k1).trans (Kp.of s2)⟩
    rintro σ H2 ⟨v, w', rfl, hp2, k2⟩
    -- any changes
    refine ⟨_, rfl, by decide, by decide, ?_⟩
    refine for_range (lo := 0) (fun i σ H' => ∃ v w, σ = [some (.ref p), some (.int t), some (.int pl), some (.ref a), some (.int cs.length), v, w] ∧ Purse H' p (n + 300 + 200 * i) ∧ Kp p H H') ⟨v, w', rfl, hp2.mono (by omega), k2⟩ ?_ ?_
    · rintro i σ H0 hi ⟨v, w', rfl, hp0, k0⟩
      have hi4 : i < 4 := hi
      refine ⟨_, rfl, _, rfl, _, rfl, _, rfl, _, rfl, p, _, 4, rfl, hp0, by omega, by decide, by decide, fun d H3 d0 d1 hp3 k3 => ?_⟩
      refine ⟨_, _, rfl, rfl, p, _, cs.length, 3 + d, rfl, hp3, by omega, by omega, by omega, by omega, fun b ps H4 hp4 k4 eb nbp nb nd bd lp => ?_⟩
      have lps : ps.length ≤ 60 := by
        split at lp <;> omega
      refine ⟨p, a, b, _, cardOf t pl cs, ps, rfl, hp4, by omega, ha' ((k0.trans k3).trans k4), by omega, SqL.of eb, nbp, fun i hi => by have := bd i hi; omega, fun r c' H5 hp5 k5 hr5 ht => ?_⟩
      have lc' : c'.length = cs.length + 5 := by rw [ht.len, lc]
      refine ⟨_, rfl, _, rfl, _, rfl, r, c', t, pl, rfl, hr5, by omega, ne0 lc', fun H6 s6 => ?_⟩
      refine ⟨_, rfl, _, rfl, _, rfl, r, c', t, pl, rfl, Same.sqt s6 hr5, by omega, ne0 lc', fun H7 s7 => ?_⟩
      refine ⟨_, rfl, rfl, _, rfl, ?_⟩
      exact ⟨_, _, rfl, ((hp5.same s6).same s7).mono (by omega), ((((k0.trans k3).trans k4).trans k5).trans (Kp.of s6)).trans (Kp.of s7)⟩
    rintro σ H3 ⟨v, w', rfl, hp3, k3⟩
    refine ⟨_, rfl, _, rfl, _, rfl, a, _, t, pl, rfl, ha' k3, by omega, ne0 lc, fun H4 s4 => ?_⟩
    rw [card_S, whole_S t pl hb]
    refine ⟨rfl, ?_⟩
    rw [decide_eq_true rfl]
    exact q _ (k3.trans (Kp.of s4))
def spLaw (K : PySem.W.Frag) : Sp := fun vs H Q _ => ∃ (a : Addr) (ns : List Int), vs = [.ref a] ∧ SqL K H a (ns.map V.int) ∧ ns.length ≤ 63 ∧ ∀ H', Q (.bl true) H'
theorem times_size (n : Nat) (h : n ≤ 63) : 0 ≤ (if (if (4 : Int) < (n : Int) then (4 : Int) else (n : Int)) > 1 then (if (4 : Int) < (n : Int) then (4 : Int) else (n : Int)) else 1) ∧ (if (if (4 : Int) < (n : Int) then (4 : Int) else (n : Int)) > 1 then (if (4 : Int) < (n : Int) then (4 : Int) else (n : Int)) else 1) ≤ 4 := by
  split <;> split <;> omega
theorem ok_law (T : Txt mg) (D__law_source : Dn P w K mg base CX0 1 "_law_source" ["cell", "place"] spSource) (D__law_cell : Dn P w K mg base CX0 1 "_law_cell" ["script", "k"] (spCell K)) (D__law_some_key : Dn P w K mg base CX0 2 "_law_some_key" ["urn"] spSomeKey)
    (D__law_some_cells : Dn P w K mg base CX0 2 "_law_some_cells" ["urn"] spSomeCells) (D__law_made : Dn P w K mg base CX0 1 "_law_made" ["ticket", "place", "cells"] (spLawMade K))
    (D__law_known : Dn P w K mg base CX0 5 "_law_known" ["urn", "ticket", "place", "card"] (spKnown K))
    {f : Addr} {fd : FuncData} (F : FunD K "law" "law" (defArgs s_law) (defBody s_law) (defScope s_law) [] [] f fd) : FnOk P w K mg base CX0 6 f fd ["script"] (spLaw K) := by
  refine ok0 F sc_law (fun vs H Q E h => ?_) (fun f cdv A outer s H vs Q E hr h => ?_)
  · obtain ⟨a, ns, rfl, _⟩ := h
    rfl
  · obtain ⟨a, ns, rfl, hS, hl, q⟩ := h
    refine ⟨_, (pss_cons (ps_for PassesOwn.never rfl (pi_range1 (by rfl) T.n_range (pa_cons (pe_callB (call_max2 rfl) (by rfl) T.n_max (by decide +kernel) (pa_cons pe_int (pa_cons (pe_callB (call_min2 rfl) (by rfl) T.n_min (by decide +kernel) (pa_cons (pe_callB (r := rLen K) call_len (by rfl) T.n_len (by decide +kernel) (pa_cons (pv 0) pa_nil)) (pa_cons pe_int pa_nil))) pa_nil))) pa_nil)) (pg_name (i := 1) sc_law.nd rfl (by first | exact Or.inl rfl | exact Or.inr rfl))
  (pss_cons (ps_set (i := 2) sc_law.nd rfl (by first | exact Or.inl rfl | exact Or.inr rfl) (pe_callD D__law_source (by first | exact hr | exact hr.mono (by decide)) (pa_cons (pe_callD D__law_cell (by first | exact hr | exact hr.mono (by decide)) (pa_cons (pv 0) (pa_cons (pv 1) pa_nil))) (pa_cons (pv 1) pa_nil))))
  (pss_cons (ps_asg (pe_callD D__law_some_key (by first | exact hr | exact hr.mono (by decide)) (pa_cons (pv 2) pa_nil)) (pg_tup (by rfl) (pgs_cons (pg_name (i := 3) sc_law.nd rfl (by first | exact Or.inl rfl | exact Or.inr rfl)) (pgs_cons (pg_name (i := 4) sc_law.nd rfl (by first | exact Or.inl rfl | exact Or.inr rfl)) pgs_nil))))
  (pss_one (ps_if (pt_not (pt_val (pe_callD D__law_known (by first | exact hr | exact hr.mono (by decide)) (pa_cons (pv 2) (pa_cons (pv 3) (pa_cons (pv 4) (pa_cons (pe_callD D__law_made (by first | exact hr | exact hr.mono (by decide)) (pa_cons (pv 3) (pa_cons (pv 4) (pa_cons (pe_callD D__law_some_cells (by first | exact hr | exact hr.mono (by decide)) (pa_cons (pv 2) pa_nil)) pa_nil)))) pa_nil))))))) (pss_one (ps_ret pe_bl)) pss_nil)))))
  (pss_one (ps_ret pe_bl))), ?_⟩
    obtain ⟨z0, z1⟩ := times_size (ns.map V.int).length (by rw [List.length_map]; exact hl)
    refine ⟨_, rfl, _, _, rfl, .inl ⟨_, hS, rfl⟩, _, _, rfl, _, _, rfl, _, rfl, by omega, by omega, ?_⟩
    refine for_range (lo := 0) (fun i σ H' => ∃ v1 v2 v3 v4, σ = [some (.ref a), v1, v2, v3, v4] ∧ SqL K H' a (ns.map V.int)) ⟨none, none, none, none, rfl, hS⟩ ?_ ?_
    · rintro i σ H0 hi ⟨v1, v2, v3, v4, rfl, hS0⟩
      refine ⟨_, rfl, _, rfl, a, ns, _, rfl, hS0, by omega, by omega, fun cell => ?_⟩
      refine ⟨_, rfl, cell, _, rfl, by omega, by omega, fun p x y np x0 y0 y1 => ?_⟩
      have hp0 : Purse (upd H0 p (.lst [.int x, .int y, .int 0])) p 0 := ⟨x, y, 0, upd_same, x0, y0, y1, by omega, by omega⟩
      refine ⟨_, rfl, p, 0, rfl, hp0, by omega, fun r t pl H1 hp1 k1 er nrp => ?_⟩
      refine ⟨_, _, rfl, SqT.of er, rfl, _, _, rfl, _, _, rfl, rfl, ?_⟩
      refine ⟨_, rfl, _, rfl, _, rfl, _, rfl, _, rfl, _, rfl, p, _, rfl, hp1, by omega, fun c cs H2 hp2 k2 ec ncp nc1 lc bc => ?_⟩
      have kk : Same H0 H2 := Kp.same (Same.refl _) np (((Kp.new np).trans k1).trans k2)
      refine ⟨t, pl, c, cs, rfl, SqL.of ec, by omega, fun c hc => by have := bc c hc; omega, fun m H3 s3 em => ?_⟩
      refine ⟨p, m, _, t, pl, cs, rfl, hp2.same s3, by omega, SqT.of em, lc, bc, fun H4 k4 => ?_⟩
      have k5 : Kp p H0 H4 := (Kp.of (Same.trans kk s3)).trans k4
      refine ⟨_, rfl, _, _, _, _, rfl, ?_⟩
      have : Same H0 H4 := Kp.same (Same.refl _) np k5
      exact this.seq hS0
    · rintro σ H' ⟨v1, v2, v3, v4, rfl, hS0⟩
      exact q _
end
def d_is_whole : He.DefD := ⟨("is_whole", none), "is_whole", "is_whole", defArgs s_is_whole, defBody s_is_whole, defScope s_is_whole, [], []⟩
def d_is_between : He.DefD := ⟨("is_between", none), "is_between", "is_between", defArgs s_is_between, defBody s_is_between, defScope s_is_between, [], []⟩
def d_is_rest : He.DefD := ⟨("is_rest", none), "is_rest", "is_rest", defArgs s_is_rest, defBody s_is_rest, defScope s_is_rest, [], []⟩
def d_sum_of_products : He.DefD := ⟨("sum_of_products", none), "sum_of_products", "sum_of_products", defArgs s_sum_of_products, defBody s_sum_of_products, defScope s_sum_of_products, [], []⟩
def d_sums_of : He.DefD := ⟨("sums_of", none), "sums_of", "sums_of", defArgs s_sums_of, defBody s_sums_of, defScope s_sums_of, [], []⟩
def d_cells_of : He.DefD := ⟨("cells_of", none), "cells_of", "cells_of", defArgs s_cells_of, defBody s_cells_of, defScope s_cells_of, [], []⟩
def d_looked : He.DefD := ⟨("looked", none), "looked", "looked", defArgs s_looked, defBody s_looked, defScope s_looked, [], []⟩
def d__law_cell : He.DefD := ⟨("_law_cell", none), "_law_cell", "_law_cell", defArgs s__law_cell, defBody s__law_cell, defScope s__law_cell, [], []⟩
def d__law_source : He.DefD := ⟨("_law_source", none), "_law_source", "_law_source", defArgs s__law_source, defBody s__law_source, defScope s__law_source, [], []⟩
def d__law_pick : He.DefD := ⟨("_law_pick", none), "_law_pick", "_law_pick", defArgs s__law_pick, defBody s__law_pick, defScope s__law_pick, [], []⟩
def d__law_alike : He.DefD := ⟨("_law_alike", none), "_law_alike", "_law_alike", defArgs s__law_alike, defBody s__law_alike, defScope s__law_alike, [], []⟩
def d__law_made : He.DefD := ⟨("_law_made", none), "_law_made", "_law_made", defArgs s__law_made, defBody s__law_made, defScope s__law_made, [], []⟩
def d__law_some_cells : He.DefD := ⟨("_law_some_cells", none), "_law_some_cells", "_law_some_cells", defArgs s__law_some_cells, defBody s__law_some_cells, defScope s__law_some_cells, [], []⟩
def d__law_some_key : He.DefD := ⟨("_law_some_key", none), "_law_some_key", "_law_some_key", defArgs s__law_some_key, defBody s__law_some_key, defScope s__law_some_key, [], []⟩
def d__law_state : He.DefD := ⟨("_law_state", none), "_law_state", "_law_state", defArgs s__law_state, defBody s__law_state, defScope s__law_state, [], []⟩
def d__law_turned : He.DefD := ⟨("_law_turned", none), "_law_turned", "_law_turned", defArgs s__law_turned, defBody s__law_turned, defScope s__law_turned, [], []⟩
def d__law_places : He.DefD := ⟨("_law_places", none), "_law_places", "_law_places", defArgs s__law_places, defBody s__law_places, defScope s__law_places, [], []⟩
def d__law_known : He.DefD := ⟨("_law_known", none), "_law_known", "_law_known", defArgs s__law_known, defBody s__law_known, defScope s__law_known, [], []⟩
def d_law : He.DefD := ⟨("law", none), "law", "law", defArgs s_law, defBody s_law, defScope s_law, [], []⟩
def fn : List He.DefD := [d_is_whole, d_is_between, d_is_rest, d_sum_of_products, d_sums_of, d_cells_of, d_looked, d__law_cell, d__law_source, d__law_pick, d__law_alike, d__law_made, d__law_some_cells, d__law_some_key, d__law_state, d__law_turned, d__law_places, d__law_known, d_law]
def fa : List He.Fa := [.glo "is_whole", .glo "is_between", .glo "is_rest", .glo "sum_of_products", .glo "sums_of", .glo "cells_of", .glo "looked", .glo "_law_cell", .glo "_law_source", .glo "_law_pick", .glo "_law_alike", .glo "_law_made", .glo "_law_some_cells", .glo "_law_some_key", .glo "_law_state", .glo "_law_turned", .glo "_law_places", .glo "_law_known", .glo "law", .free "len", .free "max", .free "min", .free "range", .free "zip", .free "sum", .free "all", .free "isinstance", .free "int", .free "bool", .free "str", .free "tuple", .free "list", .int "PRIME" 97, .int "BESIDES" 5]
abbrev R : PySem.W.OpenRow := PySem.W.OpenLaw.row PySem.Challenge.rw_sherdhall_k28_whole_changed_cells_are_kn
abbrev hk : PySem.W.Hook := He.hookD 4 fa fn
def ob (s : PySem.W.SharedT) : He.AlD := He.obsDG 4 fa fn (HandSHeadRun.getT s)
theorem ob_eq (s : PySem.W.SharedT) : ob s = hk.obs s.abs := He.obsDG_eq (HandSHeadRun.getT_eq s)
def loose0 : List Str := ["__name__", "is_whole", "is_between", "is_rest", "sum_of_products", "sums_of", "cells_of", "looked", "_law_cell", "_law_source", "_law_pick", "_law_alike", "_law_made", "_law_some_cells", "_law_some_key", "_law_state", "_law_turned", "_law_places", "_law_known", "PRIME", "BESIDES"]
def loose : List Str := loose0
theorem run (w : World) : HandSHeadRun.RunEq R (PySem.W.view R.prog [23]) hk ob 6000 loose w := by
  intro os
  kernel_rfl
theorem facts {P : Program} {w : World} {K : PySem.W.Frag} {h : Heap} {mg : Str → Option Value} {f : Addr} (X : K.In h) (G : h.Ns mainGlobals mg) (hfa : mg ("law" : Str) = some (.ref f)) (c : He.SaysD fa fn K) :
    ∃ fd : FuncData, (∀ (s : Shared) (v : Value), BindsTo s fd ⟨[v], []⟩ [("script", v)]) ∧ ∀ base : Heap, K.In base → base.Ns mainGlobals mg → FnOk P w K mg base CX0 6 f fd ["script"] (spLaw K) := by
  obtain ⟨fd_is_whole, F_is_whole⟩ := c.def_ 0 (d := d_is_whole) rfl
  have A_is_whole : At K mg "is_whole" s_is_whole ["thing"] := ⟨_, _, F_is_whole, He.glo_ok X G (c.fact 0 (f := .glo "is_whole") rfl), F_is_whole.bindsN fun _ _ _ _ _ _ us hl => match us, hl with | [_], _ => rfl⟩
  obtain ⟨fd_is_between, F_is_between⟩ := c.def_ 1 (d := d_is_between) rfl
  have A_is_between : At K mg "is_between" s_is_between ["thing", "least", "most"] := ⟨_, _, F_is_between, He.glo_ok X G (c.fact 1 (f := .glo "is_between") rfl), F_is_between.bindsN fun _ _ _ _ _ _ us hl => match us, hl with | [_, _, _], _ => rfl⟩
  obtain ⟨fd_is_rest, F_is_rest⟩ := c.def_ 2 (d := d_is_rest) rfl
  have A_is_rest : At K mg "is_rest" s_is_rest ["thing"] := ⟨_, _, F_is_rest, He.glo_ok X G (c.fact 2 (f := .glo "is_rest") rfl), F_is_rest.bindsN fun _ _ _ _ _ _ us hl => match us, hl with | [_], _ => rfl⟩
  obtain ⟨fd_sum_of_products, F_sum_of_products⟩ := c.def_ 3 (d := d_sum_of_products) rfl
  have A_sum_of_products : At K mg "sum_of_products" s_sum_of_products ["factors", "numbers"] := ⟨_, _, F_sum_of_products, He.glo_ok X G (c.fact 3 (f := .glo "sum_of_products") rfl), F_sum_of_products.bindsN fun _ _ _ _ _ _ us hl => match us, hl with | [_, _], _ => rfl⟩
  obtain ⟨fd_sums_of, F_sums_of⟩ := c.def_ 4 (d := d_sums_of) rfl
  have A_sums_of : At K mg "sums_of" s_sums_of ["cells"] := ⟨_, _, F_sums_of, He.glo_ok X G (c.fact 4 (f := .glo "sums_of") rfl), F_sums_of.bindsN fun _ _ _ _ _ _ us hl => match us, hl with | [_], _ => rfl⟩
  obtain ⟨fd_cells_of, F_cells_of⟩ := c.def_ 5 (d := d_cells_of) rfl
  have A_cells_of : At K mg "cells_of" s_cells_of ["card"] := ⟨_, _, F_cells_of, He.glo_ok X G (c.fact 5 (f := .glo "cells_of") rfl), F_cells_of.bindsN fun _ _ _ _ _ _ us hl => match us, hl with | [_], _ => rfl⟩
  obtain ⟨fd_looked, F_looked⟩ := c.def_ 6 (d := d_looked) rfl
  have A_looked : At K mg "looked" s_looked ["card", "ticket", "place"] := ⟨_, _, F_looked, He.glo_ok X G (c.fact 6 (f := .glo "looked") rfl), F_looked.bindsN fun _ _ _ _ _ _ us hl => match us, hl with | [_, _, _], _ => rfl⟩
  obtain ⟨fd__law_cell, F__law_cell⟩ := c.def_ 7 (d := d__law_cell) rfl
  have A__law_cell : At K mg "_law_cell" s__law_cell ["script", "k"] := ⟨_, _, F__law_cell, He.glo_ok X G (c.fact 7 (f := .glo "_law_cell") rfl), F__law_cell.bindsN fun _ _ _ _ _ _ us hl => match us, hl with | [_, _], _ => rfl⟩
  obtain ⟨fd__law_source, F__law_source⟩ := c.def_ 8 (d := d__law_source) rfl
  have A__law_source : At K mg "_law_source" s__law_source ["cell", "place"] := ⟨_, _, F__law_source, He.glo_ok X G (c.fact 8 (f := .glo "_law_source") rfl), F__law_source.bindsN fun _ _ _ _ _ _ us hl => match us, hl with | [_, _], _ => rfl⟩
  obtain ⟨fd__law_pick, F__law_pick⟩ := c.def_ 9 (d := d__law_pick) rfl
  have A__law_pick : At K mg "_law_pick" s__law_pick ["urn", "many"] := ⟨_, _, F__law_pick, He.glo_ok X G (c.fact 9 (f := .glo "_law_pick") rfl), F__law_pick.bindsN fun _ _ _ _ _ _ us hl => match us, hl with | [_, _], _ => rfl⟩
  obtain ⟨fd__law_alike, F__law_alike⟩ := c.def_ 10 (d := d__law_alike) rfl
  have A__law_alike : At K mg "_law_alike" s__law_alike ["found", "due"] := ⟨_, _, F__law_alike, He.glo_ok X G (c.fact 10 (f := .glo "_law_alike") rfl), F__law_alike.bindsN fun _ _ _ _ _ _ us hl => match us, hl with | [_, _], _ => rfl⟩
  obtain ⟨fd__law_made, F__law_made⟩ := c.def_ 11 (d := d__law_made) rfl
  have A__law_made : At K mg "_law_made" s__law_made ["ticket", "place", "cells"] := ⟨_, _, F__law_made, He.glo_ok X G (c.fact 11 (f := .glo "_law_made") rfl), F__law_made.bindsN fun _ _ _ _ _ _ us hl => match us, hl with | [_, _, _], _ => rfl⟩
  obtain ⟨fd__law_some_cells, F__law_some_cells⟩ := c.def_ 12 (d := d__law_some_cells) rfl
  have A__law_some_cells : At K mg "_law_some_cells" s__law_some_cells ["urn"] := ⟨_, _, F__law_some_cells, He.glo_ok X G (c.fact 12 (f := .glo "_law_some_cells") rfl), F__law_some_cells.bindsN fun _ _ _ _ _ _ us hl => match us, hl with | [_], _ => rfl⟩
  obtain ⟨fd__law_some_key, F__law_some_key⟩ := c.def_ 13 (d := d__law_some_key) rfl
  have A__law_some_key : At K mg "_law_some_key" s__law_some_key ["urn"] := ⟨_, _, F__law_some_key, He.glo_ok X G (c.fact 13 (f := .glo "_law_some_key") rfl), F__law_some_key.bindsN fun _ _ _ _ _ _ us hl => match us, hl with | [_], _ => rfl⟩
  obtain ⟨fd__law_state, F__law_state⟩ := c.def_ 14 (d := d__law_state) rfl
  have A__law_state : At K mg "_law_state" s__law_state ["card", "ticket", "place"] := ⟨_, _, F__law_state, He.glo_ok X G (c.fact 14 (f := .glo "_law_state") rfl), F__law_state.bindsN fun _ _ _ _ _ _ us hl => match us, hl with | [_, _, _], _ => rfl⟩
  obtain ⟨fd__law_turned, F__law_turned⟩ := c.def_ 15 (d := d__law_turned) rfl
  have A__law_turned : At K mg "_law_turned" s__law_turned ["urn", "card", "places"] := ⟨_, _, F__law_turned, He.glo_ok X G (c.fact 15 (f := .glo "_law_turned") rfl), F__law_turned.bindsN fun _ _ _ _ _ _ us hl => match us, hl with | [_, _, _], _ => rfl⟩
  obtain ⟨fd__law_places, F__law_places⟩ := c.def_ 16 (d := d__law_places) rfl
  have A__law_places : At K mg "_law_places" s__law_places ["urn", "many", "most"] := ⟨_, _, F__law_places, He.glo_ok X G (c.fact 16 (f := .glo "_law_places") rfl), F__law_places.bindsN fun _ _ _ _ _ _ us hl => match us, hl with | [_, _, _], _ => rfl⟩
  obtain ⟨fd__law_known, F__law_known⟩ := c.def_ 17 (d := d__law_known) rfl
  have A__law_known : At K mg "_law_known" s__law_known ["urn", "ticket", "place", "card"] := ⟨_, _, F__law_known, He.glo_ok X G (c.fact 17 (f := .glo "_law_known") rfl), F__law_known.bindsN fun _ _ _ _ _ _ us hl => match us, hl with | [_, _, _, _], _ => rfl⟩
  obtain ⟨fd_law, F_law⟩ := c.def_ 18 (d := d_law) rfl
  obtain ⟨t_PRIME, g_PRIME⟩ := He.int_ok X G (c.fact 32 (f := .int "PRIME" 97) rfl)
  obtain ⟨t_BESIDES, g_BESIDES⟩ := He.int_ok X G (c.fact 33 (f := .int "BESIDES" 5) rfl)
  have T : Txt mg := ⟨He.free_ok X G (c.fact 19 (f := .free "len") rfl), He.free_ok X G (c.fact 20 (f := .free "max") rfl), He.free_ok X G (c.fact 21 (f := .free "min") rfl), He.free_ok X G (c.fact 22 (f := .free "range") rfl), He.free_ok X G (c.fact 23 (f := .free "zip") rfl), He.free_ok X G (c.fact 24 (f := .free "sum") rfl), He.free_ok X G (c.fact 25 (f := .free "all") rfl), He.free_ok X G (c.fact 26 (f := .free "isinstance") rfl), He.free_ok X G (c.fact 27 (f := .free "int") rfl), He.free_ok X G (c.fact 28 (f := .free "bool") rfl), He.free_ok X G (c.fact 29 (f := .free "str") rfl), He.free_ok X G (c.fact 30 (f := .free "tuple") rfl), He.free_ok X G (c.fact 31 (f := .free "list") rfl), _, g_PRIME, ⟨_, rfl⟩, _, g_BESIDES, ⟨_, rfl⟩⟩
  have e := hfa.symm.trans (He.glo_ok X G (c.fact 18 (f := .glo "law") rfl))
  cases e
  have b := FunD.bindsA (ps := ["script"]) F_law fun _ _ _ _ _ _ us hl => match us, hl with | [_], _ => rfl
  refine ⟨fd_law, fun s v => b s [v] rfl, fun base _ _ => ?_⟩
  have D_whole := ok_whole (P := P) (w := w) (base := base) T A_is_whole
  have D_between := ok_between D_whole A_is_between
  have D_rest := ok_rest T D_between A_is_rest
  have D_sop := ok_sop (P := P) (w := w) (base := base) T A_sum_of_products
  have D_sums := ok_sums_of T D_sop A_sums_of
  have D_cells := ok_cells_of (P := P) (w := w) (base := base) T A_cells_of
  have D_looked := ok_looked T D_cells D_rest D_sums A_looked
  have D_cell := ok_cell (P := P) (w := w) (base := base) T A__law_cell
  have D_source := ok_source (P := P) (w := w) (base := base) T A__law_source
  have D_pick := ok_pick (P := P) (w := w) (base := base) A__law_pick
  have D_alike := ok_alike1 (P := P) (w := w) (base := base) T A__law_alike
  have D_lmade := ok_law_made (P := P) (w := w) (base := base) T A__law_made
  have D_key := ok_some_key T D_pick A__law_some_key
  have D_some := ok_some_cells T D_pick A__law_some_cells
  have D_state := ok_state (P := P) (w := w) (base := base) T A__law_state
  have D_turned := ok_turned T D_pick A__law_turned
  have D_places := ok_places T D_pick A__law_places
  have D_known := ok_known T D_looked D_turned D_places D_state D_alike D_pick A__law_known
  exact ok_law T D_source D_cell D_key D_some D_lmade D_known F_law
end Hx
open PySem PySem.W PySem.Calls PyProof.Rows in
set_option maxRecDepth 100000 in
set_option maxHeartbeats 0 in
theorem PySem.Challenge.cw_sherdhall_k28_whole_changed_cells_are_kn_holds : PySem.Challenge.rw_sherdhall_k28_whole_changed_cells_are_kn.Holds := by
  w_on; o_law
  refine HandSHeadRun.head_any (r := OpenLaw.row PySem.Challenge.rw_sherdhall_k28_whole_changed_cells_are_kn) (q := view (OpenLaw.row PySem.Challenge.rw_sherdhall_k28_whole_changed_cells_are_kn).prog [23]) (H := Hx.hk) (ob := Hx.ob) (M := 6000) (loose := Hx.loose) (d := HandSHeadRun.topDef (OpenLaw.row PySem.Challenge.rw_sherdhall_k28_whole_changed_cells_are_kn).prog 23) (kwd := []) Hx.ob_eq
    (by kernel_rfl) (fun s => by kernel_rfl) Hx.run (by kernel_rfl) (by kernel_rfl) (by kernel_rfl) (by rfl) (by first | assumption | decide +kernel) (by decide +kernel) ⟨rfl, rfl, rfl, rfl, rfl, by decide +kernel⟩ ?hw ?hc
  case hw => w_witness2
  case hc =>
    refine L2.walk_ofE (l := PySem.Challenge.rw_sherdhall_k28_whole_changed_cells_are_kn) (n := 63) (k := 6) (x := "script") (CX := L2.CX0) rfl (by decide) (by kernel_rfl) ⟨rfl, by decide, by decide⟩ ?F (fun _ _ _ _ z => z)
    intro w mg fa h Y G hmg0
    obtain ⟨K, KX, c⟩ := Y
    have hmg : mg ("law" : PySem.Str) = some (.ref fa) := by
      have e : (HandSHeadRun.topDef (OpenLaw.row PySem.Challenge.rw_sherdhall_k28_whole_changed_cells_are_kn).prog 23).name = ("law" : PySem.Str) := by kernel_rfl
      rw [← e]
      exact hmg0
    obtain ⟨fd, hb, hF⟩ := Hx.facts (P := (PySem.Challenge.rw_sherdhall_k28_whole_changed_cells_are_kn).prog) (w := w) KX G hmg c
    exact ⟨K, fd, Hx.spLaw K, KX, hb, fun H a ns hl _ hS => ⟨a, ns, rfl, hS, hl, fun _ => rfl⟩, hF⟩
