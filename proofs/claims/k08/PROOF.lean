import PyProof.Rows.All
import Wide.All
import OpenK.AllK
import Wide.FinOn
import PyProof.NoPylong
import HandS.ForMost
import HandS.ForExc
import HandS.Wide
import HandS.Gcd
import HandS.IsInst
import HandS.ExcIs
import HandS.Property
import HandS.Defaults
import HandS.CallSlots
import HandS.ExcInit
import HandS.ExcField
import KE.KOpsOwn
import HandS.ClsMeth
import HandS.Evl
import PySem.Challenge.RW_fieldlots_k08_named_runs
set_option Elab.async false
set_option linter.all false
set_option maxRecDepth 100000
namespace Fl
open PySem PySem.Spec PyProof.Rows L2
/-! ### calls by a promise that names no address -/
structure Cal (P : Program) (w : World) (K : PySem.W.Frag) (mg : Str → Option Value) (base : Heap) (k : Nat) (x : Str) (ps : List Str) (sp : Sp) : Prop where
  ex : ∃ (f : Addr) (fd : FuncData), FnOk P w K mg base CX0 k f fd ps sp ∧ mg x = some (.ref f) ∧ PySem.W.keepIn K (.ref f) = true ∧ Binds K fd ps []
structure Dfn (K : PySem.W.Frag) (mg : Str → Option Value) (x qual : Str) (st : Stmt) (ps : List Str) : Prop where
  ex : ∃ (f : Addr) (fd : FuncData), Fun K x qual st f fd ∧ mg x = some (.ref f) ∧ Binds K fd ps []
section
variable {P : Program} {w : World} {K : PySem.W.Frag} {mg : Str → Option Value} {base : Heap}
theorem Dfn.cal {x qual : Str} {st : Stmt} {N ps : List Str} {k : Nat} {sp : Sp} (D : Dfn K mg x qual st ps) (S : FnScope N ps (defScope st)) (len : ∀ vs H Q E, sp vs H Q E → vs.length = ps.length)
    (hbody : ∀ (f : Addr) (cdv : Value) (A : Around) (outer : List Env) (s : Shared) (H : Hp) (vs : List V) (Q : VK) (E : XK), Room k (A.deeper (envOfC qual (defScope st) s.heap.objs.size f cdv)) → sp vs H Q E →
      ∃ t, PSs (cxOf CX0 P w K mg base N qual (defScope st) f cdv A outer s H E).nox (defBody st) t ∧ t { nx := fun _ H' => Q .non H', rt := Q } (start N vs) H) : Cal P w K mg base (k + 1) x ps sp := by
  obtain ⟨f, fd, F, m, b⟩ := D.ex
  exact ⟨f, fd, F.ok S len (hbody f), m, F.kp, b⟩
theorem Cal.mono {j k : Nat} {x : Str} {ps : List Str} {sp : Sp} (C : Cal P w K mg base j x ps sp) (h : j ≤ k) : Cal P w K mg base k x ps sp := by
  obtain ⟨f, fd, F, m, kp, b⟩ := C.ex
  exact ⟨f, fd, F.mono h, m, kp, b⟩
end
theorem pe_cal {X : Cx} {k : Nat} {x : Str} {ps : List Str} {sp : Sp} {p pos : Pos} {e : Expr} {es : List Expr} {t : TA} (C : Cal X.prog X.w X.K X.mg X.base k x ps sp) (hr : Room k X.A) (ha : PA X (e :: es) t) (hg : Gl X x := by rfl)
    (hdb : (x == ("__debug__" : Str)) = false := by decide) (he : starEach (e :: es) X.env = (false, eval e X.env) :: starEach es X.env := by rfl) (hpl : (backTo pos (starEach es X.env)).any (·.1) = false := by rfl) :
    PE X (.Call (.Name x p) (e :: es) [] pos) (tCall sp [] E0 t) := by
  obtain ⟨f, fd, F, m, kp, b⟩ := C.ex
  exact pe_call F hr hg m kp b .nil pass0 ha hdb he hpl
/-- the built-in names that the text leaves alone -/
structure Blt (mg : Str → Option Value) : Prop where
  len : mg "len" = none
  int : mg "int" = none
  abs : mg "abs" = none
  range : mg "range" = none
  isinstance : mg "isinstance" = none
  max : mg "max" = none
  min : mg "min" = none
  sum : mg "sum" = none
  str : mg "str" = none
  bool : mg "bool" = none
  list : mg "list" = none
  ve : mg "ValueError" = none
/-! ### great numbers -/
def CDivA (_ j : Int) : Prop := j ≠ 0 ∧ j.natAbs.log2 < 9000
theorem op_fdivA {X : Cx} : OpR X (binaryOp .FloorDiv) (rI CDivA fun i j => .int (i.fdiv j)) := opI fun i j _ _ _ _ _ hc q => floordiv_int hc.1 q (.inl (PyProof.noPylong_of_log2 hc.2))
theorem divA {i j : Int} {b : Nat} (h : j ≠ 0) (hb : j.natAbs < 2 ^ b) (h0 : 0 < b) (h9 : b ≤ 9000) : CDivA i j := ⟨h, Nat.lt_of_lt_of_le (PySem.Flt.log2_lt_of h0 hb) h9⟩
/-! ### heaps -/
/-- all that was tracked is as it was, but for p -/
def Keeps (H H' : Hp) (p : Addr) : Prop := ∀ b o, H b = some o → b ≠ p → H' b = some o
theorem Keeps.refl (H : Hp) (p : Addr) : Keeps H H p := fun _ _ h _ => h
theorem Keeps.trans {H H1 H2 : Hp} {p : Addr} (a : Keeps H H1 p) (b : Keeps H1 H2 p) : Keeps H H2 p := fun c o h n => b c o (a c o h n) n
theorem Keeps.upd {H : Hp} {p : Addr} {o : HO} : Keeps H (upd H p o) p := fun b u h n => by rw [upd_ne n]; exact h
theorem same_keeps {H H' : Hp} {p : Addr} (h : Same H H') : Keeps H H' p := fun b o e _ => h b o e
theorem same_upd {H : Hp} {p : Addr} {o : HO} (h : H p = none) : Same H (upd H p o) := fun b u e => by rw [upd_ne (ne_of_none e h)]; exact e
theorem Keeps.free {H H' : Hp} {p l : Addr} (k : Keeps H H' p) (h : H' l = none) (n : l ≠ p) : H l = none := by
  cases q : H l with
  | none => rfl
  | some o =>
    rw [k l o q n] at h
    cases h
theorem ints_at {ns : List Int} {j : Nat} (h : j < ns.length) : (ns.map V.int)[j]? = some (V.int ns[j]) := by
  rw [List.getElem?_map, List.getElem?_eq_getElem h]
  rfl
theorem int_of_map {ns : List Int} {i : Nat} {y : V} (h : (ns.map V.int)[i]? = some y) : ∃ z, ns[i]? = some z ∧ y = V.int z := by
  rw [List.getElem?_map] at h
  cases e : ns[i]? with
  | none => rw [e] at h; cases h
  | some z => rw [e] at h; exact ⟨z, rfl, (Option.some.inj h).symm⟩
/-- where the pool stands: its own list, the script's numbers -/
structure Pla where
  p : Addr
  q : Addr
instance : Coe Pla Addr := ⟨Pla.p⟩
/-- the pool: the script's numbers, how many are taken, what is left of one, a state, the draws -/
def Pool (H : Hp) (p : Pla) : Prop := ∃ (ns : List Int) (i b c d : Int), H p = some (.lst [.ref p.q, .int i, .int b, .int c, .int d]) ∧ H p.q = some (.lst (ns.map V.int)) ∧ 0 ≤ i ∧ p.q ≠ p
theorem Pool.same {H H' : Hp} {p : Pla} (h : Pool H p) (s : Same H H') : Pool H' p := by
  obtain ⟨ns, i, b, c, d, h1, h2, h3, h4⟩ := h
  exact ⟨ns, i, b, c, d, s _ _ h1, s _ _ h2, h3, h4⟩
theorem Pool.upd {H : Hp} {p : Pla} {x : Addr} {o : HO} (h : Pool H p) (hx : H x = none) : Pool (upd H x o) p := h.same (same_upd hx)
theorem Pool.store {H : Hp} {p : Pla} {x : Addr} {o : HO} (h : Pool H p) (hp : x ≠ p) (hq : x ≠ p.q) : Pool (L2.upd H x o) p := by
  obtain ⟨ns, i, b, c, d, h1, h2, h3, h4⟩ := h
  exact ⟨ns, i, b, c, d, by rw [upd_ne (Ne.symm hp)]; exact h1, by rw [upd_ne (Ne.symm hq)]; exact h2, h3, h4⟩
theorem Pool.apart {H : Hp} {p : Pla} {x : Addr} (h : Pool H p) (hx : H x = none) : x ≠ p ∧ x ≠ p.q := by
  obtain ⟨ns, i, b, c, d, h1, h2, _⟩ := h
  exact ⟨Ne.symm (ne_of_none h1 hx), Ne.symm (ne_of_none h2 hx)⟩
/-! ### tests -/
theorem ifD {p : Prop} [Decidable p] {A B : Prop} (h1 : p → A) (h2 : ¬ p → B) : if decide p = true then A else B := by
  by_cases h : p
  · rw [decide_eq_true h]; exact iteT (h1 h)
  · rw [decide_eq_false h]; exact iteF (h2 h)
theorem ifE {a b : Int} {A B : Prop} (h1 : a = b → A) (h2 : a ≠ b → B) : if decide (V.int a = V.int b) = true then A else B :=
  ifD (fun h => h1 (V.int.inj h)) fun h => h2 fun e => h (by rw [e])
theorem ifNE {a b : Int} {A B : Prop} (h1 : a ≠ b → A) (h2 : a = b → B) : if (!decide (V.int a = V.int b)) = true then A else B := by
  by_cases h : a = b
  · rw [decide_eq_true (show V.int a = V.int b by rw [h])]; exact iteF (h2 h)
  · rw [decide_eq_false (show ¬ V.int a = V.int b from fun e => h (V.int.inj e))]; exact iteT (h1 h)
theorem ifN {p : Prop} [Decidable p] {A B : Prop} (h1 : ¬ p → A) (h2 : p → B) : if (!decide p) = true then A else B := by
  by_cases h : p
  · rw [decide_eq_true h]; exact iteF (h2 h)
  · rw [decide_eq_false h]; exact iteT (h1 h)
theorem ifB {c : Bool} {A B : Prop} (h1 : c = true → A) (h2 : c = false → B) : if c = true then A else B := by
  cases c
  · exact iteF (h2 rfl)
  · exact iteT (h1 rfl)
theorem fm (a : Int) {b : Int} (h : 0 < b) : 0 ≤ a.fmod b ∧ a.fmod b < b := ⟨Int.fmod_nonneg_of_pos a h, Int.fmod_lt_of_pos a h⟩
/-! ### Euclid's steps -/
def fibp : Nat → Nat × Nat
  | 0 => (0, 1)
  | n + 1 => match fibp n with | (a, b) => (b, a + b)
def Eu : Nat → Nat → Nat → Prop
  | 0, _, y => y = 0
  | n + 1, x, y => y = 0 ∨ Eu n y (x % y)
theorem eu_mono : ∀ {n x y : Nat}, Eu n x y → Eu (n + 1) x y
  | 0, _, _, h => .inl h
  | _ + 1, _, _, .inl h => .inl h
  | n + 1, _, _, .inr h => .inr (eu_mono (n := n) h)
theorem fibp_step (n : Nat) : (fibp (n + 1)).1 = (fibp n).2 ∧ (fibp (n + 1)).2 = (fibp n).1 + (fibp n).2 := by
  show (match fibp n with | (a, b) => (b, a + b)).1 = _ ∧ (match fibp n with | (a, b) => (b, a + b)).2 = _
  cases fibp n
  exact ⟨rfl, rfl⟩
theorem eu_fib : ∀ (n x y : Nat), (y < (fibp n).2 → Eu n x y) ∧ (y < (fibp (n + 1)).2 → Eu (n + 1) x y) := by
  intro n
  induction n with
  | zero =>
    intro x y
    refine ⟨fun h => ?_, fun h => .inl ?_⟩
    · have h' : y < 1 := h
      show y = 0
      omega
    · have h' : y < 1 := h
      omega
  | succ n ih =>
    intro x y
    refine ⟨(ih x y).2, fun h => ?_⟩
    rw [(fibp_step (n + 1)).2, (fibp_step n).1] at h
    by_cases hy : y = 0
    · exact .inl hy
    refine .inr ?_
    have hr : x % y < y := Nat.mod_lt _ (by omega)
    by_cases hc : x % y < (fibp (n + 1)).2
    · exact (ih y (x % y)).2 hc
    · by_cases h0 : x % y = 0
      · exact .inl h0
      refine .inr ?_
      refine (ih (x % y) (y % (x % y))).1 ?_
      have e : y % (x % y) ≤ y - x % y := by
        rw [Nat.mod_eq_sub_mod (Nat.le_of_lt hr)]
        exact Nat.mod_le _ _
      omega
theorem fib_big : 10 ^ 124 ≤ (fibp 599).2 := by decide +kernel
theorem eu_all {x y : Nat} (h : y < 10 ^ 124) : Eu 599 x y := (eu_fib 599 x y).1 (Nat.lt_of_lt_of_le h fib_big)
end Fl

set_option Elab.async false
set_option linter.all false
set_option maxRecDepth 100000
set_option maxHeartbeats 4000000
namespace Fl
section
open PySem PySem.W PySem.Spec PySem.Calls PyProof.Rows
variable {prog : Program} {w : World} {A : Around} {E : Value → Shared → Prop} {s : Shared} {K : Frag} {x D : Addr} {ox : Obj} {od : Option Obj}
theorem findObj_dataE {C : Addr} {name : Str} {a g : Value} (hc : (clsIn K C).isSome = true) (ha : findIn K (.ref C) name = some (some a)) (hg : specialIn K a "__get__" = some (some g)) (ht : takesIn K a = some true) : findObj K C od name = some (.bind g a) := by
  obtain ⟨cd, hc⟩ := Option.isSome_iff_exists.mp hc
  unfold findObj
  rw [hc, Option.bind_some, ha, Option.bind_some]
  simp [hg, ht]
/-- __class__ of an exception of an own class, with or without a dict of its own -/
theorem kin_classX {Q : Option Value → Shared → Prop} (gAt : findIn K (.ref D) "__getattribute__" = some (some (.builtin "BaseException.__getattribute__"))) (gGt : findIn K (.ref D) "__getattr__" = some none) (sBe : subIn K (.ref D) (.type "BaseException") = some true)
    (dDc : hasDictIn K D = true) (ha : findIn K (.ref D) "__class__" = some (some (.builtin "object.__class__")))
    (hn : specialIn K (.builtin "object.__class__") "__get__" = some (some (.builtin "getset_descriptor.__get__"))) (tTk : takesIn K (.builtin "object.__class__") = some true) (hm : mroIn K D (.type "object") = some true)
    (X : K.In s.heap) (I : InstAt s.heap x ox D od) (h : Q (some (.ref D)) { s with toks := s.toks + 1 }) : wpAny (model prog w) A (getAttr? (.ref x) "__class__") Q E s := by
  have fnd : findObj K D od "__class__" = some (.bind (.builtin "getset_descriptor.__get__") (.builtin "object.__class__")) := findObj_dataE (by obtain ⟨cd, hc, _⟩ := any_some dDc; rw [hc]; rfl) ha hn tTk
  obtain ⟨heap0, g, d, t, os⟩ := s
  have lkT := I.type (M := model prog w)
  have lkG := looks_findIn (M := model prog w) X gAt
  have lkA := looks_findIn (M := model prog w) X gGt
  have lkF := looks_find (M := model prog w) X I fnd
  have isBe : Looks (model prog w) heap0 (isInstance (.ref x) (.type "BaseException")) true := lkT.andThen (looks_subIn X sBe)
  have nb0 : (false && onTheHeap (Value.builtin "BaseException.__getattribute__")) = false := rfl
  have nb2 : (Value.builtin "BaseException.__getattribute__" == Value.builtin "object.__getattribute__") = false := by decide +kernel
  have nb1 : (onTheHeap (Value.ref D) && Value.builtin "BaseException.__getattribute__" == Value.builtin "object.__getattribute__") = false := by rw [nb2]; rfl
  unfold getAttr? getAttrBy? getAttrBy
  refine wpAny_bind (wpAny_mkText (wpAny_bind (wpAny_attempt (wpAny_holding (wpAny_bind (lkT.at (wpAny_bind (lkG.at ?_))))))))
  show wpAny _ _ (if (onTheHeap (Value.ref D) && Value.builtin "BaseException.__getattribute__" == Value.builtin "object.__getattribute__") = true then _ else _) _ _ _
  rw [nb1, if_neg Bool.false_ne_true]
  unfold getAttrByItsOwn hookBefore
  refine wpAny_bind ?_
  rw [if_pos (show onTheHeap (Value.ref D) = true from rfl)]
  refine lkA.at ?_
  refine wpAny_bind (wpAny_attempt (wpAny_holding ?_))
  unfold callGetattribute
  rw [nb0, if_neg Bool.false_ne_true]
  unfold boundAndCalled
  rw [PySem.F.excAttr_ValueError.ga.bind (.ref x)]
  refine wpAny_bind (wpAny_pure ?_)
  show wpAny _ _ (call (.builtin "BaseException.__getattribute__") [.ref x, .str "__class__" t]) _ _ _
  refine wpAny_call (codeAny_call_builtin PySem.F.excAttr_ValueError.ga.plain PySem.F.entry_bexc_ga ?_)
  refine @check_slot (model prog w) _ _ ⟨heap0, g, d, t + 1, os⟩ "BaseException.__getattribute__" "BaseException" "__getattribute__" (.ref x) [.str "__class__" t] [] _ (by decide +kernel) (by decide +kernel) isBe (PySem.F.args_bexc_ga (.ref x) (.str "__class__" t)) ?_
  unfold Builtin.«object.__getattribute__»
  refine wpAny_bind (wpAny_of_eq (a := ((Value.ref x : Value), [Value.str "__class__" t])) (by first | rfl | (simp only [slotArgs]; rfl)) ?_)
  refine wpAny_bind (wpAny_pure (wpAny_bind (lkT.at (wpAny_bind (lkF.at ?_)))))
  show wpAny _ _ (holding [Value.builtin "object.__class__"] (call (.builtin "getset_descriptor.__get__") [.builtin "object.__class__", .ref x, .ref D]) >>= ret) _ _ _
  refine wpAny_bind (wpAny_holding (wpAny_call (class_get (s := ⟨heap0, g, d, t + 1, os⟩) (ox := ox) (od := od) X I hm ?_)))
  refine wpAny_pure ?_
  show wpAny _ _ (handedOut (.ref D)) _ _ _
  rw [handedOut_of (v := .ref D) rfl]
  first
    | exact wpAny_pure (wpAny_pure h)
    | exact wpAny_pure h
    | exact wpAny_pure (wpAny_bind (wpAny_pure (wpAny_pure h)))
theorem kitx_excX (gAt : findIn K (.ref D) "__getattribute__" = some (some (.builtin "BaseException.__getattribute__"))) (gGt : findIn K (.ref D) "__getattr__" = some none) (sBe : subIn K (.ref D) (.type "BaseException") = some true) (dDc : hasDictIn K D = true) (ha : findIn K (.ref D) "__class__" = some (some (.builtin "object.__class__")))
    (hn : specialIn K (.builtin "object.__class__") "__get__" = some (some (.builtin "getset_descriptor.__get__"))) (tTk : takesIn K (.builtin "object.__class__") = some true) (hm : mroIn K D (.type "object") = some true) :
    KitX K (.ref x) (.ref D) (fun h => InstAt h x ox D od) where
  ty := fun _ _ _ I => I.type
  it := fun _ _ X _ => by
    obtain ⟨cdE, hcE, _⟩ := any_some dDc
    unfold clsIn at hcE
    split at hcE
    · rename_i c' d' cd' sl' ho
      intro A' Q' E' s' k q
      unfold isType loadHead
      exact wpAny_bind (wpAny_loadPart (k _ _ (X _ _ ho)) (wpAny_pure q))
    · cases hcE
  ne := fun h tp dd its n sl X htp => by
    obtain ⟨cdE, hcE, _⟩ := any_some dDc
    refine Bool.eq_false_iff.mpr fun q => ?_
    have e : D = tp := Value.ref.inj (beq_iff_eq.mp q)
    subst e
    unfold clsIn at hcE
    split at hcE
    · rename_i c' d' cd' sl' ho
      have z := (X _ _ ho).symm.trans htp
      cases z
    · cases hcE
  ca := fun X I k => kin_classX gAt gGt sBe dDc ha hn tTk hm X I k
end
section
open PySem PySem.Spec PyProof.Rows L2
/-- the caught error at a: of the class D, its dict d -/
def Err (H : Hp) (d : Option Addr) : Prop := d = none ∨ ∃ dd fs, d = some dd ∧ H dd = some (.xd fs)
theorem exc_inst {X : Cx} {a D : Addr} {oe : Obj} {pn pins : List (Addr × Obj)} {d : Option Addr} {σ : L2.St} {H : Hp} {s : Shared} (hz : Zc (.ref D) d oe) (hf : ∃ vs, oe.data = .fields vs) (I : Inv (X.suite a ((a, oe) :: pn)) pins σ H s) (he : Err H d) :
    ∃ od, PySem.W.InstAt s.heap a oe D od := by
  obtain ⟨hget, _⟩ := I.pin (a, oe) (List.mem_append.mpr (.inl List.mem_cons_self))
  obtain ⟨vs, hv⟩ := hf
  obtain ⟨oc, oda, odt, osl⟩ := oe
  obtain ⟨h1, h2⟩ := hz
  dsimp only at h1 h2 hv
  subst h1 h2 hv
  rcases he with rfl | ⟨dd, fs, rfl, hd⟩
  · exact ⟨none, hget, rfl, rfl, trivial⟩
  · have hx : ObjOk X.prog X.w H s.heap dd (.xd fs) := I.hok dd _ hd
    obtain ⟨mA, hns, hr⟩ := hx
    obtain ⟨od, ho, hl⟩ := lookIn_ns hns
    exact ⟨some od, hget, rfl, rfl, ho⟩
def rIsX (K : PySem.W.Frag) (D a : Addr) (cls : Value) (d : Option Addr) : List V → Hp → VK → Prop := fun xs H Q => cls = .ref D ∧ Err H d ∧ ∃ (c : V) (cv : Value) (b : Bool), xs = [.ref a, c] ∧ ClsV c cv ∧ PySem.W.kitOne K (.ref D) cv = some b ∧ Q (.bl b) H
def rIsXT (K : PySem.W.Frag) (D a : Addr) (cls : Value) (d : Option Addr) : List V → Hp → VK → Prop := fun xs H Q => cls = .ref D ∧ Err H d ∧ ∃ (tp : Addr) (cs : List V) (us : List Value) (b : Bool), xs = [.ref a, .ref tp] ∧ H tp = some (.tup cs) ∧ Paired ClsV cs us ∧ PySem.W.kitAny K (.ref D) us = some b ∧ Q (.bl b) H
theorem call_isX {X : Cx} {a D : Addr} {cls : Value} {d : Option Addr} {oe : Obj} {pn : List (Addr × Obj)} (C : ExcC X.K D) (hz : Zc cls d oe) (hf : ∃ vs, oe.data = .fields vs) : CallR (X.suite a ((a, oe) :: pn)) (.builtin "isinstance") (rIsX X.K D a cls d) := by
  intro pins s σ H xs us Q I r h
  obtain ⟨rfl, he, c, cv, b, rfl, hcv, e, q⟩ := h
  obtain ⟨od, J⟩ := exc_inst hz hf I he
  obtain ⟨u1, u2, rfl, r1, r2⟩ := vals2 r
  have ec := hcv.eq r2
  subst ec
  cases (show u1 = Value.ref a from r1)
  exact PySem.W.kia_one (kitx_excX C.hg C.hk C.hs C.hd C.ha C.hn C.ht C.hm) I.kIn J e (fun z => nomatch z) fun tk => ⟨.bl b, H, I.kept (t' := tk) fun _ _ z => z, rfl, q⟩
theorem call_isXT {X : Cx} {a D : Addr} {cls : Value} {d : Option Addr} {oe : Obj} {pn : List (Addr × Obj)} (C : ExcC X.K D) (hz : Zc cls d oe) (hf : ∃ vs, oe.data = .fields vs) : CallR (X.suite a ((a, oe) :: pn)) (.builtin "isinstance") (rIsXT X.K D a cls d) := by
  intro pins s σ H xs us Q I r h
  obtain ⟨rfl, he, tp, cs, ws, b, rfl, hT, k, e, q⟩ := h
  obtain ⟨od, J⟩ := exc_inst hz hf I he
  obtain ⟨u1, u2, rfl, r1, r2⟩ := vals2 r
  cases (show u1 = Value.ref a from r1)
  cases (show u2 = Value.ref tp from r2)
  obtain ⟨_, its, rv, o, h1, h2, n, h3⟩ := (show ObjOk X.prog X.w H s.heap tp (.tup cs) from I.hok tp _ hT)
  have e3 := ClsV.all k rv
  subst e3
  obtain ⟨oc, od', dt, sl⟩ := o
  simp only at h2 h3
  subst h2 h3
  exact PySem.W.kia_tup (kitx_excX C.hg C.hk C.hs C.hd C.ha C.hn C.ht C.hm) I.kIn J h1 e (fun z => nomatch z) fun tk => ⟨.bl b, H, I.kept (t' := tk) fun _ _ z => z, rfl, q⟩
/-! ### making an instance where what is raised is wished for at the caller's slots -/
def tMakeS (C : Addr) (sp : Sp) (dvs : List V) (E : L2.St → XK) (t : TA) : TE := fun σ H Q => t σ H fun vs H1 => ∀ x dx, H1 x = none → H1 dx = none → dx ≠ x →
  sp (.ref x :: (vs ++ dvs)) (upd (upd H1 dx (.own x)) x (.ins C dx [])) (fun v H2 => v = .non ∧ Q (.ref x) H2) (E σ)
section
variable {X : Cx} {CX : CXT} {k : Nat} {f C : Addr} {fd : FuncData} {ps : List Str} {sp : Sp} {dvs : List V} {ds : List Value} {E : L2.St → XK} {x m : Str} {p pos apos : Pos} {e o : Expr} {es : List Expr} {ta : TE} {t : TA}
theorem run_makeS {pins : List (Addr × Obj)} {σ : L2.St} {H : Hp} {s : Shared} {Q : VK} {us : List Value} {vs : List V} (M : Mk X.K C f) (F : FnOk X.prog X.w X.K X.mg X.base CX k f fd ps sp) (hr : Room (k + 1) X.A) (hb : Binds X.K fd ps ds) (hd : Vals dvs ds)
    (hx : PassesAt CX X σ (E σ)) (I : Inv X pins σ H s) (r : Vals vs us)
    (h : ∀ x dx, H x = none → H dx = none → dx ≠ x → sp (.ref x :: (vs ++ dvs)) (upd (upd H dx (.own x)) x (.ins C dx [])) (fun v H2 => v = .non ∧ Q (.ref x) H2) (E σ)) :
    wpAny (model X.prog X.w) X.A (call (.ref C) us) (EP X pins σ Q) X.xe s := by
  have hnew := h (s.heap.objs.size + 1) s.heap.objs.size (I.hok.fresh (Nat.le_succ _)) (I.hok.fresh (Nat.le_refl _)) (Nat.ne_of_lt (Nat.lt_succ_self _))
  have Inew := Inv.made (C := C) I
  have rAll : Vals (V.ref (s.heap.objs.size + 1) :: (vs ++ dvs)) (Value.ref (s.heap.objs.size + 1) :: (us ++ ds)) := .cons rfl (r.append hd)
  have hlen : (Value.ref (s.heap.objs.size + 1) :: us ++ ds).length = ps.length := by
    have e := rAll.length
    rw [F.len _ _ _ _ hnew] at e
    exact e.symm
  refine wpAny_call (make_map (f := f) I.kIn M.makes M.init (beq_iff_eq.mp M.fn) (codeAny_mono (F.run _ X.stack _ _ ⟨Value.ref (s.heap.objs.size + 1) :: us, []⟩ (Value.ref (s.heap.objs.size + 1) :: (us ++ ds)) _ _ (E σ) (hr.make C us [])
    (Inew.env0.make C us []) (hb _ (Value.ref (s.heap.objs.size + 1) :: us) Inew.kIn hlen) rAll hnew) fun r s' hend => ?_))
  cases r with
  | error e => exact hx pins _ _ e s' Inew hend
  | ok fl =>
    cases fl with
    | ret u =>
      obtain ⟨v, H', Iend, rVal, ev, qEnd⟩ := Inew.after hend
      subst ev
      exact ⟨rVal, ⟨V.ref (s.heap.objs.size + 1), H', Iend, rfl, qEnd⟩⟩
    | next => exact False.elim hend
    | brk => exact False.elim hend
    | cont => exact False.elim hend
theorem pe_makeS (M : Mk X.K C f) (F : FnOk X.prog X.w X.K X.mg X.base CX k f fd ps sp) (hr : Room (k + 1) X.A) (hg : Gl X x) (hm : X.mg x = some (.ref C)) (hb : Binds X.K fd ps ds) (hd : Vals dvs ds) (hx : ∀ σ, PassesAt CX X σ (E σ))
    (ha : PA X (e :: es) t) (hdb : (x == ("__debug__" : Str)) = false := by decide) (he : starEach (e :: es) X.env = (false, eval e X.env) :: starEach es X.env := by rfl) (hpl : (backTo pos (starEach es X.env)).any (·.1) = false := by rfl) :
    PE X (.Call (.Name x p) (e :: es) [] pos) (tMakeS C sp dvs E t) := by
  refine ⟨fun pins s σ H Q I h => ?_⟩
  refine wpAny_Call_Name_kw (ld_glob I hg hm ?_ hdb)
  refine PySem.W.callWith_K (h₀ := X.base) I.ok.mod.kin M.kp (thn (ha.run pos pins s σ H _ I h) fun us s1 ⟨vs, H1, I1, r, q⟩ => ⟨I1.kIn, ?_⟩) he hpl
  exact run_makeS M F hr hb hd (hx σ) I1 r q
end
/-- a class that is called: C(..), the promise of its __init__; dvs the defaults that fill up -/
structure CalC (P : Program) (w : World) (K : PySem.W.Frag) (mg : Str → Option Value) (base : Heap) (CX : CXT) (k : Nat) (C : Addr) (x : Str) (ps : List Str) (dvs : List V) (sp : Sp) : Prop where
  ex : ∃ (f : Addr) (fd : FuncData) (ds : List Value), Mk K C f ∧ FnOk P w K mg base CX k f fd ps sp ∧ mg x = some (.ref C) ∧ Binds K fd ps ds ∧ Vals dvs ds
theorem pe_mk {X : Cx} {k : Nat} {C : Addr} {x : Str} {ps : List Str} {dvs : List V} {sp : Sp} {p pos : Pos} {e : Expr} {es : List Expr} {t : TA} (M : CalC X.prog X.w X.K X.mg X.base (L2.CX X.prog X.w) k C x ps dvs sp) (hr : Room (k + 1) X.A) (ha : PA X (e :: es) t) (hg : Gl X x := by rfl)
    (hdb : (x == ("__debug__" : Str)) = false := by decide) (he : starEach (e :: es) X.env = (false, eval e X.env) :: starEach es X.env := by rfl) (hpl : (backTo pos (starEach es X.env)).any (·.1) = false := by rfl) :
    PE X (.Call (.Name x p) (e :: es) [] pos) (tMake C sp dvs E0 t) := by
  obtain ⟨f, fd, ds, M, F, m, b, d⟩ := M.ex
  exact pe_make M F hr hg m b d passL ha hdb he hpl
theorem pe_mkS {X : Cx} {W : WX} {k : Nat} {C : Addr} {x : Str} {ps : List Str} {dvs : List V} {sp : Sp} {p pos : Pos} {e : Expr} {es : List Expr} {t : TA} (M : CalC X.prog X.w X.K X.mg X.base (L2.CX X.prog X.w) k C x ps dvs sp) (tk : Takes X W) (hr : Room (k + 1) X.A) (ha : PA X (e :: es) t) (hg : Gl X x := by rfl)
    (hdb : (x == ("__debug__" : Str)) = false := by decide) (he : starEach (e :: es) X.env = (false, eval e X.env) :: starEach es X.env := by rfl) (hpl : (backTo pos (starEach es X.env)).any (·.1) = false := by rfl) :
    PE X (.Call (.Name x p) (e :: es) [] pos) (tMakeS C sp dvs (WE W) t) := by
  obtain ⟨f, fd, ds, M, F, m, b, d⟩ := M.ex
  exact pe_makeS M F hr hg m b d (fun σ => passAt tk σ) ha hdb he hpl
/-! ### a def that may raise -/
structure CalX (P : Program) (w : World) (K : PySem.W.Frag) (mg : Str → Option Value) (base : Heap) (k : Nat) (x : Str) (ps : List Str) (sp : Sp) : Prop where
  ex : ∃ (f : Addr) (fd : FuncData), FnOk P w K mg base (L2.CX P w) k f fd ps sp ∧ mg x = some (.ref f) ∧ PySem.W.keepIn K (.ref f) = true ∧ Binds K fd ps []
theorem Dfn.calX {P : Program} {w : World} {K : PySem.W.Frag} {mg : Str → Option Value} {base : Heap} {x qual : Str} {st : Stmt} {N ps : List Str} {k : Nat} {sp : Sp} (D : Dfn K mg x qual st ps) (S : FnScope N ps (defScope st)) (len : ∀ vs H Q E, sp vs H Q E → vs.length = ps.length)
    (hbody : ∀ (f : Addr) (cdv : Value) (A : Around) (outer : List Env) (s : Shared) (H : Hp) (vs : List V) (Q : VK) (E : XK), Room k (A.deeper (envOfC qual (defScope st) s.heap.objs.size f cdv)) → sp vs H Q E →
      ∃ t, PSs (cxOf (L2.CX P w) P w K mg base N qual (defScope st) f cdv A outer s H E) (defBody st) t ∧ t { nx := fun _ H' => Q .non H', rt := Q } (start N vs) H) : CalX P w K mg base (k + 1) x ps sp := by
  obtain ⟨f, fd, F, m, b⟩ := D.ex
  exact ⟨f, fd, F.okX S len (hbody f), m, F.kp, b⟩
theorem pe_calX {X : Cx} {k : Nat} {x : Str} {ps : List Str} {sp : Sp} {p pos : Pos} {e : Expr} {es : List Expr} {t : TA} (C : CalX X.prog X.w X.K X.mg X.base k x ps sp) (hr : Room k X.A) (ha : PA X (e :: es) t) (hg : Gl X x := by rfl)
    (hdb : (x == ("__debug__" : Str)) = false := by decide) (he : starEach (e :: es) X.env = (false, eval e X.env) :: starEach es X.env := by rfl) (hpl : (backTo pos (starEach es X.env)).any (·.1) = false := by rfl) :
    PE X (.Call (.Name x p) (e :: es) [] pos) (tCall sp [] E0 t) := by
  obtain ⟨f, fd, F, m, kp, b⟩ := C.ex
  exact pe_call F hr hg m kp b .nil passL ha hdb he hpl
theorem pe_calS {X : Cx} {W : WX} {k : Nat} {x : Str} {ps : List Str} {sp : Sp} {p pos : Pos} {e : Expr} {es : List Expr} {t : TA} (C : CalX X.prog X.w X.K X.mg X.base k x ps sp) (tk : Takes X W) (hr : Room k X.A) (ha : PA X (e :: es) t) (hg : Gl X x := by rfl)
    (hdb : (x == ("__debug__" : Str)) = false := by decide) (he : starEach (e :: es) X.env = (false, eval e X.env) :: starEach es X.env := by rfl) (hpl : (backTo pos (starEach es X.env)).any (·.1) = false := by rfl) :
    PE X (.Call (.Name x p) (e :: es) [] pos) (tCallS sp (WE W) t) := by
  obtain ⟨f, fd, F, m, kp, b⟩ := C.ex
  exact pe_callS F hr hg m kp b (fun σ => passAt tk σ) ha hdb he hpl
theorem exm_self {K : PySem.W.Frag} {S : Addr} (h1 : PySem.W.subIn K (.ref S) (.type "BaseException") = some true) (h2 : PySem.W.hasDictIn K S = true) (h3 : PySem.W.typeIn K (.ref S) = some (.type "type")) (h4 : PySem.W.subIn K (.ref S) (.ref S) = some true) :
    PySem.W.exmOne K (.ref S) (.ref S) = some true := PySem.W.exm_ref h1 h2 h3 h4
end
end Fl

set_option Elab.async false
set_option linter.all false
set_option maxRecDepth 100000
set_option maxHeartbeats 4000000
namespace Fl
open PySem PySem.Spec PyProof.Rows L2
/-! ### lowest terms -/
def sh (t u : Int) : Int := if u < 0 then -(Nat.gcd t.natAbs u.natAbs : Nat) else (Nat.gcd t.natAbs u.natAbs : Nat)
def nT (t u : Int) : Int := t.fdiv (sh t u)
def nU (t u : Int) : Int := u.fdiv (sh t u)
theorem sh_abs (t u : Int) : (sh t u).natAbs = Nat.gcd t.natAbs u.natAbs := by
  unfold sh
  split <;> omega
theorem sh_ne {t u : Int} (h : u ≠ 0) : sh t u ≠ 0 := by
  have h1 : 0 < Nat.gcd t.natAbs u.natAbs := Nat.gcd_pos_of_pos_right _ (by omega)
  have := sh_abs t u
  omega
theorem sh_dvd_t (t u : Int) : sh t u ∣ t := Int.natAbs_dvd_natAbs.mp (by rw [sh_abs]; exact Nat.gcd_dvd_left _ _)
theorem sh_dvd_u (t u : Int) : sh t u ∣ u := Int.natAbs_dvd_natAbs.mp (by rw [sh_abs]; exact Nat.gcd_dvd_right _ _)
theorem nT_mul (t u : Int) : nT t u * sh t u = t := by
  unfold nT
  exact Int.fdiv_mul_cancel (sh_dvd_t t u)
theorem nU_mul (t u : Int) : nU t u * sh t u = u := by
  unfold nU
  exact Int.fdiv_mul_cancel (sh_dvd_u t u)
theorem nU_pos {t u : Int} (h : u ≠ 0) : 0 < nU t u := by
  have h1 : 0 < Nat.gcd t.natAbs u.natAbs := Nat.gcd_pos_of_pos_right _ (by omega)
  have e := nU_mul t u
  by_cases hn : u < 0
  · have hs : sh t u < 0 := by
      unfold sh
      rw [if_pos hn]
      omega
    rcases Int.lt_trichotomy (nU t u) 0 with hc | hc | hc
    · have := Int.mul_pos_of_neg_of_neg hc hs
      omega
    · rw [hc] at e
      omega
    · exact hc
  · have hs : 0 < sh t u := by
      unfold sh
      rw [if_neg hn]
      omega
    rcases Int.lt_trichotomy (nU t u) 0 with hc | hc | hc
    · have := Int.mul_neg_of_neg_of_pos hc hs
      omega
    · rw [hc] at e
      omega
    · exact hc
theorem n_cross (t u : Int) : nT t u * u = t * nU t u := by
  have e1 := nT_mul t u
  have e2 := nU_mul t u
  calc nT t u * u = nT t u * (nU t u * sh t u) := by rw [e2]
    _ = nT t u * sh t u * nU t u := by rw [Int.mul_comm (nU t u), Int.mul_assoc]
    _ = t * nU t u := by rw [e1]
theorem n_gcd {t u : Int} (h : u ≠ 0) : Nat.gcd (nT t u).natAbs (nU t u).natAbs = 1 := by
  have h1 : 0 < Nat.gcd t.natAbs u.natAbs := Nat.gcd_pos_of_pos_right _ (by omega)
  have e1 : (nT t u).natAbs * Nat.gcd t.natAbs u.natAbs = t.natAbs := by rw [← sh_abs, ← Int.natAbs_mul, nT_mul]
  have e2 : (nU t u).natAbs * Nat.gcd t.natAbs u.natAbs = u.natAbs := by rw [← sh_abs, ← Int.natAbs_mul, nU_mul]
  have e3 : Nat.gcd ((nT t u).natAbs * Nat.gcd t.natAbs u.natAbs) ((nU t u).natAbs * Nat.gcd t.natAbs u.natAbs) = Nat.gcd t.natAbs u.natAbs := by
    rw [e1, e2]
  rw [Nat.gcd_mul_right] at e3
  exact Nat.eq_of_mul_eq_mul_right h1 (by rw [e3, Nat.one_mul])
theorem nU_le {t u : Int} (h : u ≠ 0) : (nU t u).natAbs ≤ u.natAbs := by
  have h1 : 0 < Nat.gcd t.natAbs u.natAbs := Nat.gcd_pos_of_pos_right _ (by omega)
  have e2 : (nU t u).natAbs * Nat.gcd t.natAbs u.natAbs = u.natAbs := by rw [← sh_abs, ← Int.natAbs_mul, nU_mul]
  rw [← e2]
  exact Nat.le_mul_of_pos_right _ h1
theorem nT_le {t u : Int} (h : u ≠ 0) : (nT t u).natAbs ≤ t.natAbs := by
  have h1 : 0 < Nat.gcd t.natAbs u.natAbs := Nat.gcd_pos_of_pos_right _ (by omega)
  have e2 : (nT t u).natAbs * Nat.gcd t.natAbs u.natAbs = t.natAbs := by rw [← sh_abs, ← Int.natAbs_mul, nT_mul]
  rw [← e2]
  exact Nat.le_mul_of_pos_right _ h1
/-- a fraction has one form in lowest terms -/
theorem low_one {a b c d : Int} (hb : 0 < b) (hd : 0 < d) (g1 : Nat.gcd a.natAbs b.natAbs = 1) (g2 : Nat.gcd c.natAbs d.natAbs = 1) (e : a * d = c * b) : a = c ∧ b = d := by
  have en : a.natAbs * d.natAbs = c.natAbs * b.natAbs := by rw [← Int.natAbs_mul, ← Int.natAbs_mul, e]
  have d1 : b.natAbs ∣ d.natAbs := (Nat.Coprime.dvd_of_dvd_mul_left (k := b.natAbs) (m := a.natAbs) (n := d.natAbs) (by rw [Nat.Coprime, Nat.gcd_comm]; exact g1) (by rw [en]; exact Nat.dvd_mul_left _ _))
  have d2 : d.natAbs ∣ b.natAbs := (Nat.Coprime.dvd_of_dvd_mul_left (k := d.natAbs) (m := c.natAbs) (n := b.natAbs) (by rw [Nat.Coprime, Nat.gcd_comm]; exact g2) (by rw [← en]; exact Nat.dvd_mul_left _ _))
  have e3 : b.natAbs = d.natAbs := Nat.dvd_antisymm d1 d2
  have e4 : b = d := by omega
  subst e4
  exact ⟨Int.eq_of_mul_eq_mul_right (by omega) e, rfl⟩
theorem n_uniq {a b t u : Int} (hu : u ≠ 0) (hb : 0 < b) (g : Nat.gcd a.natAbs b.natAbs = 1) (e : a * u = t * b) : a = nT t u ∧ b = nU t u := by
  refine low_one hb (nU_pos hu) g (n_gcd hu) ?_
  have e1 := n_cross t u
  refine Int.eq_of_mul_eq_mul_right hu ?_
  calc a * nU t u * u = a * u * nU t u := by rw [Int.mul_assoc, Int.mul_comm (nU t u), ← Int.mul_assoc]
    _ = t * b * nU t u := by rw [e]
    _ = t * nU t u * b := by rw [Int.mul_assoc, Int.mul_comm b, ← Int.mul_assoc]
    _ = nT t u * u * b := by rw [e1]
    _ = nT t u * b * u := by rw [Int.mul_assoc, Int.mul_comm u, ← Int.mul_assoc]
theorem n_self {a b : Int} (hb : 0 < b) (g : Nat.gcd a.natAbs b.natAbs = 1) : nT a b = a ∧ nU a b = b := by
  obtain ⟨h1, h2⟩ := n_uniq (a := a) (b := b) (t := a) (u := b) (by omega) hb g rfl
  exact ⟨h1.symm, h2.symm⟩
theorem n_one (t : Int) : nT t 1 = t ∧ nU t 1 = 1 := n_self (by decide) (by simp)
theorem n_scale {t u f : Int} (hu : u ≠ 0) (hf : f ≠ 0) : nT (t * f) (u * f) = nT t u ∧ nU (t * f) (u * f) = nU t u := by
  have hne : u * f ≠ 0 := Int.mul_ne_zero hu hf
  obtain ⟨h1, h2⟩ := n_uniq (a := nT t u) (b := nU t u) (t := t * f) (u := u * f) hne (nU_pos hu) (n_gcd hu) (by
    have e1 := n_cross t u
    calc nT t u * (u * f) = nT t u * u * f := by rw [Int.mul_assoc]
      _ = t * nU t u * f := by rw [e1]
      _ = t * f * nU t u := by rw [Int.mul_assoc, Int.mul_comm (nU t u), ← Int.mul_assoc])
  exact ⟨h1.symm, h2.symm⟩
/-! ### instances of Ratio -/
def rf (t u : Int) : List (Str × V) := putF "under" (.int u) (putF "top" (.int t) [])
theorem tu : ¬ (("top" : Str) = "under") := by decide +kernel
theorem ut : ¬ (("under" : Str) = "top") := by decide +kernel
theorem rf_top (t u : Int) : (rf t u).lookup ("top" : Str) = some (.int t) := by
  unfold rf
  rw [lookup_putF, if_neg tu, lookup_putF, if_pos rfl]
theorem rf_under (t u : Int) : (rf t u).lookup ("under" : Str) = some (.int u) := by
  unfold rf
  rw [lookup_putF, if_pos rfl]
theorem rf_no (t u : Int) {m : Str} (h1 : ¬ m = "under") (h2 : ¬ m = "top") : (rf t u).lookup m = none := by
  unfold rf
  rw [lookup_putF, if_neg h1, lookup_putF, if_neg h2]
  rfl
/-- a Ratio t / u stands at x -/
def RatAt (C : Addr) (H : Hp) (x : Addr) (t u : Int) : Prop := ∃ dx, H x = some (.ins C dx (rf t u))
theorem RatAt.keep {C p : Addr} {H H' : Hp} {x : Addr} {t u : Int} (h : RatAt C H x t u) (k : Keeps H H' p) (hp : x ≠ p) : RatAt C H' x t u := by
  obtain ⟨dx, h⟩ := h
  exact ⟨dx, k _ _ h hp⟩
theorem RatAt.same {C : Addr} {H H' : Hp} {x : Addr} {t u : Int} (h : RatAt C H x t u) (k : Same H H') : RatAt C H' x t u := by
  obtain ⟨dx, h⟩ := h
  exact ⟨dx, k _ _ h⟩
theorem RatAt.ne_pool {C : Addr} {p : Pla} {H : Hp} {x : Addr} {t u : Int} (h : RatAt C H x t u) (hp : Pool H p) : x ≠ p := by
  obtain ⟨dx, h⟩ := h
  obtain ⟨ns, i, b, c, d, h1, _⟩ := hp
  exact ne_of h h1 (by intro z; cases z)
/-- the class Ratio as the top has left it -/
structure RatC (K : PySem.W.Frag) (mg : Str → Option Value) (C : Addr) : Prop where
  cl : Cls K C
  nT : NoAttr K C "top"
  nU : NoAttr K C "under"
  g : mg "Ratio" = some (.ref C)
  ha : PySem.W.findIn K (.ref C) "__class__" = some (some (.builtin "object.__class__"))
  hn : PySem.W.specialIn K (.builtin "object.__class__") "__get__" = some (some (.builtin "getset_descriptor.__get__"))
  htk : PySem.W.takesIn K (.builtin "object.__class__") = some true
  hm : PySem.W.mroIn K C (.type "object") = some true
  ki : PySem.W.kitOne K (.type "int") (.ref C) = some false
theorem RatC.tyX {K : PySem.W.Frag} {mg : Str → Option Value} {C : Addr} (T : RatC K mg C) {H : Hp} {x dx : Addr} {fs : List (Str × V)} (h : H x = some (.ins C dx fs)) : TyX K H (.ref x) (.ref C) := .base (.ins h T.cl T.ha T.hn T.htk T.hm)
theorem kit_self {K : PySem.W.Frag} (v : Value) : PySem.W.kitOne K v v = some true := by
  unfold PySem.W.kitOne
  rw [if_pos (beq_self_eq_true v)]
/-- an error class of the program without __init__ -/
structure ExC (K : PySem.W.Frag) (mg : Str → Option Value) (nm : Str) (C : Addr) : Prop where
  x : PySem.W.excIn K C [.type "ValueError", .type "Exception", .type "BaseException", .type "object"] "ValueError.__new__" = true
  g : mg nm = some (.ref C)
  k : PySem.W.keepIn K (.ref C) = true
  b : PySem.W.subIn K (.ref C) (.type "BaseException") = some true
  t : PySem.W.typeIn K (.ref C) = some (.type "type")
  s : PySem.W.subIn K (.ref C) (.ref C) = some true
  e : ExcC K C
theorem ExC.exm {K : PySem.W.Frag} {mg : Str → Option Value} {x : Str} {C : Addr} (T : ExC K mg x C) : PySem.W.exmOne K (.ref C) (.ref C) = some true := exm_self T.b T.e.hd T.t T.s
theorem beq_ref_ne {a b : Addr} (h : a ≠ b) : (Value.ref a == Value.ref b) = false := by
  rw [beq_eq_false_iff_ne]
  intro e
  injection e with e
  exact h e
end Fl

set_option Elab.async false
set_option linter.all false
set_option maxRecDepth 100000
set_option maxHeartbeats 4000000
namespace Fl
open PySem PySem.Spec PyProof.Rows L2
/-! ### the error with a name and a value -/
structure BnC (K : PySem.W.Frag) (mg : Str → Option Value) (C : Addr) : Prop where
  o : OexC K C
  g : mg "BadNumber" = some (.ref C)
  nN : PySem.W.findIn K (.ref C) "name" = some none
  nV : PySem.W.findIn K (.ref C) "value" = some none
  e : ExcC K C
  s : PySem.W.subIn K (.ref C) (.ref C) = some true
theorem BnC.exm {K : PySem.W.Frag} {mg : Str → Option Value} {C : Addr} (T : BnC K mg C) : PySem.W.exmOne K (.ref C) (.ref C) = some true := exm_self T.o.exC T.e.hd T.o.tyC T.s
theorem BnC.xf {K : PySem.W.Frag} {mg : Str → Option Value} {C : Addr} (T : BnC K mg C) : XfC K C := ⟨T.e.hg, T.e.hk, T.e.hs, T.e.hd⟩
def bnf (n v : V) : List (Str × V) := [("value", v), ("name", n)]
theorem nv : ¬ (("name" : Str) = "value") := by decide +kernel
theorem look_ne {f g : Str} {v : V} {fs : List (Str × V)} (h : ¬ f = g) : List.lookup f ((g, v) :: fs) = List.lookup f fs := by
  have e : (f == g) = false := by simpa using h
  rw [List.lookup_cons, e]
theorem look_eq {f : Str} {v : V} {fs : List (Str × V)} : List.lookup f ((f, v) :: fs) = some v := by
  rw [List.lookup_cons, beq_self_eq_true]
theorem bnf_name (n v : V) : (bnf n v).lookup ("name" : Str) = some n := by
  unfold bnf
  rw [look_ne nv, look_eq]
theorem bnf_value (n v : V) : (bnf n v).lookup ("value" : Str) = some v := look_eq
def spBN (C : Addr) : Sp := fun vs H Q _ => ∃ (a : Addr) (n v : V), vs = [.ref a, n, v] ∧ H a = some (exo a C none) ∧ ∀ (dx : Addr), H dx = none → dx ≠ a → Q .non (upd (upd (upd H dx (exd dx [("name", n)])) a (exo a C (some dx))) dx (exd dx (bnf n v)))
structure CalE (P : Program) (w : World) (K : PySem.W.Frag) (mg : Str → Option Value) (base : Heap) (k : Nat) (C : Addr) : Prop where
  ex : ∃ (fI : Addr) (fd : FuncData), PySem.W.findIn K (.ref C) "__init__" = some (some (.ref fI)) ∧ PySem.W.typeIn K (.ref fI) = some (.type "function") ∧ FnOk P w K mg base CX0 k fI fd ["self", "name", "value"] (spBN C) ∧ Binds K fd ["self", "name", "value"] []
theorem pmk_bn {X : Cx} {k : Nat} {C : Addr} {p pos : Pos} {e : Expr} {es : List Expr} {ta : TA} (T : BnC X.K X.mg C) (B : CalE X.prog X.w X.K X.mg X.base k C) (hr : Room (k + 1) X.A) (ha : PA X (e :: es) ta) (hg : Gl X "BadNumber" := by rfl)
    (he : starEach (e :: es) X.env = (false, eval e X.env) :: starEach es X.env := by rfl) (hpl : (backTo pos (starEach es X.env)).any (·.1) = false := by rfl) : PMk X (.Call (.Name "BadNumber" p) (e :: es) [] pos) (tMkO C (spBN C) [] ta) := by
  obtain ⟨fI, fd, iC, tI, F, b⟩ := B.ex
  exact pmk_oex T.o iC tI F hr b .nil (fun _ _ _ _ _ _ _ h => h.elim) hg T.g ha (by decide +kernel) he hpl
/-- what is wished where BadNumber(n, v) leaves -/
def Ref (E : XK) (C : Addr) (H : Hp) (n : Str) (v : Int) : Prop := ∀ (d : Addr) (H' : Hp), Same H H' → H d = none → H' d = some (.xd (bnf (.str n) (.int v))) → E (.ref C) (some d) H'
theorem Ref.same {E : XK} {C : Addr} {H H1 : Hp} {n : Str} {v : Int} (h : Ref E C H n v) (s : Same H H1) : Ref E C H1 n v := fun d H' s' hd he => h d H' (s.trans s') (s.free hd) he
theorem bn_made {C : Addr} {n : Str} {v : Int} {H : Hp} {Q : XK} (k : Ref Q C H n v) : [V.str n, V.int v].length ≤ 1000 ∧ ∀ a, H a = none → spBN C (.ref a :: ([V.str n, V.int v] ++ [])) (upd H a (exo a C none))
    (fun z H2 => z = .non ∧ ∃ (d : Addr) (fs : List (Str × V)), H2 a = some (exo a C (some d)) ∧ H2 d = some (exd d fs) ∧ H d = none ∧ Q (.ref C) (some d) (upd (del H2 a) d (.xd fs))) (fun _ _ _ => False) := by
  refine ⟨(show 2 ≤ 1000 by decide), fun a ha => ⟨a, .str n, .int v, rfl, upd_same, fun dx hdx hne => ⟨rfl, dx, bnf (.str n) (.int v), ?_, upd_same, ?_, ?_⟩⟩⟩
  · rw [upd_ne (Ne.symm hne), upd_same]
  · rw [upd_ne hne] at hdx
    exact hdx
  · rw [upd_ne hne] at hdx
    refine k dx _ (fun b o e => ?_) hdx upd_same
    have h1 : b ≠ a := ne_of_none e ha
    have h2 : b ≠ dx := ne_of_none e hdx
    rw [upd_ne h2, del_ne h1, upd_ne h2, upd_ne h1, upd_ne h2, upd_ne h1]
    exact e
end Fl

set_option Elab.async false
set_option linter.all false
set_option maxRecDepth 100000
set_option maxHeartbeats 4000000
namespace Fl
/-! ### the sum of the whole parts of (a i + b) / m, i below n -/
def fs (m a b : Nat) : Nat → Nat
  | 0 => 0
  | n + 1 => fs m a b n + (a * n + b) / m
theorem tri_succ (n : Nat) : (n + 1) * n / 2 = n * (n - 1) / 2 + n := by
  cases n with
  | zero => rfl
  | succ k =>
    have e : (k + 1 + 1) * (k + 1) = (k + 1) * (k + 1 - 1) + 2 * (k + 1) := by
      rw [Nat.add_sub_cancel, show k + 1 + 1 = k + 2 from rfl, Nat.add_mul, Nat.mul_comm k (k + 1)]
    rw [e, Nat.add_mul_div_left _ _ (by decide)]
theorem fs_split {m : Nat} (hm : 0 < m) (a b : Nat) : ∀ n : Nat, fs m a b n = n * (n - 1) / 2 * (a / m) + n * (b / m) + fs m (a % m) (b % m) n
  | 0 => by simp [fs]
  | n + 1 => by
    have ih := fs_split hm a b n
    have e : (a * n + b) / m = n * (a / m) + b / m + ((a % m) * n + b % m) / m := by
      have e1 : a * n + b = (a % m * n + b % m) + m * (n * (a / m) + b / m) := by
        have h1 := Nat.mod_add_div a m
        have h2 := Nat.mod_add_div b m
        calc a * n + b = (a % m + m * (a / m)) * n + (b % m + m * (b / m)) := by rw [h1, h2]
          _ = (a % m * n + b % m) + m * (n * (a / m) + b / m) := by
            rw [Nat.add_mul, Nat.mul_add, Nat.mul_assoc, Nat.mul_comm (a / m) n]
            omega
      rw [e1, Nat.add_mul_div_left _ _ hm]
      omega
    show fs m a b n + (a * n + b) / m = (n + 1) * (n + 1 - 1) / 2 * (a / m) + (n + 1) * (b / m) + (fs m (a % m) (b % m) n + (a % m * n + b % m) / m)
    rw [Nat.add_sub_cancel, tri_succ, ih, e, Nat.add_mul, Nat.add_mul]
    omega
theorem fs_up {a m r : Nat} (ha : 0 < a) : ∀ k : Nat, fs a m (r + a) k = fs a m r k + k
  | 0 => rfl
  | k + 1 => by
    have ih := fs_up (m := m) (r := r) ha k
    show fs a m (r + a) k + (m * k + (r + a)) / a = fs a m r k + (m * k + r) / a + (k + 1)
    rw [ih, ← Nat.add_assoc, Nat.add_div_right _ ha]
    omega
theorem fs_shift {a m r : Nat} : ∀ k : Nat, fs a m r (k + 1) = r / a + fs a m (r + m) k
  | 0 => by
    show 0 + (m * 0 + r) / a = r / a + 0
    rw [Nat.mul_zero, Nat.zero_add, Nat.zero_add, Nat.add_zero]
  | k + 1 => by
    have ih := fs_shift (a := a) (m := m) (r := r) k
    show fs a m r (k + 1) + (m * (k + 1) + r) / a = r / a + (fs a m (r + m) k + (m * k + (r + m)) / a)
    rw [ih, Nat.mul_add, Nat.mul_one, Nat.add_assoc (m * k), Nat.add_comm m r]
    omega
theorem fs_swap {m a b : Nat} (ham : a < m) (hbm : b < m) (ha : 0 < a) : ∀ n : Nat, fs m a b n = fs a m ((a * n + b) % m) ((a * n + b) / m)
  | 0 => by
    have e : (a * 0 + b) / m = 0 := by
      rw [Nat.mul_zero, Nat.zero_add]
      exact Nat.div_eq_of_lt hbm
    rw [e]
    rfl
  | n + 1 => by
    have hm : 0 < m := by omega
    have ih := fs_swap ham hbm ha n
    show fs m a b n + (a * n + b) / m = _
    rw [ih]
    have hr := Nat.mod_lt (a * n + b) hm
    have hd := Nat.mod_add_div (a * n + b) m
    generalize hR : (a * n + b) % m = r at *
    generalize hK : (a * n + b) / m = K at *
    have e : a * (n + 1) + b = m * K + (r + a) := by
      rw [Nat.mul_add, Nat.mul_one]
      omega
    rw [e, Nat.mul_add_mod, Nat.mul_add_div hm]
    by_cases hc : r + a < m
    · rw [Nat.mod_eq_of_lt hc, Nat.div_eq_of_lt hc, Nat.add_zero, fs_up ha]
    · have h1 : (r + a) / m = 1 := by
        rw [Nat.div_eq_sub_div hm (by omega), Nat.div_eq_of_lt (by omega)]
      have h2 : (r + a) % m = r + a - m := by
        rw [Nat.mod_eq_sub_mod (by omega), Nat.mod_eq_of_lt (by omega)]
      rw [h1, h2, fs_shift, Nat.div_eq_of_lt (by omega : r + a - m < a), show r + a - m + m = r + a by omega, fs_up ha]
      omega
theorem fs_zero {m b : Nat} (hbm : b < m) : ∀ n : Nat, fs m 0 b n = 0
  | 0 => rfl
  | n + 1 => by
    show fs m 0 b n + (0 * n + b) / m = 0
    rw [fs_zero hbm n, Nat.zero_mul, Nat.zero_add, Nat.zero_add, Nat.div_eq_of_lt hbm]
/-- one turn of Euclid's rule -/
theorem fs_turn {m : Nat} (hm : 0 < m) (a b n : Nat) : fs m a b n = n * (n - 1) / 2 * (a / m) + n * (b / m) + fs (a % m) m ((a % m * n + b % m) % m) ((a % m * n + b % m) / m) := by
  rw [fs_split hm]
  have h1 := Nat.mod_lt a hm
  have h2 := Nat.mod_lt b hm
  by_cases h0 : a % m = 0
  · rw [h0, Nat.zero_mul, Nat.zero_add, fs_zero h2, Nat.div_eq_of_lt h2]
    rfl
  · rw [fs_swap h1 h2 (by omega)]
theorem fs_tot {n m a b tot : Nat} (hn : 0 < n) : (tot : Int) + (n : Int) * ((n : Int) - 1) / 2 * ((a : Int) / (m : Int)) + (n : Int) * ((b : Int) / (m : Int)) = ((tot + n * (n - 1) / 2 * (a / m) + n * (b / m) : Nat) : Int) := by
  have e : (n : Int) - 1 = ((n - 1 : Nat) : Int) := by omega
  rw [e]
  simp only [Int.natCast_add, Int.natCast_mul, Int.natCast_ediv]
  rfl
theorem fs_many_le {n m a b : Nat} (hm : 0 < m) (hn : 0 < n) : (a % m * n + b % m) / m ≤ n := by
  have h1 := Nat.mod_lt a hm
  have h2 := Nat.mod_lt b hm
  have h3 : a % m * n ≤ (m - 1) * n := Nat.mul_le_mul_right n (by omega)
  have h4 : (m - 1) * n = m * n - n := by rw [Nat.sub_mul, Nat.one_mul]
  have h5 : n ≤ m * n := Nat.le_mul_of_pos_left n hm
  refine Nat.le_of_lt_succ (Nat.div_lt_of_lt_mul ?_)
  rw [Nat.mul_succ]
  omega
end Fl

set_option Elab.async false
set_option linter.all false
set_option maxRecDepth 100000
set_option maxHeartbeats 4000000
namespace Bx
open PySem PySem.Spec PyProof.Rows L2 Fl
theorem int_add_own (a : Int) (t : Tok) (x C dx : Addr) : Meets (Builtin.«int.__add__» ⟨[.int a t, .ref x], []⟩) (fun _ R s => s.heap.get? x = some (PySem.W.instObj C dx) ∧ R (.ok (.ret Value.notImplemented)) s) :=
  .of_wp fun prog w A R s h => by obtain ⟨hp, g, d, tk, os⟩ := s; obtain ⟨hl, h⟩ := h; unfold PySem.W.instObj at hl; wp_walk; exact ⟨_, rfl, h⟩
theorem int_sub_own (a : Int) (t : Tok) (x C dx : Addr) : Meets (Builtin.«int.__sub__» ⟨[.int a t, .ref x], []⟩) (fun _ R s => s.heap.get? x = some (PySem.W.instObj C dx) ∧ R (.ok (.ret Value.notImplemented)) s) :=
  .of_wp fun prog w A R s h => by obtain ⟨hp, g, d, tk, os⟩ := s; obtain ⟨hl, h⟩ := h; unfold PySem.W.instObj at hl; wp_walk; exact ⟨_, rfl, h⟩
theorem int_mul_own (a : Int) (t : Tok) (x C dx : Addr) : Meets (Builtin.«int.__mul__» ⟨[.int a t, .ref x], []⟩) (fun _ R s => s.heap.get? x = some (PySem.W.instObj C dx) ∧ R (.ok (.ret Value.notImplemented)) s) :=
  .of_wp fun prog w A R s h => by obtain ⟨hp, g, d, tk, os⟩ := s; obtain ⟨hl, h⟩ := h; unfold PySem.W.instObj at hl; wp_walk; exact ⟨_, rfl, h⟩
section
open PySem.W PySem.Calls
variable {prog : Program} {w : World} {A : Around} {E : Value → Shared → Prop} {s : Shared} {K : Frag} {x C L f g dx : Addr} {h₀ : Heap} {m : Str → Option Value} {od : Option Obj}
theorem bin_refl {op : Operator} {n : Int} {t : Tok} {id : String} {B : Builtin} {Q : Value → Shared → Prop} (F : Fr h₀ L s.heap m) (X₀ : K.In h₀) (I : PySem.W.InstAt s.heap x (PySem.W.instObj C dx) C od) (hc : selfFirst K C = true)
    (hs : findIn K (.ref C) (PySem.dunder op.info.2) = some (some (.ref f))) (hr : findIn K (.ref C) (dunderR op.info.2) = some (some (.ref g))) (hg : isFn K (.ref g) = true)
    (hsub : subIn K (.ref C) (.type "int") = some false) (fills : fillsNumberSlot (.type "int") op.info.2 = pure true) (slot : Slot "int" (PySem.dunder op.info.2) id) (entry : entryFor table id = some B) (args : argsOk id ⟨[.int n t, .ref x], []⟩)
    (mt : Meets (B ⟨[.int n t, .ref x], []⟩) (fun _ R s => s.heap.get? x = some (PySem.W.instObj C dx) ∧ R (.ok (.ret Value.notImplemented)) s))
    (h : wpAny (model prog w) A (call (.ref g) [.ref x, .int n t]) (PySem.W.CmpBack Q) E s) : wpAny (model prog w) A (binaryOp op (.int n t) (.ref x)) Q E s := by
  have X := X₀.keeps F.keep
  obtain ⟨cd, rest, hcd, hm⟩ := ksp_first hc
  rcases hi : op.info with ⟨sym, nm'⟩
  rw [hi] at hs hr fills slot
  dsimp only at hs hr fills slot
  have one := ksp_try X I hr hg h
  simp only [binaryOp, hi]
  refine wpAny_holding (wpAny_bind ?_)
  simp only [binaryOp1]
  refine wpAny_bind (wpAny_typeOf (typeIs_int s n t) (wpAny_bind (I.type.here (wpAny_bind (wpAny_of_eq fills ?_)))))
  have hne : (Value.type "int" == Value.ref C) = false := Bool.eq_false_iff.mpr fun q => by cases beq_iff_eq.mp q
  simp only [hne, Bool.false_eq_true, if_false]
  refine wpAny_bind ((fills_K X hcd hm hs).here ?_)
  simp only [Bool.and_self, if_true]
  refine wpAny_bind ((looks_subIn X hsub).here ?_)
  have hpy : numberSlotInPython (.type "int") nm' = pure false := rfl
  simp only [Bool.false_eq_true, if_false, pure_bind, Bool.not_false, Bool.and_self, if_true, hpy]
  refine wpAny_bind (wpAny_tryMethod_declines (typeIs_int s n t) slot (call_meets slot (typeIs_int s n t) entry args mt ⟨I.at_, ?_⟩))
  refine ⟨rfl, ?_⟩
  refine wpAny_bind (wpAny_mono one (fun r s' hr' => ?_) fun _ _ e => e)
  obtain ⟨v, rfl, hq⟩ := hr'
  exact wpAny_bind (wpAny_rule (wpAny_pure (wpAny_pure hq)))
end

section
open PySem.W PySem.Calls
variable {prog : Program} {w : World} {A : Around} {E : Value → Shared → Prop} {s : Shared} {K : Frag} {x C f : Addr} {ox : Obj} {od : Option Obj}
theorem call_abs_own {Q : Value → Shared → Prop} (X : K.In s.heap) (I : PySem.W.InstAt s.heap x ox C od) (hs : findIn K (.ref C) "__abs__" = some (some (.ref f))) (hf : isFn K (.ref f) = true)
    (h : wpAny (model prog w) A.in1 (call (.ref f) [.ref x]) Q E s) : wpAny (model prog w) A (call (.builtin "abs") [.ref x]) Q E s := by
  refine call_function_entry kind_abs plain_abs entry_abs (args_abs _) ?_
  unfold Builtin.«abs»
  refine wpAny_bind (wpAny_pure ?_)
  refine wpAny_bind (m := callSpecial? (.ref x) (Str.ofString "__abs__")) (special_fn X I hs (beq_iff_eq.mp hf) (wpAny_mono h (fun v s' hv => ?_) fun _ _ z => ?_))
  · exact wpAny_pure ⟨_, rfl, hv⟩
  · exact z
end
section
/-- the def that an operator's special name of the class C finds -/
structure OpOwn (P : Program) (w : World) (K : PySem.W.Frag) (mg : Str → Option Value) (base : Heap) (k : Nat) (C : Addr) (nm : Str) (ps : List Str) (sp : Sp) : Prop where
  ex : ∃ (f : Addr) (fd : FuncData), PySem.W.findIn K (.ref C) nm = some (some (.ref f)) ∧ PySem.W.isFn K (.ref f) = true ∧ FnOk P w K mg base CX0 k f fd ps sp ∧ Binds K fd ps []
def oR (Q : VK) : VK := fun v H2 => ∃ z, v = .ref z ∧ Q (.ref z) H2
def rOO (C : Addr) (sp : Sp) : R2 := fun x y H Q => ∃ (a dx : Addr) (gs : List (Str × V)) (b dy : Addr) (hs : List (Str × V)), x = .ref a ∧ H a = some (.ins C dx gs) ∧ y = .ref b ∧ H b = some (.ins C dy hs) ∧ sp [.ref a, .ref b] H (oR Q) E0
def rOI (C : Addr) (sp : Sp) : R2 := fun x y H Q => ∃ (a dx : Addr) (gs : List (Str × V)) (n : Int), x = .ref a ∧ H a = some (.ins C dx gs) ∧ y = .int n ∧ sp [.ref a, .int n] H (oR Q) E0
def rIO (C : Addr) (sp : Sp) : R2 := fun x y H Q => ∃ (a dx : Addr) (gs : List (Str × V)) (n : Int), y = .ref a ∧ H a = some (.ins C dx gs) ∧ x = .int n ∧ sp [.ref a, .int n] H (oR Q) E0
variable {X : Cx} {k : Nat} {C : Addr} {ps : List Str} {sp : Sp} {op : Operator}
theorem op_oo (M : OpOwn X.prog X.w X.K X.mg X.base k C (PySem.dunder op.info.2) ps sp) (hc : PySem.W.selfFirst X.K C = true) (hr : Room k X.A) : OpR X (binaryOp op) (rOO C sp) := by
  obtain ⟨f, fd, hs, hf, F, b⟩ := M.ex
  intro pins s σ H x y v u Q I rx ry h
  obtain ⟨a, dx, gs, b', dy, gs', rfl, ea, rfl, eb, q⟩ := h
  cases rx
  cases ry
  obtain ⟨mA, J, _⟩ := ins_get I.hok ea
  obtain ⟨od, J, _⟩ := J.look
  obtain ⟨mB, J', _⟩ := ins_get I.hok eb
  obtain ⟨od', J', _⟩ := J'.look
  obtain ⟨m, hF⟩ := I.fr
  refine PySem.W.binop_K hF I.ok.mod.kin J J'.type hc hs hf (wpAny_mono (run_fn F hr b (dvs := []) .nil pass0 I (.cons (show RelV (.ref a) (.ref a) from rfl) (.cons (show RelV (.ref b') (.ref b') from rfl) .nil)) q) (fun r s' hr => ?_) fun _ _ z => z)
  obtain ⟨z, H2, I2, rz, c, rfl, q2⟩ := hr
  cases rz
  exact ⟨V.ref c, H2, I2, rfl, q2⟩
theorem op_oi {rc : Option Value} {fo ro : Option Value} (M : OpOwn X.prog X.w X.K X.mg X.base k C (PySem.dunder op.info.2) ps sp) (hc : PySem.W.selfFirst X.K C = true) (hR : PySem.W.findIn X.K (.ref C) (dunderR op.info.2) = some rc) (hp : rc = none ∨ ∃ g : Addr, rc = some (.ref g))
    (h1 : PySem.W.findIn X.K (.type "int") (PySem.dunder op.info.2) = some fo) (h2 : PySem.W.findIn X.K (.type "int") (dunderR op.info.2) = some ro) (hsub : PySem.W.subIn X.K (.type "int") (.ref C) = some false) (hr : Room k X.A) : OpR X (binaryOp op) (rOI C sp) := by
  obtain ⟨f, fd, hs, hf, F, b⟩ := M.ex
  intro pins s σ H x y v u Q I rx ry h
  obtain ⟨a, dx, gs, n, rfl, ea, rfl, q⟩ := h
  cases rx
  obtain ⟨t, rfl⟩ := ry
  obtain ⟨mA, J, _⟩ := ins_get I.hok ea
  obtain ⟨od, J, _⟩ := J.look
  obtain ⟨m, hF⟩ := I.fr
  refine PySem.W.ksp_binT hF I.ok.mod.kin J (T := "int") rfl hc hs hf hR hp h1 h2 hsub (wpAny_mono (run_fn F hr b (dvs := []) .nil pass0 I (.cons (show RelV (.ref a) (.ref a) from rfl) (.cons (show RelV (.int n) (.int n t) from ⟨_, rfl⟩) .nil)) q) (fun r s' hr => ?_) fun _ _ z => z)
  obtain ⟨z, H2, I2, rz, c, rfl, q2⟩ := hr
  cases rz
  exact ⟨V.ref c, H2, I2, rfl, q2⟩
theorem op_io {f0 : Addr} {id : String} {B : Builtin} (M : OpOwn X.prog X.w X.K X.mg X.base k C (dunderR op.info.2) ps sp) (hc : PySem.W.selfFirst X.K C = true) (hs0 : PySem.W.findIn X.K (.ref C) (PySem.dunder op.info.2) = some (some (.ref f0))) (hsub : PySem.W.subIn X.K (.ref C) (.type "int") = some false)
    (fills : fillsNumberSlot (.type "int") op.info.2 = pure true) (slot : Slot "int" (PySem.dunder op.info.2) id) (entry : entryFor table id = some B) (args : ∀ a b, argsOk id ⟨[a, b], []⟩)
    (mt : ∀ (n : Int) (t : Tok) (x C dx : Addr), Meets (B ⟨[.int n t, .ref x], []⟩) (fun _ R s => s.heap.get? x = some (PySem.W.instObj C dx) ∧ R (.ok (.ret Value.notImplemented)) s)) (hr : Room k X.A) : OpR X (binaryOp op) (rIO C sp) := by
  obtain ⟨f, fd, hs, hf, F, b⟩ := M.ex
  intro pins s σ H x y v u Q I rx ry h
  obtain ⟨a, dx, gs, n, rfl, ea, rfl, q⟩ := h
  cases ry
  obtain ⟨t, rfl⟩ := rx
  obtain ⟨mA, J, _⟩ := ins_get I.hok ea
  obtain ⟨od, J, _⟩ := J.look
  obtain ⟨m, hF⟩ := I.fr
  refine bin_refl hF I.ok.mod.kin J hc hs0 hs hf hsub fills slot entry (args _ _) (mt n t a C dx) (wpAny_mono (run_fn F hr b (dvs := []) .nil pass0 I (.cons (show RelV (.ref a) (.ref a) from rfl) (.cons (show RelV (.int n) (.int n t) from ⟨_, rfl⟩) .nil)) q) (fun r s' hr => ?_) fun _ _ z => z)
  obtain ⟨z, H2, I2, rz, c, rfl, q2⟩ := hr
  cases rz
  exact ⟨V.ref c, H2, I2, rfl, q2⟩
def rNegO (C : Addr) (sp : Sp) : V → Hp → VK → Prop := fun x H Q => ∃ (a dx : Addr) (gs : List (Str × V)), x = .ref a ∧ H a = some (.ins C dx gs) ∧ sp [.ref a] H Q E0
theorem un_negO (M : OpOwn X.prog X.w X.K X.mg X.base k C "__neg__" ps sp) (hr : Room k X.A) : UnR X (unaryOp .USub) (rNegO C sp) := by
  obtain ⟨f, fd, hs, hf, F, b⟩ := M.ex
  intro pins s σ H x v Q I rx h
  obtain ⟨a, dx, gs, rfl, ea, q⟩ := h
  cases rx
  obtain ⟨mA, J, _⟩ := ins_get I.hok ea
  obtain ⟨od, J, _⟩ := J.look
  obtain ⟨m, hF⟩ := I.fr
  exact PySem.W.ksp_neg hF I.ok.mod.kin J hs hf (run_fn F hr b (dvs := []) .nil pass0 I (.cons (show RelV (.ref a) (.ref a) from rfl) .nil) q)
def rAbsO (C : Addr) (sp : Sp) : List V → Hp → VK → Prop := fun xs H Q => ∃ (a dx : Addr) (gs : List (Str × V)), xs = [.ref a] ∧ H a = some (.ins C dx gs) ∧ sp [.ref a] H Q E0
theorem call_absO (M : OpOwn X.prog X.w X.K X.mg X.base k C "__abs__" ps sp) (hr : Room (k + 1) X.A) : CallR X (.builtin "abs") (rAbsO C sp) := by
  obtain ⟨f, fd, hs, hf, F, b⟩ := M.ex
  intro pins s σ H xs us Q I r h
  obtain ⟨a, dx, gs, rfl, ea, q⟩ := h
  obtain ⟨u, rfl, rx⟩ := vals1 r
  cases rx
  obtain ⟨mA, J, _⟩ := ins_get I.hok ea
  obtain ⟨od, J, _⟩ := J.look
  have hl := F.len _ _ _ _ q
  have r2 : Vals [V.ref a] [Value.ref a] := .cons (show RelV (.ref a) (.ref a) from rfl) .nil
  have bb := b s [.ref a] I.kIn (by simpa using hl)
  rw [List.append_nil] at bb
  refine call_abs_own I.kIn J hs hf (wpAny_call (codeAny_mono (F.run X.A.in1 X.stack s H ⟨[.ref a], []⟩ [.ref a] [.ref a] Q E0 hr.in1 I.env0.in1 bb r2 q) fun r s' hq => ?_))
  cases r with
  | error e => exact (pass0 pins σ H s e s' I hq)
  | ok fl =>
    cases fl with
    | ret z => exact I.after hq
    | next => exact False.elim hq
    | brk => exact False.elim hq
    | cont => exact False.elim hq
end
end Bx

set_option Elab.async false
set_option linter.all false
set_option maxRecDepth 100000
set_option maxHeartbeats 4000000
namespace Bx
open PySem PySem.Spec PyProof.Rows L2 Fl
section
/-- a def of the class that may raise what its spec says -/
structure OwnX (P : Program) (w : World) (K : PySem.W.Frag) (mg : Str → Option Value) (base : Heap) (k : Nat) (C : Addr) (nm : Str) (ps : List Str) (sp : Sp) : Prop where
  ex : ∃ (f : Addr) (fd : FuncData), PySem.W.findIn K (.ref C) nm = some (some (.ref f)) ∧ PySem.W.isFn K (.ref f) = true ∧ PySem.W.keepIn K (.ref f) = true ∧ FnOk P w K mg base (L2.CX P w) k f fd ps sp ∧ Binds K fd ps []
variable {X : Cx} {k : Nat} {C : Addr} {ps : List Str} {sp : Sp} {op : Operator} {E : L2.St → XK}
def tMethX (C : Addr) (m : Str) (sp : Sp) (E : L2.St → XK) (ta : TE) (t : TA) : TE := fun σ H Q => ta σ H fun x H1 => ∃ a dx fs, x = .ref a ∧ H1 a = some (.ins C dx fs) ∧ fs.lookup m = none ∧ t σ H1 fun vs H2 => sp (x :: vs) H2 Q (E σ)
theorem pe_methX {pl : Sem Bool} {m : Str} {o e : Expr} {es : List Expr} {apos pos : Pos} {ta : TE} {t : TA} (M : OwnX X.prog X.w X.K X.mg X.base k C m ps sp) (c : Cls X.K C) (hx : ∀ σ, PassesAt (L2.CX X.prog X.w) X σ (E σ)) (hr : Room k X.A) (he : PE X o ta) (ha : PA X (e :: es) t)
    (hst : starEach (e :: es) X.env = (false, eval e X.env) :: starEach es X.env := by rfl) (hpl : (backTo pos (starEach es X.env)).any (·.1) = false := by rfl)
    (ht : eval (.Call (.Attribute o m apos) (e :: es) [] pos) X.env = (do
      let ov ← eval o X.env
      standAt apos.atName
      let (f, first) ← holding [ov] (getMethod ov m pl)
      callWith pos f first (backTo pos (starEach (e :: es) X.env)) (backToKw pos (keywordEach [] X.env))) := by rfl) :
    PE X (.Call (.Attribute o m apos) (e :: es) [] pos) (tMethX C m sp E ta t) := by
  obtain ⟨f, fd, h1, h2, h3, F, b⟩ := M.ex
  refine ⟨fun pins s σ H Q I h => ?_⟩
  refine PySem.W.methodCall_KW (pl := pl) (thn (he.run pins s σ H _ I h) fun u s1 ⟨x, H1, I1, rx, a, dx, fs, ex, ea, l, q⟩ => ?_) ht
  subst ex
  obtain rfl : u = Value.ref a := rx
  refine getmeth_ok I1 ea c ⟨h1, h2, h3⟩ l ?_
  refine PySem.W.callWith_K (first := [.ref a]) (h₀ := X.base) I.ok.mod.kin h3 (thn (ha.run pos pins s1 σ H1 _ I1 q) fun us s2 ⟨vs, H2, I2, r, q2⟩ => ⟨I2.kIn, ?_⟩) hst hpl
  exact run_fnS (us := .ref a :: us) (vs := .ref a :: vs) (E := E) F hr b (hx σ) I2 (.cons rfl r) q2
/-- what comes back: a reference or a whole number -/
def oA (Q : VK) : VK := fun v H2 => ((∃ z, v = .ref z) ∨ ∃ i, v = .int i) ∧ Q v H2
def rOwnX (C : Addr) (sp : Sp) (E : L2.St → XK) : L2.St → R2 := fun σ x y H Q => ∃ (a dx : Addr) (gs : List (Str × V)), x = .ref a ∧ H a = some (.ins C dx gs) ∧ ((∃ (b dy : Addr) (hs : List (Str × V)), y = .ref b ∧ H b = some (.ins C dy hs)) ∨ ∃ n : Int, y = .int n) ∧ sp [x, y] H (oA Q) (E σ)
def tOpS (R : L2.St → R2) (ta tb : TE) : TE := fun σ H Q => ta σ H fun x H1 => tb σ H1 fun y H2 => R σ x y H2 Q
theorem back {pins : List (Addr × Obj)} {σ : L2.St} {Q : VK} {r : Value} {s' : Shared} (h : EP X pins σ (oA Q) r s') : PySem.W.CmpBack (EP X pins σ Q) r s' := by
  obtain ⟨z, H2, I2, rz, c, q2⟩ := h
  rcases c with ⟨c, rfl⟩ | ⟨i, rfl⟩
  · cases rz
    exact ⟨V.ref c, H2, I2, rfl, q2⟩
  · obtain ⟨t, rfl⟩ := rz
    exact ⟨V.int i, H2, I2, ⟨t, rfl⟩, q2⟩
theorem pe_ownX {rc fo ro : Option Value} {a b : Expr} {ta tb : TE} {pos : Pos} (M : OwnX X.prog X.w X.K X.mg X.base k C (PySem.dunder op.info.2) ps sp) (hx : ∀ σ, PassesAt (L2.CX X.prog X.w) X σ (E σ)) (hc : PySem.W.selfFirst X.K C = true)
    (hR : PySem.W.findIn X.K (.ref C) (dunderR op.info.2) = some rc) (hp : rc = none ∨ ∃ g : Addr, rc = some (.ref g)) (h1 : PySem.W.findIn X.K (.type "int") (PySem.dunder op.info.2) = some fo) (h2 : PySem.W.findIn X.K (.type "int") (dunderR op.info.2) = some ro)
    (hsub : PySem.W.subIn X.K (.type "int") (.ref C) = some false) (hr : Room k X.A) (ha : PE X a ta) (hb : PE X b tb) : PE X (.BinOp a op b pos) (tOpS (rOwnX C sp E) ta tb) := by
  obtain ⟨f, fd, hs, hf, hk, F, bd⟩ := M.ex
  refine ⟨fun pins s σ H Q I h => ?_⟩
  refine wpAny_BinOp (binT ha hb I h fun v u s2 x y H2 I2 rx ry q => ?_)
  obtain ⟨a', dx, gs, rfl, ea, hy, q⟩ := q
  cases rx
  obtain ⟨mA, J, _⟩ := ins_get I2.hok ea
  obtain ⟨od, J, _⟩ := J.look
  obtain ⟨m, hF⟩ := I2.fr
  have run := run_fnS (E := E) F hr bd (hx σ) I2 (.cons (show RelV (.ref a') (.ref a') from rfl) (.cons ry .nil)) q
  rcases hy with ⟨b', dy, gs', rfl, eb⟩ | ⟨n, rfl⟩
  · cases ry
    obtain ⟨mB, J', _⟩ := ins_get I2.hok eb
    obtain ⟨od', J', _⟩ := J'.look
    exact PySem.W.binop_K hF I2.ok.mod.kin J J'.type hc hs hf (wpAny_mono run (fun r s' hr => back hr) fun _ _ z => z)
  · obtain ⟨t, rfl⟩ := ry
    exact PySem.W.ksp_binT hF I2.ok.mod.kin J (T := "int") rfl hc hs hf hR hp h1 h2 hsub (wpAny_mono run (fun r s' hr => back hr) fun _ _ z => z)
theorem op_or {f : Value → Value → Sem Value} {r1 r2 : R2} (h1 : OpR X f r1) (h2 : OpR X f r2) : OpR X f (fun x y H Q => r1 x y H Q ∨ r2 x y H Q) := fun pins s σ H x y v u Q I rx ry h => h.elim (h1 pins s σ H x y v u Q I rx ry) (h2 pins s σ H x y v u Q I rx ry)
end
end Bx

set_option Elab.async false
set_option linter.all false
set_option maxRecDepth 100000
set_option maxHeartbeats 4000000
namespace Bx
open PySem PySem.Spec PyProof.Rows L2 Fl
theorem int_lt_own (a : Int) (t : Tok) (x C dx : Addr) : Meets (Builtin.«int.__lt__» ⟨[.int a t, .ref x], []⟩) (fun _ R s => s.heap.get? x = some (PySem.W.instObj C dx) ∧ R (.ok (.ret Value.notImplemented)) s) :=
  .of_wp fun prog w A R s h => by obtain ⟨hp, g, d, tk, os⟩ := s; obtain ⟨hl, h⟩ := h; unfold PySem.W.instObj at hl; wp_walk; exact ⟨_, rfl, h⟩
theorem int_le_own (a : Int) (t : Tok) (x C dx : Addr) : Meets (Builtin.«int.__le__» ⟨[.int a t, .ref x], []⟩) (fun _ R s => s.heap.get? x = some (PySem.W.instObj C dx) ∧ R (.ok (.ret Value.notImplemented)) s) :=
  .of_wp fun prog w A R s h => by obtain ⟨hp, g, d, tk, os⟩ := s; obtain ⟨hl, h⟩ := h; unfold PySem.W.instObj at hl; wp_walk; exact ⟨_, rfl, h⟩
theorem int_gt_own (a : Int) (t : Tok) (x C dx : Addr) : Meets (Builtin.«int.__gt__» ⟨[.int a t, .ref x], []⟩) (fun _ R s => s.heap.get? x = some (PySem.W.instObj C dx) ∧ R (.ok (.ret Value.notImplemented)) s) :=
  .of_wp fun prog w A R s h => by obtain ⟨hp, g, d, tk, os⟩ := s; obtain ⟨hl, h⟩ := h; unfold PySem.W.instObj at hl; wp_walk; exact ⟨_, rfl, h⟩
theorem int_ge_own (a : Int) (t : Tok) (x C dx : Addr) : Meets (Builtin.«int.__ge__» ⟨[.int a t, .ref x], []⟩) (fun _ R s => s.heap.get? x = some (PySem.W.instObj C dx) ∧ R (.ok (.ret Value.notImplemented)) s) :=
  .of_wp fun prog w A R s h => by obtain ⟨hp, g, d, tk, os⟩ := s; obtain ⟨hl, h⟩ := h; unfold PySem.W.instObj at hl; wp_walk; exact ⟨_, rfl, h⟩
theorem int_eq_own (a : Int) (t : Tok) (x C dx : Addr) : Meets (Builtin.«int.__eq__» ⟨[.int a t, .ref x], []⟩) (fun _ R s => s.heap.get? x = some (PySem.W.instObj C dx) ∧ R (.ok (.ret Value.notImplemented)) s) :=
  .of_wp fun prog w A R s h => by obtain ⟨hp, g, d, tk, os⟩ := s; obtain ⟨hl, h⟩ := h; unfold PySem.W.instObj at hl; wp_walk; exact ⟨_, rfl, h⟩
theorem int_ne_own (a : Int) (t : Tok) (x C dx : Addr) : Meets (Builtin.«int.__ne__» ⟨[.int a t, .ref x], []⟩) (fun _ R s => s.heap.get? x = some (PySem.W.instObj C dx) ∧ R (.ok (.ret Value.notImplemented)) s) :=
  .of_wp fun prog w A R s h => by obtain ⟨hp, g, d, tk, os⟩ := s; obtain ⟨hl, h⟩ := h; unfold PySem.W.instObj at hl; wp_walk; exact ⟨_, rfl, h⟩
section
open PySem.W PySem.Calls
variable {prog : Program} {w : World} {A : Around} {E : Value → Shared → Prop} {s : Shared} {K : Frag} {x C L f g dx : Addr} {h₀ : Heap} {m : Str → Option Value} {od : Option Obj}
theorem cmp_refl {op : CmpOp} {n : Int} {t : Tok} {id : String} {B : Builtin} {Q : Value → Shared → Prop} (hu : A.units < cLine) (F : Fr h₀ L s.heap m) (X₀ : K.In h₀) (I : PySem.W.InstAt s.heap x (PySem.W.instObj C dx) C od)
    (hr : findIn K (.ref C) (cmpInfo op).2.2 = some (some (.ref g))) (hg : isFn K (.ref g) = true)
    (hsub : subIn K (.ref C) (.type "int") = some false) (slot : Slot "int" (cmpInfo op).2.1 id) (entry : entryFor table id = some B) (args : argsOk id ⟨[.int n t, .ref x], []⟩)
    (mt : Meets (B ⟨[.int n t, .ref x], []⟩) (fun _ R s => s.heap.get? x = some (PySem.W.instObj C dx) ∧ R (.ok (.ret Value.notImplemented)) s))
    (h : wpAny (model prog w) A (call (.ref g) [.ref x, .int n t]) (PySem.W.CmpBack Q) E s) : wpAny (model prog w) A (richCompare op (.int n t) (.ref x)) Q E s := by
  have X := X₀.keeps F.keep
  have one : wpAny (model prog w) A (tryCompare (.ref x) (cmpInfo op).2.2 (.int n t)) (fun r s' => ∃ v, r = some v ∧ Q v s') E s := by
    unfold tryCompare
    refine wpAny_bind (ifBound_K X I hr hg (wpAny_mono h (fun v s' hv => ?_) fun _ _ e => e))
    cases v <;> first | exact hv.elim | exact wpAny_pure ⟨_, rfl, hv⟩
  have ot : oneThing? op (.int n t) (.ref x) = none := rfl
  unfold richCompare
  simp only [ot]
  refine wpAny_holding (wpAny_bind (wpAny_cRoomFor hu ?_))
  refine wpAny_bind (wpAny_typeOf (typeIs_int s n t) (wpAny_bind (I.type.here ?_)))
  have hne : (Value.type "int" != Value.ref C) = true := by
    rw [bne_iff_ne]
    intro q
    cases q
  simp only [hne, if_true]
  refine wpAny_bind ((looks_subIn X hsub).here ?_)
  simp only [Bool.false_eq_true, if_false, Bool.not_false, if_true]
  refine wpAny_bind (wpAny_tryCompare_declines (typeIs_int s n t) slot (call_meets slot (typeIs_int s n t) entry args mt ⟨I.at_, ?_⟩))
  refine ⟨rfl, ?_⟩
  refine wpAny_bind (wpAny_mono one (fun r s' hr' => ?_) fun _ _ e => e)
  obtain ⟨v, rfl, hq⟩ := hr'
  exact wpAny_pure hq
end
section
variable {X : Cx} {k : Nat} {C : Addr} {ps : List Str} {sp : Sp} {op : CmpOp}
def oB (Q : VK) : VK := fun v H2 => ∃ b, v = .bl b ∧ Q (.bl b) H2
/-- own op y: y of the same class -/
def cOO (C : Addr) (sp : Sp) : R2 := fun x y H Q => ∃ (a dx : Addr) (gs : List (Str × V)) (b dy : Addr) (hs : List (Str × V)), x = .ref a ∧ H a = some (.ins C dx gs) ∧ y = .ref b ∧ H b = some (.ins C dy hs) ∧ sp [.ref a, .ref b] H (oB Q) E0
def cOI (C : Addr) (sp : Sp) : R2 := fun x y H Q => ∃ (a dx : Addr) (gs : List (Str × V)) (n : Int), x = .ref a ∧ H a = some (.ins C dx gs) ∧ y = .int n ∧ sp [.ref a, .int n] H (oB Q) E0
def cIO (C : Addr) (sp : Sp) : R2 := fun x y H Q => ∃ (a dx : Addr) (gs : List (Str × V)) (n : Int), y = .ref a ∧ H a = some (.ins C dx gs) ∧ x = .int n ∧ sp [.ref a, .int n] H (oB Q) E0
theorem backB {pins : List (Addr × Obj)} {σ : L2.St} {Q : VK} {r : Value} {s' : Shared} (h : EP X pins σ (oB Q) r s') : PySem.W.CmpBack (EP X pins σ Q) r s' := by
  obtain ⟨z, H2, I2, rz, c, rfl, q2⟩ := h
  cases rz
  exact ⟨V.bl c, H2, I2, rfl, q2⟩
theorem cmp_oo (hop : ∀ a b, compareOp op a b = richCompare op a b) (M : OpOwn X.prog X.w X.K X.mg X.base k C (cmpInfo op).2.1 ps sp) (hu : X.A.units < cLine) (hr : Room k X.A) : OpR X (compareOp op) (cOO C sp) := by
  obtain ⟨f, fd, hs, hf, F, b⟩ := M.ex
  intro pins s σ H x y v u Q I rx ry h
  obtain ⟨a, dx, gs, b', dy, gs', rfl, ea, rfl, eb, q⟩ := h
  cases rx
  cases ry
  obtain ⟨mA, J, _⟩ := ins_get I.hok ea
  obtain ⟨od, J, _⟩ := J.look
  obtain ⟨mB, J', _⟩ := ins_get I.hok eb
  obtain ⟨od', J', _⟩ := J'.look
  obtain ⟨m, hF⟩ := I.fr
  rw [hop]
  refine PySem.W.cmp_K hu hF I.ok.mod.kin J J'.type (by unfold PySem.W.notFirst; simp) hs hf (wpAny_mono (run_fn F hr b (dvs := []) .nil pass0 I (.cons (show RelV (.ref a) (.ref a) from rfl) (.cons (show RelV (.ref b') (.ref b') from rfl) .nil)) q) (fun r s' hr => backB hr) fun _ _ z => z)
theorem cmp_oi (hop : ∀ a b, compareOp op a b = richCompare op a b) (M : OpOwn X.prog X.w X.K X.mg X.base k C (cmpInfo op).2.1 ps sp) (hsub : PySem.W.subIn X.K (.type "int") (.ref C) = some false) (hu : X.A.units < cLine) (hr : Room k X.A) : OpR X (compareOp op) (cOI C sp) := by
  obtain ⟨f, fd, hs, hf, F, b⟩ := M.ex
  intro pins s σ H x y v u Q I rx ry h
  obtain ⟨a, dx, gs, n, rfl, ea, rfl, q⟩ := h
  cases rx
  obtain ⟨t, rfl⟩ := ry
  obtain ⟨mA, J, _⟩ := ins_get I.hok ea
  obtain ⟨od, J, _⟩ := J.look
  obtain ⟨m, hF⟩ := I.fr
  rw [hop]
  refine PySem.W.cmp_K (tb := .type "int") hu hF I.ok.mod.kin J (PySem.W.Looks.of_pure rfl) (by unfold PySem.W.notFirst; rw [hsub]; simp) hs hf (wpAny_mono (run_fn F hr b (dvs := []) .nil pass0 I (.cons (show RelV (.ref a) (.ref a) from rfl) (.cons (show RelV (.int n) (.int n t) from ⟨_, rfl⟩) .nil)) q) (fun r s' hr => backB hr) fun _ _ z => z)
theorem cmp_io {id : String} {B : Builtin} (hop : ∀ a b, compareOp op a b = richCompare op a b) (M : OpOwn X.prog X.w X.K X.mg X.base k C (cmpInfo op).2.2 ps sp) (hsub : PySem.W.subIn X.K (.ref C) (.type "int") = some false) (slot : Slot "int" (cmpInfo op).2.1 id) (entry : entryFor table id = some B) (args : ∀ a b, argsOk id ⟨[a, b], []⟩)
    (mt : ∀ (n : Int) (t : Tok) (x C dx : Addr), Meets (B ⟨[.int n t, .ref x], []⟩) (fun _ R s => s.heap.get? x = some (PySem.W.instObj C dx) ∧ R (.ok (.ret Value.notImplemented)) s)) (hu : X.A.units < cLine) (hr : Room k X.A) : OpR X (compareOp op) (cIO C sp) := by
  obtain ⟨f, fd, hs, hf, F, b⟩ := M.ex
  intro pins s σ H x y v u Q I rx ry h
  obtain ⟨a, dx, gs, n, rfl, ea, rfl, q⟩ := h
  cases ry
  obtain ⟨t, rfl⟩ := rx
  obtain ⟨mA, J, _⟩ := ins_get I.hok ea
  obtain ⟨od, J, _⟩ := J.look
  obtain ⟨m, hF⟩ := I.fr
  rw [hop]
  refine cmp_refl hu hF I.ok.mod.kin J hs hf hsub slot entry (args _ _) (mt n t a C dx) (wpAny_mono (run_fn F hr b (dvs := []) .nil pass0 I (.cons (show RelV (.ref a) (.ref a) from rfl) (.cons (show RelV (.int n) (.int n t) from ⟨_, rfl⟩) .nil)) q) (fun r s' hr => backB hr) fun _ _ z => z)
end
end Bx

set_option Elab.async false
set_option linter.all false
set_option maxRecDepth 100000
set_option maxHeartbeats 4000000
namespace Bx
open PySem PySem.Spec PyProof.Rows L2 Fl
section
variable {X : Cx} {k : Nat} {C : Addr} {x m : Str} {ps : List Str} {dvs : List V} {sp : Sp} {E : L2.St → XK} {p pos apos : Pos} {e o : Expr} {es : List Expr} {t : TA} {tv ta : TE}
/-- v(e, ..), v a local that holds the class at C -/
def tMakeV (C : Addr) (sp : Sp) (dvs : List V) (E : L2.St → XK) (tv : TE) (t : TA) : TE := fun σ H Q => tv σ H fun v H1 => v = .ref C ∧ t σ H1 fun vs H2 => ∀ x dx, H2 x = none → H2 dx = none → dx ≠ x →
  sp (.ref x :: (vs ++ dvs)) (upd (upd H2 dx (.own x)) x (.ins C dx [])) (fun v H2 => v = .non ∧ Q (.ref x) H2) (E σ)
theorem pe_mkV (M : CalC X.prog X.w X.K X.mg X.base (L2.CX X.prog X.w) k C x ps dvs sp) (hx : ∀ σ, PassesAt (L2.CX X.prog X.w) X σ (E σ)) (hr : Room (k + 1) X.A) {y : Str} (hv : PE X (.Name y p) tv) (ha : PA X (e :: es) t)
    (he : starEach (e :: es) X.env = (false, eval e X.env) :: starEach es X.env := by rfl) (hpl : (backTo pos (starEach es X.env)).any (·.1) = false := by rfl) :
    PE X (.Call (.Name y p) (e :: es) [] pos) (tMakeV C sp dvs E tv t) := by
  obtain ⟨f, fd, ds, M, F, hm, hb, hd⟩ := M.ex
  refine ⟨fun pins s σ H Q I h => ?_⟩
  refine wpAny_Call_Name_kw (thn (hv.run pins s σ H _ I h) fun u s1 ⟨v, H1, I1, rv, ev, q⟩ => ?_)
  subst ev
  cases rv
  refine PySem.W.callWith_K (h₀ := X.base) I1.ok.mod.kin M.kp (thn (ha.run pos pins s1 σ H1 _ I1 q) fun us s2 ⟨vs, H2, I2, r, q2⟩ => ⟨I2.kIn, ?_⟩) he hpl
  exact run_makeS (E := E) M F hr hb hd (hx σ) I2 r q2
/-- a classmethod of C by the name m -/
structure CalCM (P : Program) (w : World) (K : PySem.W.Frag) (mg : Str → Option Value) (base : Heap) (k : Nat) (C : Addr) (m : Str) (ps : List Str) (sp : Sp) : Prop where
  ex : ∃ (mc : Value) (p g : Addr) (fd : FuncData), ClX.CRead K C mc ∧ ClX.CMet K C mc m p g ∧ FnOk P w K mg base (L2.CX P w) k g fd ps sp ∧ Binds K fd ps []
def tCMethS (C : Addr) (sp : Sp) (E : L2.St → XK) (ta : TE) (t : TA) : TE := fun σ H Q => ta σ H fun x H1 => x = .ref C ∧ t σ H1 fun vs H2 => sp (.ref C :: vs) H2 Q (E σ)
theorem pe_cm {pl : Sem Bool} (M : CalCM X.prog X.w X.K X.mg X.base k C m ps sp) (hx : ∀ σ, PassesAt (L2.CX X.prog X.w) X σ (E σ)) (hr : Room k X.A) (he : PE X o ta) (ha : PA X (e :: es) t)
    (hst : starEach (e :: es) X.env = (false, eval e X.env) :: starEach es X.env := by rfl) (hpl : (backTo pos (starEach es X.env)).any (·.1) = false := by rfl)
    (ht : eval (.Call (.Attribute o m apos) (e :: es) [] pos) X.env = (do
      let ov ← eval o X.env
      standAt apos.atName
      let (f, first) ← holding [ov] (getMethod ov m pl)
      callWith pos f first (backTo pos (starEach (e :: es) X.env)) (backToKw pos (keywordEach [] X.env))) := by rfl) :
    PE X (.Call (.Attribute o m apos) (e :: es) [] pos) (tCMethS C sp E ta t) := by
  obtain ⟨mc, pp, g, fd, r, c, F, b⟩ := M.ex
  refine ⟨fun pins s σ H Q I h => ?_⟩
  refine PySem.W.methodCall_KW (pl := pl) (thn (he.run pins s σ H _ I h) fun u s1 ⟨x, H1, I1, rx, ex, q⟩ => ?_) ht
  subst ex
  obtain rfl : u = Value.ref C := rx
  refine ClX.getmethcm_ok I1 r c fun s2 I2 => ?_
  refine ClX.callwith_cm I2 (ClX.base_none I1 (Nat.le_refl _)) c.fi (thn (ha.run pos _ s2 σ H1 _ I2 q) fun us s3 ⟨vs, H2, I3, rv, q2⟩ => ⟨⟨ClX.pin_at I3, I3.kIn⟩, ?_⟩) hst hpl
  have hl := F.len _ _ _ _ q2
  have r2 : Vals (V.ref C :: vs) (Value.ref C :: us) := .cons (show RelV (.ref C) (.ref C) from rfl) rv
  have bb := b s3 (Value.ref C :: us) I3.kIn (by rw [List.append_nil, ← r2.length]; exact hl)
  rw [List.append_nil] at bb
  have z : wpAny (model X.prog X.w) X.A (call (.ref s1.heap.objs.size) us) (EP X ((s1.heap.objs.size, PySem.W.methodObj (.ref g) (.ref C)) :: pins) σ Q) X.xe s3 := by
    refine wpAny_call (PySem.W.method_call (ClX.pin_at I3) (codeAny_mono (F.run X.A X.stack s3 H2 ⟨Value.ref C :: us, []⟩ (Value.ref C :: us) (V.ref C :: vs) Q (E σ) hr I3.env0 bb r2 q2) fun r s' hq => ?_))
    cases r with
    | error e => exact hx σ _ H2 s3 e s' I3 hq
    | ok fl =>
      cases fl with
      | ret u => exact I3.after hq
      | next => exact False.elim hq
      | brk => exact False.elim hq
      | cont => exact False.elim hq
  exact thn z fun _ _ y => ClX.unpinE y
end
end Bx

set_option Elab.async false
set_option linter.all false
set_option maxRecDepth 100000
set_option maxHeartbeats 4000000
namespace Fl
open PySem PySem.Spec PyProof.Rows L2
/-! ### what stands in a heap, as a list of places and objects -/
def Al (fs : List (Addr × HO)) (H : Hp) : Prop := ∀ a o, (a, o) ∈ fs → H a = some o
theorem Al.nil {H : Hp} : Al [] H := fun _ _ h => nomatch h
theorem Al.at {fs : List (Addr × HO)} {H : Hp} {a : Addr} {o : HO} (W : Al fs H) (h : (a, o) ∈ fs) : H a = some o := W a o h
theorem Al.same {fs : List (Addr × HO)} {H H' : Hp} (W : Al fs H) (s : Same H H') : Al fs H' := fun a o h => s a o (W a o h)
theorem Al.got {fs : List (Addr × HO)} {H : Hp} {a : Addr} {o : HO} (W : Al fs H) (h : H a = some o) : Al ((a, o) :: fs) H := fun b u hm => by
  rcases List.mem_cons.mp hm with e | e
  · cases e
    exact h
  · exact W b u e
theorem Al.new {fs : List (Addr × HO)} {H : Hp} {a : Addr} {o : HO} (W : Al fs H) (h : H a = none) : Al ((a, o) :: fs) (upd H a o) := (W.same (same_upd h)).got upd_same
structure Wd (p : Pla) (fs : List (Addr × HO)) (H : Hp) : Prop where
  P : Pool H p
  W : Al fs H
  n : ∀ a o, (a, o) ∈ fs → a ≠ p.p
theorem Wd.nil {p : Pla} {H : Hp} (h : Pool H p) : Wd p [] H := ⟨h, Al.nil, fun _ _ h => nomatch h⟩
theorem Wd.at {p : Pla} {fs : List (Addr × HO)} {H : Hp} {a : Addr} {o : HO} (W : Wd p fs H) (h : (a, o) ∈ fs) : H a = some o := W.W a o h
theorem Wd.same {p : Pla} {fs : List (Addr × HO)} {H H' : Hp} (W : Wd p fs H) (s : Same H H') : Wd p fs H' := ⟨W.P.same s, W.W.same s, W.n⟩
theorem Wd.keep {p : Pla} {fs : List (Addr × HO)} {H H' : Hp} (W : Wd p fs H) (hP : Pool H' p) (k : Keeps H H' p.p) : Wd p fs H' := ⟨hP, fun a o h => k a o (W.W a o h) (W.n a o h), W.n⟩
theorem Wd.got {p : Pla} {fs : List (Addr × HO)} {H : Hp} {a : Addr} {o : HO} (W : Wd p fs H) (h : H a = some o) (ne : ∀ xs, o ≠ .lst xs) : Wd p ((a, o) :: fs) H := ⟨W.P, W.W.got h, fun b u hm => by
  rcases List.mem_cons.mp hm with e | e
  · cases e
    obtain ⟨ns, i, b, c, d, h1, _⟩ := W.P
    exact ne_of h h1 (ne _)
  · exact W.n b u e⟩
theorem Wd.new {p : Pla} {fs : List (Addr × HO)} {H : Hp} {a : Addr} {o : HO} (W : Wd p fs H) (h : H a = none) : Wd p ((a, o) :: fs) (upd H a o) := ⟨W.P.upd h, W.W.new h, fun b u hm => by
  rcases List.mem_cons.mp hm with e | e
  · cases e
    exact (W.P.apart h).1
  · exact W.n b u e⟩
/-! ### tests whose answer is known -/
theorem itT {p : Prop} [Decidable p] {A B : Prop} (h : p) (a : A) : if decide p = true then A else B := by rw [decide_eq_true h]; exact iteT a
theorem itF {p : Prop} [Decidable p] {A B : Prop} (h : ¬ p) (b : B) : if decide p = true then A else B := by rw [decide_eq_false h]; exact iteF b
theorem niT {p : Prop} [Decidable p] {A B : Prop} (h : p) (b : B) : if (!decide p) = true then A else B := by rw [decide_eq_true h]; exact iteF b
theorem niF {p : Prop} [Decidable p] {A B : Prop} (h : ¬ p) (a : A) : if (!decide p) = true then A else B := by rw [decide_eq_false h]; exact iteT a
theorem ieT {a b : Int} {A B : Prop} (h : a = b) (x : A) : if decide (V.int a = V.int b) = true then A else B := itT (by rw [h]) x
theorem ieF {a b : Int} {A B : Prop} (h : a ≠ b) (x : B) : if decide (V.int a = V.int b) = true then A else B := itF (fun e => h (V.int.inj e)) x
theorem jeT {a b : Int} {A B : Prop} (h : a = b) (x : B) : if (!decide (V.int a = V.int b)) = true then A else B := niT (by rw [h]) x
theorem jeF {a b : Int} {A B : Prop} (h : a ≠ b) (x : A) : if (!decide (V.int a = V.int b)) = true then A else B := niF (fun e => h (V.int.inj e)) x
/-! ### values that are known -/
theorem vT {Q : VK} {H : Hp} {p : Prop} [Decidable p] (h : p) (q : Q (.bl true) H) : Q (.bl (decide p)) H := by rw [decide_eq_true h]; exact q
theorem vF {Q : VK} {H : Hp} {p : Prop} [Decidable p] (h : ¬ p) (q : Q (.bl false) H) : Q (.bl (decide p)) H := by rw [decide_eq_false h]; exact q
theorem veT {Q : VK} {H : Hp} {a b : Int} (h : a = b) (q : Q (.bl true) H) : Q (.bl (decide (V.int a = V.int b))) H := vT (by rw [h]) q
theorem veF {Q : VK} {H : Hp} {a b : Int} (h : a ≠ b) (q : Q (.bl false) H) : Q (.bl (decide (V.int a = V.int b))) H := vF (fun e => h (V.int.inj e)) q
/-! ### bounds -/
theorem ba {i j : Int} {a : Nat} (h1 : i.natAbs < 2 ^ a) (h2 : j.natAbs < 2 ^ a) : (i + j).natAbs < 2 ^ (a + 1) := by
  rw [Nat.pow_succ]
  generalize 2 ^ a = z at *
  omega
theorem bs {i j : Int} {a : Nat} (h1 : i.natAbs < 2 ^ a) (h2 : j.natAbs < 2 ^ a) : (i - j).natAbs < 2 ^ (a + 1) := by
  rw [Nat.pow_succ]
  generalize 2 ^ a = z at *
  omega
theorem bn {i : Int} {a : Nat} (h1 : i.natAbs < 2 ^ a) : (-i).natAbs < 2 ^ a := by
  rw [Int.natAbs_neg]
  exact h1
theorem ub {n : Int} {a b : Nat} (h : n.natAbs < 2 ^ a) (k : a ≤ b) : n.natAbs < 2 ^ b := Nat.lt_of_lt_of_le h (Nat.pow_le_pow_right (by decide) k)
end Fl
namespace Fl
open PySem PySem.Spec PyProof.Rows L2
theorem Al.drop {x : Addr × HO} {fs : List (Addr × HO)} {H : Hp} (W : Al (x :: fs) H) : Al fs H := fun a o h => W a o (List.mem_cons_of_mem _ h)
theorem Wd.drop {p : Pla} {x : Addr × HO} {fs : List (Addr × HO)} {H : Hp} (W : Wd p (x :: fs) H) : Wd p fs H := ⟨W.P, W.W.drop, fun a o h => W.n a o (List.mem_cons_of_mem _ h)⟩
end Fl

set_option Elab.async false
set_option linter.all false
set_option maxRecDepth 100000
set_option maxHeartbeats 4000000
set_option pp.maxSteps 160
set_option pp.deepTerms false
namespace L
open PySem PySem.Spec PyProof.Rows L2 Fl
local macro_rules | `(tactic| walk_at "side") => `(tactic| first | (exact .inl ⟨by omega, by omega⟩) | (exact .inr ⟨by omega, by omega⟩) | (exact .inr ⟨by decide, by decide⟩) | (show (_ : Int) ≠ _; omega) | (exact ⟨by omega, by decide⟩) | (exact ⟨by decide, by decide, by decide⟩))
local macro_rules | `(tactic| walk_at "go") => `(tactic| repeat (first | refine ⟨_, rfl, ?_⟩ | refine ⟨_, _, rfl, rfl, ?_⟩ | refine .inl ⟨_, rfl, ?_⟩ | refine ⟨rfl, ?_⟩ | refine ⟨(by walk_at "side"), ?_⟩))
local macro_rules | `(tactic| walk_at "see") => `(tactic| (set_option pp.maxSteps 110 in set_option pp.deepTerms false in trace_state))
local macro_rules | `(tactic| walk_at "if") => `(tactic| first | refine ifE ?_ ?_ | refine ifNE ?_ ?_ | refine ifD ?_ ?_ | refine ifN ?_ ?_ | refine ifB ?_ ?_)
def topS (i : Nat) : Stmt := PySem.Challenge.pw_fieldlots_k08_named_runs.main.body.getD i (.Pass ⟨0, 0, 0, 0⟩)
abbrev s_wall : Stmt := topS 1
theorem sc_wall : FnScope ["k"] ["k"] (defScope s_wall) := ⟨rfl, rfl, rfl, by decide +kernel, rfl, by decide +kernel, by decide +kernel⟩
abbrev s_BadNumber_init : Stmt := inClass (topS 5) 0
theorem sc_BadNumber_init : FnScope ["self", "name", "value"] ["self", "name", "value"] (defScope s_BadNumber_init) := ⟨rfl, rfl, rfl, by decide +kernel, rfl, by decide +kernel, by decide +kernel⟩
abbrev s_is_number : Stmt := topS 9
theorem sc_is_number : FnScope ["value"] ["value"] (defScope s_is_number) := ⟨rfl, rfl, rfl, by decide +kernel, rfl, by decide +kernel, by decide +kernel⟩
abbrev s_as_ratio : Stmt := topS 10
theorem sc_as_ratio : FnScope ["number"] ["number"] (defScope s_as_ratio) := ⟨rfl, rfl, rfl, by decide +kernel, rfl, by decide +kernel, by decide +kernel⟩
abbrev s_top_of : Stmt := topS 11
theorem sc_top_of : FnScope ["number"] ["number"] (defScope s_top_of) := ⟨rfl, rfl, rfl, by decide +kernel, rfl, by decide +kernel, by decide +kernel⟩
abbrev s_under_of : Stmt := topS 12
theorem sc_under_of : FnScope ["number"] ["number"] (defScope s_under_of) := ⟨rfl, rfl, rfl, by decide +kernel, rfl, by decide +kernel, by decide +kernel⟩
abbrev s_rounded_quotient : Stmt := topS 13
theorem sc_rounded_quotient : FnScope ["number", "divisor", "under"] ["number", "divisor"] (defScope s_rounded_quotient) := ⟨rfl, rfl, rfl, by decide +kernel, rfl, by decide +kernel, by decide +kernel⟩
abbrev s_remainder : Stmt := topS 14
theorem sc_remainder : FnScope ["number", "divisor"] ["number", "divisor"] (defScope s_remainder) := ⟨rfl, rfl, rfl, by decide +kernel, rfl, by decide +kernel, by decide +kernel⟩
abbrev s_Ratio_init : Stmt := inClass (topS 15) 0
theorem sc_Ratio_init : FnScope ["self", "top", "under", "shared"] ["self", "top", "under"] (defScope s_Ratio_init) := ⟨rfl, rfl, rfl, by decide +kernel, rfl, by decide +kernel, by decide +kernel⟩
abbrev s_Ratio_whole : Stmt := inClass (topS 15) 1
theorem sc_Ratio_whole : FnScope ["self"] ["self"] (defScope s_Ratio_whole) := ⟨rfl, rfl, rfl, by decide +kernel, rfl, by decide +kernel, by decide +kernel⟩
abbrev s_Ratio_floor : Stmt := inClass (topS 15) 2
theorem sc_Ratio_floor : FnScope ["self"] ["self"] (defScope s_Ratio_floor) := ⟨rfl, rfl, rfl, by decide +kernel, rfl, by decide +kernel, by decide +kernel⟩
abbrev s_Ratio_ceiling : Stmt := inClass (topS 15) 3
theorem sc_Ratio_ceiling : FnScope ["self"] ["self"] (defScope s_Ratio_ceiling) := ⟨rfl, rfl, rfl, by decide +kernel, rfl, by decide +kernel, by decide +kernel⟩
abbrev s_Ratio_over : Stmt := inClass (topS 15) 4
theorem sc_Ratio_over : FnScope ["self", "number"] ["self", "number"] (defScope s_Ratio_over) := ⟨rfl, rfl, rfl, by decide +kernel, rfl, by decide +kernel, by decide +kernel⟩
abbrev s_Ratio_power : Stmt := inClass (topS 15) 5
theorem sc_Ratio_power : FnScope ["self", "n", "top", "under", "_"] ["self", "n"] (defScope s_Ratio_power) := ⟨rfl, rfl, rfl, by decide +kernel, rfl, by decide +kernel, by decide +kernel⟩
abbrev s_Ratio_str : Stmt := inClass (topS 15) 6
theorem sc_Ratio_str : FnScope ["self"] ["self"] (defScope s_Ratio_str) := ⟨rfl, rfl, rfl, by decide +kernel, rfl, by decide +kernel, by decide +kernel⟩
abbrev s_Ratio_bool : Stmt := inClass (topS 15) 7
theorem sc_Ratio_bool : FnScope ["self"] ["self"] (defScope s_Ratio_bool) := ⟨rfl, rfl, rfl, by decide +kernel, rfl, by decide +kernel, by decide +kernel⟩
abbrev s_Ratio_neg : Stmt := inClass (topS 15) 8
theorem sc_Ratio_neg : FnScope ["self"] ["self"] (defScope s_Ratio_neg) := ⟨rfl, rfl, rfl, by decide +kernel, rfl, by decide +kernel, by decide +kernel⟩
abbrev s_Ratio_abs : Stmt := inClass (topS 15) 9
theorem sc_Ratio_abs : FnScope ["self"] ["self"] (defScope s_Ratio_abs) := ⟨rfl, rfl, rfl, by decide +kernel, rfl, by decide +kernel, by decide +kernel⟩
abbrev s_Ratio_add : Stmt := inClass (topS 15) 10
theorem sc_Ratio_add : FnScope ["self", "other", "top"] ["self", "other"] (defScope s_Ratio_add) := ⟨rfl, rfl, rfl, by decide +kernel, rfl, by decide +kernel, by decide +kernel⟩
abbrev s_Ratio_radd : Stmt := inClass (topS 15) 11
theorem sc_Ratio_radd : FnScope ["self", "other"] ["self", "other"] (defScope s_Ratio_radd) := ⟨rfl, rfl, rfl, by decide +kernel, rfl, by decide +kernel, by decide +kernel⟩
abbrev s_Ratio_sub : Stmt := inClass (topS 15) 12
theorem sc_Ratio_sub : FnScope ["self", "other", "top"] ["self", "other"] (defScope s_Ratio_sub) := ⟨rfl, rfl, rfl, by decide +kernel, rfl, by decide +kernel, by decide +kernel⟩
abbrev s_Ratio_rsub : Stmt := inClass (topS 15) 13
theorem sc_Ratio_rsub : FnScope ["self", "other"] ["self", "other"] (defScope s_Ratio_rsub) := ⟨rfl, rfl, rfl, by decide +kernel, rfl, by decide +kernel, by decide +kernel⟩
abbrev s_Ratio_mul : Stmt := inClass (topS 15) 14
theorem sc_Ratio_mul : FnScope ["self", "other"] ["self", "other"] (defScope s_Ratio_mul) := ⟨rfl, rfl, rfl, by decide +kernel, rfl, by decide +kernel, by decide +kernel⟩
abbrev s_Ratio_rmul : Stmt := inClass (topS 15) 15
theorem sc_Ratio_rmul : FnScope ["self", "other"] ["self", "other"] (defScope s_Ratio_rmul) := ⟨rfl, rfl, rfl, by decide +kernel, rfl, by decide +kernel, by decide +kernel⟩
abbrev s_Ratio_floordiv : Stmt := inClass (topS 15) 16
theorem sc_Ratio_floordiv : FnScope ["self", "other"] ["self", "other"] (defScope s_Ratio_floordiv) := ⟨rfl, rfl, rfl, by decide +kernel, rfl, by decide +kernel, by decide +kernel⟩
abbrev s_Ratio_rfloordiv : Stmt := inClass (topS 15) 17
theorem sc_Ratio_rfloordiv : FnScope ["self", "other"] ["self", "other"] (defScope s_Ratio_rfloordiv) := ⟨rfl, rfl, rfl, by decide +kernel, rfl, by decide +kernel, by decide +kernel⟩
abbrev s_Ratio_mod : Stmt := inClass (topS 15) 18
theorem sc_Ratio_mod : FnScope ["self", "other"] ["self", "other"] (defScope s_Ratio_mod) := ⟨rfl, rfl, rfl, by decide +kernel, rfl, by decide +kernel, by decide +kernel⟩
abbrev s_Ratio_rmod : Stmt := inClass (topS 15) 19
theorem sc_Ratio_rmod : FnScope ["self", "other"] ["self", "other"] (defScope s_Ratio_rmod) := ⟨rfl, rfl, rfl, by decide +kernel, rfl, by decide +kernel, by decide +kernel⟩
abbrev s_Ratio_pow : Stmt := inClass (topS 15) 20
theorem sc_Ratio_pow : FnScope ["self", "other"] ["self", "other"] (defScope s_Ratio_pow) := ⟨rfl, rfl, rfl, by decide +kernel, rfl, by decide +kernel, by decide +kernel⟩
abbrev s_Ratio_eq : Stmt := inClass (topS 15) 21
theorem sc_Ratio_eq : FnScope ["self", "other"] ["self", "other"] (defScope s_Ratio_eq) := ⟨rfl, rfl, rfl, by decide +kernel, rfl, by decide +kernel, by decide +kernel⟩
abbrev s_Ratio_lt : Stmt := inClass (topS 15) 22
theorem sc_Ratio_lt : FnScope ["self", "other"] ["self", "other"] (defScope s_Ratio_lt) := ⟨rfl, rfl, rfl, by decide +kernel, rfl, by decide +kernel, by decide +kernel⟩
abbrev s_Ratio_le : Stmt := inClass (topS 15) 23
theorem sc_Ratio_le : FnScope ["self", "other"] ["self", "other"] (defScope s_Ratio_le) := ⟨rfl, rfl, rfl, by decide +kernel, rfl, by decide +kernel, by decide +kernel⟩
abbrev s_Ratio_gt : Stmt := inClass (topS 15) 24
theorem sc_Ratio_gt : FnScope ["self", "other"] ["self", "other"] (defScope s_Ratio_gt) := ⟨rfl, rfl, rfl, by decide +kernel, rfl, by decide +kernel, by decide +kernel⟩
abbrev s_Ratio_ge : Stmt := inClass (topS 15) 25
theorem sc_Ratio_ge : FnScope ["self", "other"] ["self", "other"] (defScope s_Ratio_ge) := ⟨rfl, rfl, rfl, by decide +kernel, rfl, by decide +kernel, by decide +kernel⟩
abbrev s_Run_init : Stmt := inClass (topS 18) 0
theorem sc_Run_init : FnScope ["self", "first", "step", "count"] ["self", "first", "step", "count"] (defScope s_Run_init) := ⟨rfl, rfl, rfl, by decide +kernel, rfl, by decide +kernel, by decide +kernel⟩
abbrev s_Run_point : Stmt := inClass (topS 18) 1
theorem sc_Run_point : FnScope ["cls", "k"] ["cls", "k"] (defScope s_Run_point) := ⟨rfl, rfl, rfl, by decide +kernel, rfl, by decide +kernel, by decide +kernel⟩
abbrev s_Run_odd : Stmt := inClass (topS 18) 2
theorem sc_Run_odd : FnScope ["cls", "m"] ["cls", "m"] (defScope s_Run_odd) := ⟨rfl, rfl, rfl, by decide +kernel, rfl, by decide +kernel, by decide +kernel⟩
abbrev s_Run_even : Stmt := inClass (topS 18) 3
theorem sc_Run_even : FnScope ["cls", "m"] ["cls", "m"] (defScope s_Run_even) := ⟨rfl, rfl, rfl, by decide +kernel, rfl, by decide +kernel, by decide +kernel⟩
abbrev s_Run_between : Stmt := inClass (topS 18) 4
theorem sc_Run_between : FnScope ["cls", "low", "high"] ["cls", "low", "high"] (defScope s_Run_between) := ⟨rfl, rfl, rfl, by decide +kernel, rfl, by decide +kernel, by decide +kernel⟩
abbrev s_Run_last : Stmt := inClass (topS 18) 5
theorem sc_Run_last : FnScope ["self"] ["self"] (defScope s_Run_last) := ⟨rfl, rfl, rfl, by decide +kernel, rfl, by decide +kernel, by decide +kernel⟩
abbrev s_Run_mean : Stmt := inClass (topS 18) 6
theorem sc_Run_mean : FnScope ["self"] ["self"] (defScope s_Run_mean) := ⟨rfl, rfl, rfl, by decide +kernel, rfl, by decide +kernel, by decide +kernel⟩
abbrev s_Run_strengths : Stmt := inClass (topS 18) 7
abbrev s_Run_parted : Stmt := inClass (topS 18) 8
theorem sc_Run_parted : FnScope ["self", "n", "start"] ["self", "n"] (defScope s_Run_parted) := ⟨rfl, rfl, rfl, by decide +kernel, rfl, by decide +kernel, by decide +kernel⟩
abbrev s_Run_below : Stmt := inClass (topS 18) 9
theorem sc_Run_below : FnScope ["self", "k"] ["self", "k"] (defScope s_Run_below) := ⟨rfl, rfl, rfl, by decide +kernel, rfl, by decide +kernel, by decide +kernel⟩
abbrev s_Run_above : Stmt := inClass (topS 18) 10
theorem sc_Run_above : FnScope ["self", "k"] ["self", "k"] (defScope s_Run_above) := ⟨rfl, rfl, rfl, by decide +kernel, rfl, by decide +kernel, by decide +kernel⟩
abbrev s_Run_chance : Stmt := inClass (topS 18) 11
theorem sc_Run_chance : FnScope ["self", "k"] ["self", "k"] (defScope s_Run_chance) := ⟨rfl, rfl, rfl, by decide +kernel, rfl, by decide +kernel, by decide +kernel⟩
abbrev s_Run_gain : Stmt := inClass (topS 18) 12
theorem sc_Run_gain : FnScope ["self", "k", "ties"] ["self", "k", "ties"] (defScope s_Run_gain) := ⟨rfl, rfl, rfl, by decide +kernel, rfl, by decide +kernel, by decide +kernel⟩
abbrev s_Run_contains : Stmt := inClass (topS 18) 13
theorem sc_Run_contains : FnScope ["self", "x"] ["self", "x"] (defScope s_Run_contains) := ⟨rfl, rfl, rfl, by decide +kernel, rfl, by decide +kernel, by decide +kernel⟩
abbrev s_Run_getitem : Stmt := inClass (topS 18) 14
theorem sc_Run_getitem : FnScope ["self", "at"] ["self", "at"] (defScope s_Run_getitem) := ⟨rfl, rfl, rfl, by decide +kernel, rfl, by decide +kernel, by decide +kernel⟩
abbrev s_Run_iter : Stmt := inClass (topS 18) 15
theorem sc_Run_iter : FnScope ["self"] ["self"] (defScope s_Run_iter) := ⟨rfl, rfl, rfl, by decide +kernel, rfl, by decide +kernel, by decide +kernel⟩
abbrev s_Run_add : Stmt := inClass (topS 18) 16
theorem sc_Run_add : FnScope ["self", "other"] ["self", "other"] (defScope s_Run_add) := ⟨rfl, rfl, rfl, by decide +kernel, rfl, by decide +kernel, by decide +kernel⟩
abbrev s_Run_eq : Stmt := inClass (topS 18) 17
theorem sc_Run_eq : FnScope ["self", "other"] ["self", "other"] (defScope s_Run_eq) := ⟨rfl, rfl, rfl, by decide +kernel, rfl, by decide +kernel, by decide +kernel⟩
abbrev s_pool : Stmt := topS 20
theorem sc_pool : FnScope ["_law_script", "_law_cell"] ["_law_script"] (defScope s_pool) := ⟨rfl, rfl, rfl, by decide +kernel, rfl, by decide +kernel, by decide +kernel⟩
abbrev s_mix : Stmt := topS 21
theorem sc_mix : FnScope ["_law_state", "_law_turn", "_law_many", "_law_first", "_law_second"] ["_law_state", "_law_turn", "_law_many"] (defScope s_mix) := ⟨rfl, rfl, rfl, by decide +kernel, rfl, by decide +kernel, by decide +kernel⟩
abbrev s_draw : Stmt := topS 22
theorem sc_draw : FnScope ["_law_pool_here", "_law_many", "_law_spare", "_law_found", "_law_cell"] ["_law_pool_here", "_law_many"] (defScope s_draw) := ⟨rfl, rfl, rfl, by decide +kernel, rfl, by decide +kernel, by decide +kernel⟩
abbrev s_wide : Stmt := topS 23
theorem sc_wide : FnScope ["_law_pool_here", "_law_size", "_law_many", "_law_found", "_law_spare"] ["_law_pool_here"] (defScope s_wide) := ⟨rfl, rfl, rfl, by decide +kernel, rfl, by decide +kernel, by decide +kernel⟩
abbrev s_signed : Stmt := topS 24
theorem sc_signed : FnScope ["_law_pool_here", "_law_found"] ["_law_pool_here"] (defScope s_signed) := ⟨rfl, rfl, rfl, by decide +kernel, rfl, by decide +kernel, by decide +kernel⟩
abbrev s_any : Stmt := topS 25
theorem sc_any : FnScope ["_law_pool_here", "_law_cell"] ["_law_pool_here"] (defScope s_any) := ⟨rfl, rfl, rfl, by decide +kernel, rfl, by decide +kernel, by decide +kernel⟩
abbrev s_whole : Stmt := topS 26
theorem sc_whole : FnScope ["_law_actual"] ["_law_actual"] (defScope s_whole) := ⟨rfl, rfl, rfl, by decide +kernel, rfl, by decide +kernel, by decide +kernel⟩
abbrev s_ratio : Stmt := topS 27
theorem sc_ratio : FnScope ["_law_actual"] ["_law_actual"] (defScope s_ratio) := ⟨rfl, rfl, rfl, by decide +kernel, rfl, by decide +kernel, by decide +kernel⟩
abbrev s_same : Stmt := topS 28
theorem sc_same : FnScope ["_law_actual", "_law_due_here"] ["_law_actual", "_law_due_here"] (defScope s_same) := ⟨rfl, rfl, rfl, by decide +kernel, rfl, by decide +kernel, by decide +kernel⟩
abbrev s_great_run : Stmt := topS 29
theorem sc_great_run : FnScope ["_law_pool_here", "_law_first", "_law_count", "_law_step"] ["_law_pool_here"] (defScope s_great_run) := ⟨rfl, rfl, rfl, by decide +kernel, rfl, by decide +kernel, by decide +kernel⟩
abbrev s_held : Stmt := topS 30
theorem sc_held : FnScope ["_law_run", "_law_row"] ["_law_run", "_law_row"] (defScope s_held) := ⟨rfl, rfl, rfl, by decide +kernel, rfl, by decide +kernel, by decide +kernel⟩
abbrev s_plain : Stmt := topS 31
theorem sc_plain : FnScope ["_law_row"] ["_law_row"] (defScope s_plain) := ⟨rfl, rfl, rfl, by decide +kernel, rfl, by decide +kernel, by decide +kernel⟩
abbrev s_due : Stmt := topS 32
theorem sc_due : FnScope ["_law_row"] ["_law_row"] (defScope s_due) := ⟨rfl, rfl, rfl, by decide +kernel, rfl, by decide +kernel, by decide +kernel⟩
abbrev s_meets : Stmt := topS 33
theorem sc_meets : FnScope ["_law_found", "_law_due_here"] ["_law_found", "_law_due_here"] (defScope s_meets) := ⟨rfl, rfl, rfl, by decide +kernel, rfl, by decide +kernel, by decide +kernel⟩
abbrev s_made : Stmt := topS 34
theorem sc_made : FnScope ["_law_way", "_law_m", "_law_high", "_law_found", "e"] ["_law_way", "_law_m", "_law_high"] (defScope s_made) := ⟨rfl, rfl, rfl, by decide +kernel, rfl, by decide +kernel, by decide +kernel⟩
abbrev s_named : Stmt := topS 35
theorem sc_named : FnScope ["_law_pool_here", "_law_m", "_law_high", "_law_way", "_law_due_here", "_law_index"] ["_law_pool_here"] (defScope s_named) := ⟨rfl, rfl, rfl, by decide +kernel, rfl, by decide +kernel, by decide +kernel⟩
abbrev s_moved : Stmt := topS 36
theorem sc_moved : FnScope ["_law_run", "_law_move", "_law_found", "e"] ["_law_run", "_law_move"] (defScope s_moved) := ⟨rfl, rfl, rfl, by decide +kernel, rfl, by decide +kernel, by decide +kernel⟩
abbrev s_alike : Stmt := topS 37
theorem sc_alike : FnScope ["_law_run", "_law_row"] ["_law_run", "_law_row"] (defScope s_alike) := ⟨rfl, rfl, rfl, by decide +kernel, rfl, by decide +kernel, by decide +kernel⟩
abbrev s_cut : Stmt := topS 38
theorem sc_cut : FnScope ["_law_run", "_law_n", "_law_found", "e"] ["_law_run", "_law_n"] (defScope s_cut) := ⟨rfl, rfl, rfl, by decide +kernel, rfl, by decide +kernel, by decide +kernel⟩
abbrev s_parted : Stmt := topS 39
theorem sc_parted : FnScope ["_law_pool_here", "_law_run", "_law_row", "_law_first", "_law_step", "_law_count", "_law_n", "_law_pair"] ["_law_pool_here", "_law_run", "_law_row"] (defScope s_parted) := ⟨rfl, rfl, rfl, by decide +kernel, rfl, by decide +kernel, by decide +kernel⟩
abbrev s_law : Stmt := topS 40
theorem sc_law : FnScope ["_law_script", "_law_pool_here", "_law_row", "_law_first", "_law_step", "_law_count", "_law_run", "_law_due_here", "_law_index", "_law_move"] ["_law_script"] (defScope s_law) := ⟨rfl, rfl, rfl, by decide +kernel, rfl, by decide +kernel, by decide +kernel⟩
section
variable {P : Program} {w : World} {K : PySem.W.Frag} {mg : Str → Option Value} {base : Heap}

def spMix : Sp := fun vs H Q _ => ∃ (s t m : Int), vs = [.int s, .int t, .int m] ∧ 2 ≤ m ∧ m < 1073741824 ∧ ∀ r : Int, 0 ≤ r → r < m → Q (.int r) H
abbrev CalMix (P : Program) (w : World) (K : PySem.W.Frag) (mg : Str → Option Value) (base : Heap) := Cal P w K mg base 1 "_law_mix" ["_law_state", "_law_turn", "_law_many"] spMix
theorem ok_mix (B : Blt mg) (D : Dfn K mg "_law_mix" "_law_mix" s_mix ["_law_state", "_law_turn", "_law_many"]) : CalMix P w K mg base := by
  refine D.cal sc_mix (fun vs H Q E h => ?_) (fun f cdv A outer st H vs Q E hr h => ?_)
  · obtain ⟨s, t, m, rfl, _⟩ := h
    rfl
  · obtain ⟨s, t, m, rfl, h2, h3, q⟩ := h
    refine ⟨_, (pss_cons (ps_set (i := 3) sc_mix.nd rfl (Or.inl rfl) (pe_op op_modN (pe_callTy call_int1 (by rfl) B.int (by decide +kernel) (pa_cons (pe_op op_add (pe_op op_add (pe_op op_mul (pv 0) (pe_int)) (pe_op op_mul (pv 1) (pe_int))) (pe_int)) pa_nil)) (pe_int)))
      (pss_cons (ps_set (i := 4) sc_mix.nd rfl (Or.inl rfl) (pe_op op_modN (pe_callTy call_int1 (by rfl) B.int (by decide +kernel) (pa_cons (pe_op op_add (pe_op op_add (pe_op op_mul (pv 3) (pv 3)) (pe_op op_mul (pv 1) (pe_int))) (pv 0)) pa_nil)) (pe_int)))
      (pss_one (ps_ret (pe_op op_modN (pe_callTy call_int1 (by rfl) B.int (by decide +kernel) (pa_cons (pe_op op_fdivA (pv 4) (pe_int)) pa_nil)) (pv 2)))))), ?_⟩
    walk_at "go"
    have b1 := fm (s * 16807 + t * 7919 + 101) (show (0 : Int) < 2147483629 by decide)
    refine ⟨.inl ⟨by omega, by omega⟩, ?_⟩
    walk_at "go"
    have b2 := fm (((((s * 16807 + t * 7919 + 101).fmod 2147483629 * (s * 16807 + t * 7919 + 101).fmod 2147483629) + t * 104729 + s).fmod 2147483587).fdiv 11) (show (0 : Int) < m by omega)
    exact q _ b2.1 b2.2
def spDraw : Sp := fun vs H Q _ => ∃ (p : Pla) (m : Int), vs = [.ref p, .int m] ∧ Pool H p ∧ 2 ≤ m ∧ m < 1073741824 ∧ ∀ (r : Int) (H' : Hp), 0 ≤ r → r < m → Pool H' p → Keeps H H' p → Q (.int r) H'
abbrev CalDraw (P : Program) (w : World) (K : PySem.W.Frag) (mg : Str → Option Value) (base : Heap) := Cal P w K mg base 2 "_law_draw" ["_law_pool_here", "_law_many"] spDraw
theorem ok_draw (B : Blt mg) (D : Dfn K mg "_law_draw" "_law_draw" s_draw ["_law_pool_here", "_law_many"]) (C_mix : CalMix P w K mg base) : CalDraw P w K mg base := by
  refine D.cal sc_draw (fun vs H Q E h => ?_) (fun f cdv A outer st H vs Q E hr h => ?_)
  · obtain ⟨p, m, rfl, _⟩ := h
    rfl
  · obtain ⟨p, m, rfl, ⟨ns, i, b, c, d, hp, hq, hi, hqp⟩, h2, h3, k⟩ := h
    refine ⟨_, (pss_cons (ps_if (PW.pt (pw_or (pt_cmpR op_lt (pv 1) (pe_int) (nomark _)) (pw_or1 (pt_cmpR op_eq (pe_callB call_len_seq (by rfl) B.len PySem.boot_len (pa_cons (pe_ix ix_list (pv 0) (pe_int) (fun _ _ => rfl)) pa_nil)) (pe_int) (nomark _))))) (pss_one (ps_ret (pe_int))) pss_nil)
      (pss_cons (ps_asg (pe_op op_add (pe_ix ix_list (pv 0) (pe_int) (fun _ _ => rfl)) (pe_int)) (pg_sub (pv 0) (pe_int) set_list))
      (pss_cons (ps_for PassesOwn.never rfl (pi_range1 (by rfl) B.range (pa_cons (pe_int) pa_nil)) (pg_name (i := 2) sc_draw.nd rfl (Or.inl rfl)) (pss_cons (ps_if (pt_cmpR op_gt (pe_ix ix_list (pv 0) (pe_int) (fun _ _ => rfl)) (pe_int) (nomark _)) (pss_cons (ps_set (i := 3) sc_draw.nd rfl (Or.inl rfl) (pe_op op_modN (pe_callTy call_int1 (by rfl) B.int (by decide +kernel) (pa_cons (pe_ix ix_list (pv 0) (pe_int) (fun _ _ => rfl)) pa_nil)) (pv 1)))
      (pss_cons (ps_asg (pe_op op_fdivA (pe_ix ix_list (pv 0) (pe_int) (fun _ _ => rfl)) (pv 1)) (pg_sub (pv 0) (pe_int) set_list))
      (pss_one (ps_ret (pv 3))))) pss_nil)
      (pss_cons (ps_if (pt_cmpR op_ge (pe_ix ix_list (pv 0) (pe_int) (fun _ _ => rfl)) (pe_callB call_len_seq (by rfl) B.len PySem.boot_len (pa_cons (pe_ix ix_list (pv 0) (pe_int) (fun _ _ => rfl)) pa_nil)) (nomark _)) (pss_one (ps_ret (pe_cal C_mix (hr.mono (by decide)) (pa_cons (pe_ix ix_list (pv 0) (pe_int) (fun _ _ => rfl)) (pa_cons (pe_ix ix_list (pv 0) (pe_int) (fun _ _ => rfl)) (pa_cons (pv 1) pa_nil)))))) pss_nil)
      (pss_cons (ps_set (i := 4) sc_draw.nd rfl (Or.inl rfl) (pe_ix ix_list (pe_ix ix_list (pv 0) (pe_int) (fun _ _ => rfl)) (pe_ix ix_list (pv 0) (pe_int) (fun _ _ => rfl)) (fun _ _ => rfl)))
      (pss_cons (ps_asg (pe_op op_add (pe_ix ix_list (pv 0) (pe_int) (fun _ _ => rfl)) (pe_int)) (pg_sub (pv 0) (pe_int) set_list))
      (pss_cons (ps_asg (pe_op op_modN (pe_callTy call_int1 (by rfl) B.int (by decide +kernel) (pa_cons (pe_op op_add (pe_op op_add (pe_op op_mul (pe_ix ix_list (pv 0) (pe_int) (fun _ _ => rfl)) (pe_int)) (pe_op op_mul (pv 4) (pe_int))) (pe_int)) pa_nil)) (pe_int)) (pg_sub (pv 0) (pe_int) set_list))
      (pss_cons (ps_if (pt_cmpR op_lt (pv 4) (pe_op op_pow (pe_int) (pe_int)) (nomark _)) (pss_one (ps_ret (pe_cal C_mix (hr.mono (by decide)) (pa_cons (pe_ix ix_list (pv 0) (pe_int) (fun _ _ => rfl)) (pa_cons (pe_ix ix_list (pv 0) (pe_int) (fun _ _ => rfl)) (pa_cons (pv 1) pa_nil)))))) pss_nil)
      (pss_one (ps_asg (pe_op op_sub (pv 4) (pe_op op_pow (pe_int) (pe_int))) (pg_sub (pv 0) (pe_int) set_list))))))))))
      (pss_one (ps_ret (pe_cal C_mix (hr.mono (by decide)) (pa_cons (pe_ix ix_list (pv 0) (pe_int) (fun _ _ => rfl)) (pa_cons (pe_ix ix_list (pv 0) (pe_int) (fun _ _ => rfl)) (pa_cons (pv 1) pa_nil))))))))), ?_⟩
    walk_at "go"
    rw [decide_eq_false (by omega)]
    refine iteF ?_
    walk_at "go"
    refine ⟨_, _, _, _, rfl, rfl, SqL.of hp, rfl, ?_⟩
    refine ⟨_, _, rfl, .inl (SqL.of hq), ?_⟩
    walk_at "go"
    walk_at "if"
    · intro _
      walk_at "go"
      exact k 0 H (by omega) (by omega) ⟨ns, i, b, c, d, hp, hq, hi, hqp⟩ (Keeps.refl _ _)
    intro hlen
    refine ⟨_, rfl, _, _, _, _, rfl, rfl, SqL.of hp, rfl, ?_⟩
    walk_at "go"
    refine ⟨_, _, _, _, rfl, rfl, hp, rfl, ?_⟩
    refine ⟨64, rfl, by decide, by decide, for_range (n := 64) (fun _ σ H' => ∃ v2 v3 v4 : Option V, σ = [some (.ref (p : Addr)), some (.int m), v2, v3, v4] ∧ ∃ i b c d : Int, H' p = some (.lst [.ref p.q, .int i, .int b, .int c, .int d]) ∧ H' p.q = some (.lst (ns.map V.int)) ∧ 0 ≤ i ∧ Keeps H H' p)
      ⟨none, none, none, rfl, i, b, c, d + 1, upd_same, by rw [upd_ne hqp]; exact hq, hi, Keeps.upd⟩ ?_ ?_⟩
    · rintro j σ H1 hj ⟨v2, v3, v4, rfl, i, b, c, d, hp, hq, hi, hk⟩
      refine ⟨_, rfl, _, _, _, _, rfl, rfl, SqL.of hp, rfl, ?_⟩
      walk_at "go"
      walk_at "if"
      · intro hb
        refine ⟨_, rfl, _, _, _, _, rfl, rfl, SqL.of hp, rfl, ?_⟩
        walk_at "go"
        refine ⟨_, _, _, _, rfl, rfl, SqL.of hp, rfl, ?_⟩
        walk_at "go"
        refine ⟨divA (b := 30) (by omega) (by omega) (by decide) (by decide), ?_⟩
        walk_at "go"
        refine ⟨_, _, _, _, rfl, rfl, hp, rfl, ?_⟩
        walk_at "go"
        have b2 := fm b (show (0 : Int) < m by omega)
        exact k _ _ b2.1 b2.2 ⟨ns, i, _, c, d, upd_same, by rw [upd_ne hqp]; exact hq, hi, hqp⟩ (hk.trans Keeps.upd)
      · intro hb
        refine ⟨_, rfl, _, _, _, _, rfl, rfl, SqL.of hp, rfl, ?_⟩
        walk_at "go"
        refine ⟨_, _, _, _, rfl, rfl, SqL.of hp, rfl, ?_⟩
        refine ⟨_, _, rfl, .inl (SqL.of hq), ?_⟩
        walk_at "go"
        walk_at "if"
        · intro hl
          refine ⟨_, rfl, _, _, _, _, rfl, rfl, SqL.of hp, rfl, ?_⟩
          refine ⟨_, rfl, _, _, _, _, rfl, rfl, SqL.of hp, rfl, ?_⟩
          walk_at "go"
          refine ⟨_, _, _, rfl, h2, h3, fun r r0 r1 => ?_⟩
          exact k _ _ r0 r1 ⟨ns, i, b, c, d, hp, hq, hi, hqp⟩ hk
        · intro hl
          have hl2 : i < (ns.length : Int) := by
            have hl' : ¬ ((ns.map V.int).length : Int) ≤ i := hl
            rw [List.length_map] at hl'
            omega
          obtain ⟨n, rfl⟩ : ∃ n : Nat, i = (n : Int) := ⟨i.toNat, by omega⟩
          have hn : n < ns.length := by omega
          refine ⟨_, rfl, _, _, _, _, rfl, rfl, SqL.of hp, rfl, ?_⟩
          refine ⟨_, rfl, _, _, _, _, rfl, rfl, SqL.of hp, rfl, ?_⟩
          refine ⟨_, _, _, _, rfl, rfl, SqL.of hq, atI_nat (ints_at hn), ?_⟩
          refine ⟨_, rfl, _, _, _, _, rfl, rfl, SqL.of hp, rfl, ?_⟩
          walk_at "go"
          refine ⟨_, _, _, _, rfl, rfl, hp, rfl, ?_⟩
          refine ⟨_, rfl, _, _, _, _, rfl, rfl, SqL.of upd_same, rfl, ?_⟩
          walk_at "go"
          refine ⟨_, _, _, _, rfl, rfl, upd_same, rfl, ?_⟩
          walk_at "go"
          walk_at "if"
          · intro hcell
            refine ⟨_, rfl, _, _, _, _, rfl, rfl, SqL.of upd_same, rfl, ?_⟩
            refine ⟨_, rfl, _, _, _, _, rfl, rfl, SqL.of upd_same, rfl, ?_⟩
            walk_at "go"
            refine ⟨_, _, _, rfl, h2, h3, fun r r0 r1 => ?_⟩
            exact k _ _ r0 r1 ⟨ns, _, b, _, d, upd_same, by rw [upd_ne hqp, upd_ne hqp]; exact hq, by omega, hqp⟩ ((hk.trans Keeps.upd).trans Keeps.upd)
          · intro hcell
            walk_at "go"
            refine ⟨_, _, _, _, rfl, rfl, upd_same, rfl, ?_⟩
            exact ⟨_, _, _, rfl, _, _, _, d, upd_same, by rw [upd_ne hqp, upd_ne hqp, upd_ne hqp]; exact hq, by omega, ((hk.trans Keeps.upd).trans Keeps.upd).trans Keeps.upd⟩
    · rintro σ H1 ⟨v2, v3, v4, rfl, i, b, c, d, hp, hq, hi, hk⟩
      refine ⟨_, rfl, _, _, _, _, rfl, rfl, SqL.of hp, rfl, ?_⟩
      refine ⟨_, rfl, _, _, _, _, rfl, rfl, SqL.of hp, rfl, ?_⟩
      walk_at "go"
      refine ⟨_, _, _, rfl, h2, h3, fun r r0 r1 => ?_⟩
      exact k _ _ r0 r1 ⟨ns, i, b, c, d, hp, hq, hi, hqp⟩ hk

theorem wide_ix {s : Int} (h0 : 3 ≤ s) (h1 : s < 6) : ∃ M : Int, atI [V.int 1, V.int 2, V.int 5] (s - 3) = some (V.int M) ∧ (M = 1 ∨ M = 2 ∨ M = 5) := by
  have : s = 3 ∨ s = 4 ∨ s = 5 := by omega
  rcases this with rfl | rfl | rfl
  · exact ⟨1, rfl, by omega⟩
  · exact ⟨2, rfl, by omega⟩
  · exact ⟨5, rfl, by omega⟩
def spWide : Sp := fun vs H Q _ => ∃ (p : Pla), vs = [.ref p] ∧ Pool H p ∧ ∀ (r : Int) (H' : Hp), 0 ≤ r → r < 10 ^ 30 → Pool H' p → Keeps H H' p → Q (.int r) H'
abbrev CalWide (P : Program) (w : World) (K : PySem.W.Frag) (mg : Str → Option Value) (base : Heap) := Cal P w K mg base 3 "_law_wide" ["_law_pool_here"] spWide
theorem ok_wide (B : Blt mg) (D : Dfn K mg "_law_wide" "_law_wide" s_wide ["_law_pool_here"]) (C_draw : CalDraw P w K mg base) : CalWide P w K mg base := by
  refine D.cal sc_wide (fun vs H Q E h => ?_) (fun f cdv A outer st H vs Q E hr h => ?_)
  · obtain ⟨p, rfl, _⟩ := h
    rfl
  · obtain ⟨p, rfl, hP, k⟩ := h
    refine ⟨_, (pss_cons (ps_set (i := 1) sc_wide.nd rfl (Or.inl rfl) (pe_cal C_draw (hr.mono (by decide)) (pa_cons (pv 0) (pa_cons (pe_int) pa_nil))))
      (pss_cons (ps_if (pt_cmpR op_eq (pv 1) (pe_int) (nomark _)) (pss_one (ps_ret (pe_cal C_draw (hr.mono (by decide)) (pa_cons (pv 0) (pa_cons (pe_int) pa_nil))))) pss_nil)
      (pss_cons (ps_if (pt_cmpR op_lt (pv 1) (pe_int) (nomark _)) (pss_one (ps_ret (pe_cal C_draw (hr.mono (by decide)) (pa_cons (pv 0) (pa_cons (pe_int) pa_nil))))) pss_nil)
      (pss_cons (ps_set (i := 2) sc_wide.nd rfl (Or.inl rfl) (pe_ix ix_tup (pe_tup (pa_cons (pe_int) (pa_cons (pe_int) (pa_cons (pe_int) pa_nil)))) (pe_op op_sub (pv 1) (pe_int)) (fun _ _ => rfl)))
      (pss_cons (ps_set (i := 3) sc_wide.nd rfl (Or.inl rfl) (pe_int))
      (pss_cons (ps_for PassesOwn.never rfl (pi_range1 (by rfl) B.range (pa_cons (pv 2) pa_nil)) (pg_name (i := 4) sc_wide.nd rfl (Or.inl rfl)) (pss_one (ps_set (i := 3) sc_wide.nd rfl (Or.inl rfl) (pe_op op_add (pe_op op_mul (pv 3) (pe_op op_pow (pe_int) (pe_int))) (pe_cal C_draw (hr.mono (by decide)) (pa_cons (pv 0) (pa_cons (pe_op op_pow (pe_int) (pe_int)) pa_nil)))))))
      (pss_one (ps_ret (pv 3))))))))), ?_⟩
    refine ⟨_, rfl, p, 6, rfl, hP, by decide, by decide, fun s H1 s0 s1 hP1 hk1 => ?_⟩
    walk_at "go"
    walk_at "if"
    · intro _
      refine ⟨_, rfl, p, 4, rfl, hP1, by decide, by decide, fun r H2 r0 r1 hP2 hk2 => ?_⟩
      exact k r H2 r0 (by omega) hP2 (hk1.trans hk2)
    intro n0
    walk_at "go"
    walk_at "if"
    · intro _
      refine ⟨_, rfl, p, 30, rfl, hP1, by decide, by decide, fun r H2 r0 r1 hP2 hk2 => ?_⟩
      exact k r H2 r0 (by omega) hP2 (hk1.trans hk2)
    intro n3
    obtain ⟨M, eM, hM⟩ := wide_ix (s := s) (by omega) s1
    refine ⟨(by show 3 ≤ sizeLine; decide), fun t ht => ?_⟩
    walk_at "go"
    refine ⟨_, _, _, _, rfl, rfl, SqT.of upd_same, eM, ?_⟩
    refine ⟨_, rfl, _, rfl, (by omega), (by omega), for_range (n := M.toNat) (fun i σ H' => ∃ (f : Int) (v4 : Option V), σ = [some (.ref (p : Addr)), some (.int s), some (.int M), some (.int f), v4] ∧ 0 ≤ f ∧ f < 1000000 ^ i ∧ Pool H' p ∧ Keeps H H' p)
      ⟨0, none, rfl, by omega, by decide, hP1.upd ht, hk1.trans (same_keeps (same_upd ht))⟩ ?_ ?_⟩
    · rintro i σ H2 hi ⟨f, v4, rfl, f0, f1, hP2, hk2⟩
      walk_at "go"
      refine ⟨_, _, rfl, hP2, by decide, by decide, fun r H3 r0 r1 hP3 hk3 => ?_⟩
      walk_at "go"
      have r1' : r < 1000000 := r1
      refine ⟨f * 1000000 + r, _, rfl, by omega, ?_, hP3, hk2.trans hk3⟩
      rw [Int.pow_succ]
      omega
    · rintro σ H2 ⟨f, v4, rfl, f0, f1, hP2, hk2⟩
      refine ⟨_, rfl, k f H2 f0 ?_ hP2 hk2⟩
      rcases hM with rfl | rfl | rfl
      · exact Int.lt_of_lt_of_le f1 (by decide)
      · exact Int.lt_of_lt_of_le f1 (by decide)
      · exact Int.lt_of_lt_of_le f1 (by decide)

def spAny : Sp := fun vs H Q _ => ∃ (p : Pla), vs = [.ref p] ∧ Pool H p ∧ ∀ (r : Int) (H' : Hp), 0 ≤ r → r < 10 ^ 60 → Pool H' p → Keeps H H' p → Q (.int r) H'
abbrev CalAny (P : Program) (w : World) (K : PySem.W.Frag) (mg : Str → Option Value) (base : Heap) := Cal P w K mg base 4 "_law_any" ["_law_pool_here"] spAny
theorem ok_any (B : Blt mg) (D : Dfn K mg "_law_any" "_law_any" s_any ["_law_pool_here"]) (C_draw : CalDraw P w K mg base) (C_wide : CalWide P w K mg base) : CalAny P w K mg base := by
  refine D.cal sc_any (fun vs H Q E h => ?_) (fun f cdv A outer st H vs Q E hr h => ?_)
  · obtain ⟨p, rfl, _⟩ := h
    rfl
  · obtain ⟨p, rfl, hP, k⟩ := h
    have last : ∀ H1, Pool H1 p → Keeps H H1 p → spWide ([V.ref p] ++ []) H1 Q E0 := fun H1 hP1 hk1 =>
      ⟨p, rfl, hP1, fun r H2 r0 r1 hP2 hk2 => k r H2 r0 (Int.lt_of_lt_of_le r1 (by decide)) hP2 (hk1.trans hk2)⟩
    refine ⟨_, (pss_cons (ps_if (PW.pt (pw_and (pt_cmpR op_eq (pe_cal C_draw (hr.mono (by decide)) (pa_cons (pv 0) (pa_cons (pe_int) pa_nil))) (pe_int) (nomark _)) (pw_and1 (pt_cmpR op_lt (pe_ix ix_list (pv 0) (pe_int) (fun _ _ => rfl)) (pe_callB call_len_seq (by rfl) B.len PySem.boot_len (pa_cons (pe_ix ix_list (pv 0) (pe_int) (fun _ _ => rfl)) pa_nil)) (nomark _))))) (pss_cons (ps_set (i := 1) sc_any.nd rfl (Or.inl rfl) (pe_ix ix_list (pe_ix ix_list (pv 0) (pe_int) (fun _ _ => rfl)) (pe_ix ix_list (pv 0) (pe_int) (fun _ _ => rfl)) (fun _ _ => rfl)))
      (pss_cons (ps_asg (pe_op op_add (pe_ix ix_list (pv 0) (pe_int) (fun _ _ => rfl)) (pe_int)) (pg_sub (pv 0) (pe_int) set_list))
      (pss_one (ps_ret (pe_op op_modN (pe_callTy call_int1 (by rfl) B.int (by decide +kernel) (pa_cons (pe_callB call_abs (by rfl) B.abs (by decide +kernel) (pa_cons (pv 1) pa_nil)) pa_nil)) (pe_op op_pow (pe_int) (pe_int))))))) pss_nil)
      (pss_one (ps_ret (pe_cal C_wide (hr.mono (by decide)) (pa_cons (pv 0) pa_nil))))), ?_⟩
    refine ⟨_, rfl, p, 8, rfl, hP, by decide, by decide, fun s H1 s0 s1 hP1 hk1 => ?_⟩
    walk_at "go"
    obtain ⟨ns, i, b, c, d, hp, hq, hi, hqp⟩ := id hP1
    walk_at "if"
    · intro _
      refine ⟨_, rfl, _, _, _, _, rfl, rfl, SqL.of hp, rfl, ?_⟩
      refine ⟨_, rfl, _, _, _, _, rfl, rfl, SqL.of hp, rfl, ?_⟩
      refine ⟨_, _, rfl, .inl (SqL.of hq), ?_⟩
      walk_at "go"
      walk_at "if"
      · intro hl
        have hl' : i < ((ns.map V.int).length : Int) := hl
        rw [List.length_map] at hl'
        obtain ⟨n, rfl⟩ : ∃ n : Nat, i = (n : Int) := ⟨i.toNat, by omega⟩
        have hn : n < ns.length := by omega
        refine ⟨_, rfl, _, _, _, _, rfl, rfl, SqL.of hp, rfl, ?_⟩
        refine ⟨_, rfl, _, _, _, _, rfl, rfl, SqL.of hp, rfl, ?_⟩
        refine ⟨_, _, _, _, rfl, rfl, SqL.of hq, atI_nat (ints_at hn), ?_⟩
        refine ⟨_, rfl, _, _, _, _, rfl, rfl, SqL.of hp, rfl, ?_⟩
        walk_at "go"
        refine ⟨_, _, _, _, rfl, rfl, hp, rfl, ?_⟩
        walk_at "go"
        refine ⟨(by show (10 : Int) ^ (60 : Int).toNat ≠ 0; decide), ?_⟩
        have b2 := fm (if ns[n] < 0 then -ns[n] else ns[n]) (show (0 : Int) < 10 ^ 60 by decide)
        exact k _ _ b2.1 b2.2 ⟨ns, _, b, c, d, upd_same, by rw [upd_ne hqp]; exact hq, by omega, hqp⟩ (hk1.trans Keeps.upd)
      · intro _
        exact ⟨_, rfl, last _ hP1 hk1⟩
    · intro _
      exact ⟨_, rfl, last _ hP1 hk1⟩

def spSigned : Sp := fun vs H Q _ => ∃ (p : Pla), vs = [.ref p] ∧ Pool H p ∧ ∀ (r : Int) (H' : Hp), -(10 ^ 30) < r → r < 10 ^ 30 → Pool H' p → Keeps H H' p → Q (.int r) H'
abbrev CalSigned (P : Program) (w : World) (K : PySem.W.Frag) (mg : Str → Option Value) (base : Heap) := Cal P w K mg base 4 "_law_signed" ["_law_pool_here"] spSigned
theorem ok_signed (B : Blt mg) (D : Dfn K mg "_law_signed" "_law_signed" s_signed ["_law_pool_here"]) (C_draw : CalDraw P w K mg base) (C_wide : CalWide P w K mg base) : CalSigned P w K mg base := by
  refine D.cal sc_signed (fun vs H Q E h => ?_) (fun f cdv A outer st H vs Q E hr h => ?_)
  · obtain ⟨p, rfl, _⟩ := h
    rfl
  · obtain ⟨p, rfl, hP, k⟩ := h
    refine ⟨_, (pss_cons (ps_set (i := 1) sc_signed.nd rfl (Or.inl rfl) (pe_cal C_wide (hr.mono (by decide)) (pa_cons (pv 0) pa_nil)))
      (pss_cons (ps_if (pt_cmpR op_eq (pe_cal C_draw (hr.mono (by decide)) (pa_cons (pv 0) (pa_cons (pe_int) pa_nil))) (pe_int) (nomark _)) (pss_one (ps_ret (pe_un un_neg (pv 1)))) pss_nil)
      (pss_one (ps_ret (pv 1))))), ?_⟩
    refine ⟨_, rfl, p, rfl, hP, fun r H1 r0 r1 hP1 hk1 => ?_⟩
    refine ⟨_, rfl, p, 2, rfl, hP1, by decide, by decide, fun s H2 s0 s1 hP2 hk2 => ?_⟩
    walk_at "go"
    walk_at "if"
    · intro _
      exact ⟨_, rfl, _, rfl, k _ _ (by omega) (by omega) hP2 (hk1.trans hk2)⟩
    · intro _
      exact ⟨_, rfl, k _ _ (by omega) (by omega) hP2 (hk1.trans hk2)⟩

def spPool (K : PySem.W.Frag) : Sp := fun vs H Q _ => ∃ (a : Addr) (ns : List Int), vs = [.ref a] ∧ SqL K H a (ns.map V.int) ∧ ns.length ≤ 63 ∧ ∀ (p : Pla) (H' : Hp), Same H H' → H p = none → H p.q = none → Pool H' p → Q (.ref p) H'
abbrev CalPool (P : Program) (w : World) (K : PySem.W.Frag) (mg : Str → Option Value) (base : Heap) := Cal P w K mg base 1 "_law_pool" ["_law_script"] (spPool K)
theorem ok_pool (B : Blt mg) (D : Dfn K mg "_law_pool" "_law_pool" s_pool ["_law_script"]) : CalPool P w K mg base := by
  refine D.cal sc_pool (fun vs H Q E h => ?_) (fun f cdv A outer st H vs Q E hr h => ?_)
  · obtain ⟨a, ns, rfl, _⟩ := h
    rfl
  · obtain ⟨a, ns, rfl, hS, hl, k⟩ := h
    refine ⟨_, (pss_one (ps_ret (pe_lst (pa_cons (pe_lc (own := [("_law_cell", 1)]) (g := gName 1) rfl sc_pool.nd (pi_list (pv 0)) (blkOk_by (N := ["_law_script", "_law_cell"]) (sc := defScope s_pool) (by decide +kernel)) (fun _ _ _ _ _ => pg_name (i := 1) sc_pool.nd rfl (Or.inl rfl)) (fun _ _ _ _ _ => pts_nil) (fun _ _ _ _ _ => (pe_callTy call_int1 (by rfl) B.int (by decide +kernel) (pa_cons (pv 1) pa_nil)))) (pa_cons (pe_int) (pa_cons (pe_int) (pa_cons (pe_int) (pa_cons (pe_int) pa_nil)))))))), ?_⟩
    refine ⟨_, rfl, a, rfl, ⟨_, hS⟩, fun D hD => lc_list (K := K) (a := a) (xs := ns.map V.int) (fun i H' => H' = upd H D (.lst ((ns.take i).map V.int))) rfl (fun i H' _ e => by rw [e]; exact (same_upd hD).seq hS) ?_ ?_⟩
    · rintro i x H' hx rfl
      obtain ⟨z, hz, rfl⟩ := int_of_map hx
      refine ⟨rfl, ?_⟩
      refine ⟨_, rfl, .inl ⟨_, rfl, _, upd_same, ?_, ?_⟩⟩
      · rw [List.length_map, List.length_take]
        exact small1000 (by omega)
      · rw [upd_upd, List.take_add_one, hz, List.map_append]
        rfl
    · rintro H' rfl
      refine ⟨(by show 5 ≤ sizeLine; decide), fun p hp => ?_⟩
      have hne : D ≠ p := ne_of_none upd_same hp
      have hp0 : H p = none := by rw [upd_ne hne.symm] at hp; exact hp
      refine k ⟨p, D⟩ _ ((same_upd hD).trans (same_upd hp)) hp0 hD ⟨ns, 0, 0, 1, 0, upd_same, ?_, by decide, hne⟩
      show upd _ p _ D = _
      rw [upd_ne hne, upd_same, List.length_map, List.take_length]

theorem kit_own {K : PySem.W.Frag} {t : Value} {C : Addr} {b : Bool} (hd : PySem.W.hasDictIn K C = true) (ht : PySem.W.typeIn K (.ref C) = some (.type "type")) (hs : PySem.W.subIn K t (.ref C) = some b) (hself : PySem.W.subIn K t t = some true) : PySem.W.kitOne K t (.ref C) = some b := by
  unfold PySem.W.kitOne
  by_cases h : (t == Value.ref C) = true
  · rw [if_pos h]
    have e := beq_iff_eq.mp h
    subst e
    rw [hs] at hself
    exact hself.symm
  · rw [if_neg h]
    obtain ⟨cd, hc, _⟩ := PySem.W.any_some hd
    have e2 : ((PySem.W.clsIn K C).isSome && PySem.W.typeIn K (.ref C) == some (.type "type")) = true := by rw [hc, ht] <;> rfl
    show (if ((PySem.W.clsIn K C).isSome && PySem.W.typeIn K (.ref C) == some (.type "type")) = true then PySem.W.subIn K t (.ref C) else none) = some b
    rw [if_pos e2]
    exact hs
theorem kit_int {K : PySem.W.Frag} {C : Addr} {b : Bool} (hd : PySem.W.hasDictIn K C = true) (ht : PySem.W.typeIn K (.ref C) = some (.type "type")) (hs : PySem.W.subIn K (.type "int") (.ref C) = some b) : PySem.W.kitOne K (.type "int") (.ref C) = some b := by
  unfold PySem.W.kitOne
  rw [if_neg (by intro h; cases beq_iff_eq.mp h)]
  obtain ⟨cd, hc, _⟩ := PySem.W.any_some hd
  have e2 : ((PySem.W.clsIn K C).isSome && PySem.W.typeIn K (.ref C) == some (.type "type")) = true := by rw [hc, ht] <;> rfl
  show (if ((PySem.W.clsIn K C).isSome && PySem.W.typeIn K (.ref C) == some (.type "type")) = true then PySem.W.subIn K (.type "int") (.ref C) else none) = some b
  rw [if_pos e2]
  exact hs
def spWhole : Sp := fun vs H Q _ => ∃ (i : Int), vs = [.int i] ∧ Q (.bl true) H
abbrev CalWhole (P : Program) (w : World) (K : PySem.W.Frag) (mg : Str → Option Value) (base : Heap) := Cal P w K mg base 1 "_law_whole" ["_law_actual"] spWhole
theorem ok_whole (B : Blt mg) (D : Dfn K mg "_law_whole" "_law_whole" s_whole ["_law_actual"]) : CalWhole P w K mg base := by
  refine D.cal sc_whole (fun vs H Q E h => ?_) (fun f cdv A outer st H vs Q E hr h => ?_)
  · obtain ⟨i, rfl, _⟩ := h
    rfl
  · obtain ⟨i, rfl, q⟩ := h
    refine ⟨_, (pss_one (ps_ret ((pe_and (pe_callB call_isi (by rfl) B.isinstance (by decide +kernel) (pa_cons (pv 0) (pa_cons (pe_bltn (v := .ty "int") (by rfl) B.int (by decide +kernel) rfl) pa_nil))) (pe_one (pe_not (pe_callB call_isi (by rfl) B.isinstance (by decide +kernel) (pa_cons (pv 0) (pa_cons (pe_bltn (v := .ty "bool") (by rfl) B.bool (by decide +kernel) rfl) pa_nil))))))))), ?_⟩
    refine ⟨_, rfl, _, _, _, _, true, rfl, .ty _, .base (.int _), kit_ty (by decide +kernel), _, rfl, iteT ?_⟩
    refine ⟨_, rfl, _, _, _, _, false, rfl, .ty _, .base (.int _), kit_ty (by decide +kernel), _, rfl, ?_⟩
    exact q
end
end L

set_option Elab.async false
set_option linter.all false
set_option maxRecDepth 100000
set_option maxHeartbeats 4000000
set_option pp.maxSteps 160
set_option pp.deepTerms false
namespace L
open PySem PySem.Spec PyProof.Rows L2 Fl
local macro_rules | `(tactic| walk_at "side") => `(tactic| first | (exact .inl ⟨by omega, by omega⟩) | (exact .inr ⟨by omega, by omega⟩) | (exact .inr ⟨by decide, by decide⟩) | (show (_ : Int) ≠ _; omega) | (exact ⟨by omega, by decide⟩) | (exact ⟨by decide, by decide, by decide⟩))
local macro_rules | `(tactic| walk_at "go") => `(tactic| repeat (first | refine ⟨_, rfl, ?_⟩ | refine ⟨_, _, rfl, rfl, ?_⟩ | refine .inl ⟨_, rfl, ?_⟩ | refine ⟨rfl, ?_⟩ | refine ⟨(by walk_at "side"), ?_⟩))
local macro_rules | `(tactic| walk_at "see") => `(tactic| (set_option pp.maxSteps 110 in set_option pp.deepTerms false in trace_state))
local macro_rules | `(tactic| walk_at "if") => `(tactic| first | refine ifE ?_ ?_ | refine ifNE ?_ ?_ | refine ifD ?_ ?_ | refine ifN ?_ ?_ | refine ifB ?_ ?_)

/-! ### instances of Run -/
def gf (f s c : Int) : List (Str × V) := putF "count" (.int c) (putF "step" (.int s) (putF "first" (.int f) []))
theorem fs_ne : ¬ (("first" : Str) = "step") := by decide +kernel
theorem fc_ne : ¬ (("first" : Str) = "count") := by decide +kernel
theorem sc_ne : ¬ (("step" : Str) = "count") := by decide +kernel
theorem gf_first (f s c : Int) : (gf f s c).lookup ("first" : Str) = some (.int f) := by
  unfold gf
  rw [lookup_putF, if_neg fc_ne, lookup_putF, if_neg fs_ne, lookup_putF, if_pos rfl]
theorem gf_step (f s c : Int) : (gf f s c).lookup ("step" : Str) = some (.int s) := by
  unfold gf
  rw [lookup_putF, if_neg sc_ne, lookup_putF, if_pos rfl]
theorem gf_count (f s c : Int) : (gf f s c).lookup ("count" : Str) = some (.int c) := by
  unfold gf
  rw [lookup_putF, if_pos rfl]
theorem gf_no (f s c : Int) {m : Str} (h1 : ¬ m = "count") (h2 : ¬ m = "step") (h3 : ¬ m = "first") : (gf f s c).lookup m = none := by
  unfold gf
  rw [lookup_putF, if_neg h1, lookup_putF, if_neg h2, lookup_putF, if_neg h3]
  rfl
structure RunOk (f s c : Int) : Prop where
  f0 : 0 ≤ f
  s1 : 1 ≤ s
  s4 : s ≤ 4
  c1 : 1 ≤ c
def RunAt (D : Addr) (H : Hp) (x : Addr) (f s c : Int) : Prop := ∃ dx, H x = some (.ins D dx (gf f s c))
theorem RunAt.same {D : Addr} {H H' : Hp} {x : Addr} {f s c : Int} (h : RunAt D H x f s c) (k : Same H H') : RunAt D H' x f s c := by
  obtain ⟨dx, h⟩ := h
  exact ⟨dx, k _ _ h⟩
theorem RunAt.keep {D p : Addr} {H H' : Hp} {x : Addr} {f s c : Int} (h : RunAt D H x f s c) (k : Keeps H H' p) (n : x ≠ p) : RunAt D H' x f s c := by
  obtain ⟨dx, h⟩ := h
  exact ⟨dx, k _ _ h n⟩
theorem RunAt.ne_pool {D : Addr} {p : Pla} {H : Hp} {x : Addr} {f s c : Int} (h : RunAt D H x f s c) (hp : Pool H p) : x ≠ p := by
  obtain ⟨dx, h⟩ := h
  obtain ⟨ns, i, b, c, d, h1, _⟩ := hp
  exact ne_of h h1 (by intro z; cases z)
structure RunC (K : PySem.W.Frag) (mg : Str → Option Value) (D : Addr) : Prop where
  cl : Cls K D
  nF : NoAttr K D "first"
  nS : NoAttr K D "step"
  nC : NoAttr K D "count"
  g : mg "Run" = some (.ref D)
  ha : PySem.W.findIn K (.ref D) "__class__" = some (some (.builtin "object.__class__"))
  hn : PySem.W.specialIn K (.builtin "object.__class__") "__get__" = some (some (.builtin "getset_descriptor.__get__"))
  htk : PySem.W.takesIn K (.builtin "object.__class__") = some true
  hm : PySem.W.mroIn K D (.type "object") = some true
theorem RunC.tyX {K : PySem.W.Frag} {mg : Str → Option Value} {D : Addr} (T : RunC K mg D) {H : Hp} {x dx : Addr} {fs : List (Str × V)} (h : H x = some (.ins D dx fs)) : TyX K H (.ref x) (.ref D) := .base (.ins h T.cl T.ha T.hn T.htk T.hm)
/-- how many strengths are less than k -/
def bel (f s c k : Int) : Int := if k ≤ f then 0 else if k > f + s * (c - 1) then c else (k - f + s - 1).fdiv s
theorem s_cases {f s c : Int} (h : RunOk f s c) : s = 1 ∨ s = 2 ∨ s = 3 ∨ s = 4 := by
  have := h.s1
  have := h.s4
  omega
theorem bel_ok {f s c k : Int} (h : RunOk f s c) : 0 ≤ bel f s c k ∧ bel f s c k ≤ c ∧ (0 < bel f s c k → f + s * (bel f s c k - 1) < k) ∧ (bel f s c k < c → k ≤ f + s * bel f s c k) := by
  have := h.c1
  have := h.f0
  unfold bel
  split
  · refine ⟨by omega, by omega, fun h => absurd h (by omega), fun _ => by omega⟩
  split
  · rcases s_cases h with rfl | rfl | rfl | rfl <;> refine ⟨by omega, by omega, fun _ => by omega, fun h => absurd h (by omega)⟩
  · rw [Int.fdiv_eq_ediv_of_nonneg _ (by have := h.s1; omega)]
    rcases s_cases h with rfl | rfl | rfl | rfl <;> refine ⟨by omega, by omega, fun _ => by omega, fun _ => by omega⟩
/-- a method of the class C by the name m -/
structure CalM (P : Program) (w : World) (K : PySem.W.Frag) (mg : Str → Option Value) (base : Heap) (k : Nat) (C : Addr) (m : Str) (ps : List Str) (sp : Sp) : Prop where
  ex : ∃ (f : Addr) (fd : FuncData), Meth K C m f ∧ FnOk P w K mg base CX0 k f fd ps sp ∧ Binds K fd ps []
/-- v in a, a of the class C with the def sp for __contains__ -/
def rInOwn (C : Addr) (sp : Sp) : R2 := fun x y H Q => ∃ (a dx : Addr) (gs : List (Str × V)), y = .ref a ∧ H a = some (.ins C dx gs) ∧ sp [.ref a, x] H (fun z H2 => ∃ b, z = .bl b ∧ Q (.bl b) H2) E0
theorem op_inOwn {X : Cx} {k : Nat} {C : Addr} {ps : List Str} {sp : Sp} (M : CalM X.prog X.w X.K X.mg X.base k C "__contains__" ps sp) (hr : Room k X.A) : OpR X (compareOp .In) (rInOwn C sp) := by
  obtain ⟨f, fd, hM, F, b⟩ := M.ex
  intro pins s σ H x y v u Q I rx ry h
  obtain ⟨a, dx, gs, rfl, ea, q⟩ := h
  cases ry
  obtain ⟨mA, J, _⟩ := ins_get I.hok ea
  obtain ⟨od, J, _⟩ := J.look
  obtain ⟨m, hF⟩ := I.fr
  refine PySem.W.in_K hF I.ok.mod.kin J hM.at_ hM.fn (wpAny_mono (run_fn F hr b (dvs := []) .nil pass0 I (.cons (show RelV (.ref a) (.ref a) from rfl) (.cons rx .nil)) q) (fun w s' hw => ?_) fun _ _ z => z)
  obtain ⟨z, H2, I2, rz, c, rfl, q2⟩ := hw
  cases rz
  exact wpAny_truthy_bool ⟨.bl c, H2, I2, rfl, q2⟩
section
variable {P : Program} {w : World} {K : PySem.W.Frag} {mg : Str → Option Value} {base : Heap}

theorem ok_bn {C f : Addr} {fd : FuncData} (T : BnC K mg C) (F : Fun K "__init__" "BadNumber.__init__" s_BadNumber_init f fd) : FnOk P w K mg base CX0 1 f fd ["self", "name", "value"] (spBN C) := by
  refine F.ok sc_BadNumber_init (fun vs H Q E h => ?_) (fun cdv A outer st H vs Q E hr h => ?_)
  · obtain ⟨a, n, v, rfl, _⟩ := h
    rfl
  · obtain ⟨a, n, v, rfl, ha, k⟩ := h
    refine ⟨_, pss_cons (ps_ost (pv 0) (pv 1)) (pss_one (ps_ost (pv 0) (pv 2))), ?_⟩
    refine ⟨_, rfl, _, rfl, a, C, rfl, T.o, T.nN, .inl ⟨ha, fun dx hdx hne => ?_⟩⟩
    refine ⟨_, rfl, _, rfl, a, C, rfl, T.o, T.nV, .inr ⟨dx, [("name", n)], upd_same, ?_, (by show 1 ≤ 900; decide), k dx hdx hne⟩⟩
    rw [upd_ne hne, upd_same]

def spRunInit (D BN : Addr) : Sp := fun vs H Q E => ∃ (x dx : Addr) (f s c : Int), vs = [.ref x, .int f, .int s, .int c] ∧ H x = some (.ins D dx []) ∧ (f < 0 → Ref E BN H "first" f) ∧ (0 ≤ f → (s < 1 ∨ 4 < s) → Ref E BN H "step" s) ∧
  (0 ≤ f → 1 ≤ s → s ≤ 4 → c < 1 → Ref E BN H "count" c) ∧ (0 ≤ f → 1 ≤ s → s ≤ 4 → 1 ≤ c → ∀ H' : Hp, H' x = some (.ins D dx (gf f (if c > 1 then s else 1) c)) → Keeps H H' x → Q .non H')
abbrev CalRun (P : Program) (w : World) (K : PySem.W.Frag) (mg : Str → Option Value) (base : Heap) (D BN : Addr) := CalC P w K mg base (L2.CX P w) 3 D "Run" ["self", "first", "step", "count"] [] (spRunInit D BN)
theorem ok_run_init {D BN fI : Addr} {tk : Tok} {fd : FuncData} (B : Blt mg) (T : RunC K mg D) (TB : BnC K mg BN) (CE : CalE P w K mg base 1 BN) (gMS : mg "MOST_STEP" = some (.int 4 tk)) (F : Fun K "__init__" "Run.__init__" s_Run_init fI fd) : FnOk P w K mg base (L2.CX P w) 3 fI fd ["self", "first", "step", "count"] (spRunInit D BN) := by
  refine F.okX sc_Run_init (fun vs H Q E h => ?_) (fun cdv A outer st H vs Q E hr h => ?_)
  · obtain ⟨x, dx, f, s, c, rfl, _⟩ := h
    rfl
  · obtain ⟨x, dx, f, s, c, rfl, hx, k1, k2, k3, k⟩ := h
    have hr0 : Room 2 _ := hr
    refine ⟨_, (pss_cons (ps_if (pt_cmpR op_lt (pv 1) (pe_int) (nomark _)) (pss_one (ps_raise rfl (takes_of rfl rfl rfl rfl) (pmk_bn TB CE (hr0.mono (by decide)) (pa_cons pe_str (pa_cons (pv 1) pa_nil))))) pss_nil)
      (pss_cons (ps_if (pt_not (pt_chain op_le op_le (pe_int) (pv 2) (pe_glob (v := .int 4) (by rfl) gMS ⟨_, rfl⟩))) (pss_one (ps_raise rfl (takes_of rfl rfl rfl rfl) (pmk_bn TB CE (hr0.mono (by decide)) (pa_cons pe_str (pa_cons (pv 2) pa_nil))))) pss_nil)
      (pss_cons (ps_if (pt_cmpR op_lt (pv 3) (pe_int) (nomark _)) (pss_one (ps_raise rfl (takes_of rfl rfl rfl rfl) (pmk_bn TB CE (hr0.mono (by decide)) (pa_cons pe_str (pa_cons (pv 3) pa_nil))))) pss_nil)
      (pss_cons (ps_fld (pv 0) (pv 1) rfl)
      (pss_cons (ps_fld (pv 0) (pe_ifExp (pt_cmpR op_gt (pv 3) (pe_int) (nomark _)) (pv 2) (pe_int)) rfl)
      (pss_one (ps_fld (pv 0) (pv 3) rfl))))))), ?_⟩
    walk_at "go"
    walk_at "if"
    · intro h1
      exact ⟨_, rfl, bn_made (k1 h1)⟩
    intro h1
    walk_at "go"
    walk_at "if"
    · intro h2
      walk_at "go"
      walk_at "if"
      · intro h3
        exact ⟨_, rfl, bn_made (k2 (by omega) (.inr (by omega)))⟩
      intro h3
      walk_at "go"
      walk_at "if"
      · intro h4
        exact ⟨_, rfl, bn_made (k3 (by omega) h2 h3 h4)⟩
      intro h4
      have fin : ∀ (s' : Int), s' = (if c > 1 then s else 1) → Q .non (upd (upd (upd H x (.ins D dx (putF "first" (.int f) []))) x (.ins D dx (putF "step" (.int s') (putF "first" (.int f) [])))) x (.ins D dx (putF "count" (.int c) (putF "step" (.int s') (putF "first" (.int f) []))))) := fun s' e =>
        k (by omega) h2 h3 (by omega) _ (by rw [upd_same, e]; rfl) ((Keeps.upd.trans Keeps.upd).trans Keeps.upd)
      refine ⟨_, rfl, _, rfl, x, D, dx, [], rfl, hx, T.cl, T.nF, (by show 0 < 1000; decide), ?_⟩
      walk_at "go"
      walk_at "if"
      · intro h5
        refine ⟨_, rfl, _, rfl, x, D, dx, _, rfl, upd_same, T.cl, T.nS, (by show 1 < 1000; decide), ?_⟩
        refine ⟨_, rfl, _, rfl, x, D, dx, _, rfl, upd_same, T.cl, T.nC, (by show 2 < 1000; decide), ?_⟩
        exact fin s (by rw [if_pos h5])
      · intro h5
        refine ⟨_, rfl, x, D, dx, _, rfl, upd_same, T.cl, T.nS, (by show 1 < 1000; decide), ?_⟩
        refine ⟨_, rfl, _, rfl, x, D, dx, _, rfl, upd_same, T.cl, T.nC, (by show 2 < 1000; decide), ?_⟩
        exact fin 1 (by rw [if_neg h5])
    · intro h2
      walk_at "go"
      exact bn_made (k2 (by omega) (.inl (by omega)))
structure CalP (P : Program) (w : World) (K : PySem.W.Frag) (mg : Str → Option Value) (base : Heap) (k : Nat) (C : Addr) (f : Str) (sp : Sp) : Prop where
  ex : ∃ (p g : Addr) (fd : FuncData), PropOf K C f p g ∧ FnOk P w K mg base CX0 k g fd ["self"] sp ∧ Binds K fd ["self"] []
theorem pe_calP {X : Cx} {k : Nat} {C : Addr} {f : Str} {sp : Sp} {e : Expr} {pos : Pos} {ta : TE} (cl : Cls X.K C) (G : CalP X.prog X.w X.K X.mg X.base k C f sp) (hr : Room (k + 1) X.A) (he : PE X e ta) (hab : attributeBase e f X.env (eval e X.env) = eval e X.env := by rfl) :
    PE X (.Attribute e f pos) (tProp C sp [] E0 ta) := by
  obtain ⟨p, g, fd, hp, F, b⟩ := G.ex
  exact pe_prop he cl hp F hr b .nil pass0 hab
def spLast (D : Addr) : Sp := fun vs H Q _ => ∃ (x : Addr) (f s c : Int), vs = [.ref x] ∧ RunAt D H x f s c ∧ RunOk f s c ∧ Q (.int (f + s * (c - 1))) H
theorem ok_last {D fA : Addr} {fd : FuncData} (T : RunC K mg D) (F : Fun K "last" "Run.last" s_Run_last fA fd) : FnOk P w K mg base CX0 1 fA fd ["self"] (spLast D) := by
  refine F.ok sc_Run_last (fun vs H Q E h => ?_) (fun cdv A outer st H vs Q E hr h => ?_)
  · obtain ⟨x, f, s, c, rfl, _⟩ := h
    rfl
  · obtain ⟨x, f, s, c, rfl, ⟨dx, hx⟩, ok, q⟩ := h
    have := ok.s1
    have := ok.s4
    refine ⟨_, (pss_one (ps_ret (pe_op op_add (pe_fld (pv 0) rfl) (pe_op op_mul (pe_fld (pv 0) rfl) (pe_op op_sub (pe_fld (pv 0) rfl) (pe_int)))))), ?_⟩
    refine ⟨_, rfl, x, D, dx, _, _, rfl, hx, T.cl, T.nF, gf_first _ _ _, ?_⟩
    refine ⟨_, rfl, x, D, dx, _, _, rfl, hx, T.cl, T.nS, gf_step _ _ _, ?_⟩
    refine ⟨_, rfl, x, D, dx, _, _, rfl, hx, T.cl, T.nC, gf_count _ _ _, ?_⟩
    refine ⟨_, _, rfl, rfl, ?_⟩
    refine ⟨_, _, rfl, rfl, .inl ⟨by omega, by omega⟩, ?_⟩
    exact ⟨_, _, rfl, rfl, q⟩
def spBelow (D : Addr) : Sp := fun vs H Q _ => ∃ (x : Addr) (f s c k : Int), vs = [.ref x, .int k] ∧ RunAt D H x f s c ∧ RunOk f s c ∧ Q (.int (bel f s c k)) H
theorem ok_below {D fA : Addr} {fd : FuncData} (T : RunC K mg D) (CL : CalP P w K mg base 1 D "last" (spLast D)) (F : Fun K "below" "Run.below" s_Run_below fA fd) : FnOk P w K mg base CX0 3 fA fd ["self", "k"] (spBelow D) := by
  refine F.ok sc_Run_below (fun vs H Q E h => ?_) (fun cdv A outer st H vs Q E hr h => ?_)
  · obtain ⟨x, f, s, c, k, rfl, _⟩ := h
    rfl
  · obtain ⟨x, f, s, c, k, rfl, ⟨dx, hx⟩, ok, q⟩ := h
    have := ok.s1
    have := ok.s4
    unfold bel at q
    refine ⟨_, (pss_cons (ps_if (pt_cmpR op_le (pv 1) (pe_fld (pv 0) rfl) (nomark _)) (pss_one (ps_ret (pe_int))) pss_nil)
      (pss_cons (ps_if (pt_cmpR op_gt (pv 1) (pe_calP T.cl CL (hr.mono (by decide)) (pv 0)) (nomark _)) (pss_one (ps_ret (pe_fld (pv 0) rfl))) pss_nil)
      (pss_one (ps_ret (pe_op op_fdivA (pe_op op_sub (pe_op op_add (pe_op op_sub (pv 1) (pe_fld (pv 0) rfl)) (pe_fld (pv 0) rfl)) (pe_int)) (pe_fld (pv 0) rfl)))))), ?_⟩
    refine ⟨_, rfl, _, rfl, x, D, dx, _, _, rfl, hx, T.cl, T.nF, gf_first _ _ _, ?_⟩
    walk_at "go"
    walk_at "if"
    · intro h1
      rw [if_pos h1] at q
      exact q
    intro h1
    rw [if_neg h1] at q
    refine ⟨_, rfl, _, rfl, x, dx, _, rfl, hx, x, f, s, c, rfl, ⟨dx, hx⟩, ok, ?_⟩
    walk_at "go"
    walk_at "if"
    · intro h2
      rw [if_pos h2] at q
      exact ⟨_, rfl, x, D, dx, _, _, rfl, hx, T.cl, T.nC, gf_count _ _ _, q⟩
    intro h2
    rw [if_neg h2] at q
    refine ⟨_, rfl, _, rfl, x, D, dx, _, _, rfl, hx, T.cl, T.nF, gf_first _ _ _, ?_⟩
    refine ⟨_, _, rfl, rfl, ?_⟩
    refine ⟨_, rfl, x, D, dx, _, _, rfl, hx, T.cl, T.nS, gf_step _ _ _, ?_⟩
    refine ⟨_, _, rfl, rfl, _, _, rfl, rfl, ?_⟩
    refine ⟨_, rfl, x, D, dx, _, _, rfl, hx, T.cl, T.nS, gf_step _ _ _, ?_⟩
    exact ⟨_, _, rfl, rfl, divA (b := 20) (by omega) (by omega) (by decide) (by decide), q⟩
def spAbove (D : Addr) : Sp := fun vs H Q _ => ∃ (x : Addr) (f s c k : Int), vs = [.ref x, .int k] ∧ RunAt D H x f s c ∧ RunOk f s c ∧ Q (.int (c - bel f s c (k + 1))) H
theorem ok_above {D fA : Addr} {fd : FuncData} (T : RunC K mg D) (C_below : CalM P w K mg base 3 D "below" ["self", "k"] (spBelow D)) (F : Fun K "above" "Run.above" s_Run_above fA fd) : FnOk P w K mg base CX0 4 fA fd ["self", "k"] (spAbove D) := by
  obtain ⟨_, _, m_below, F_below, b_below⟩ := C_below.ex
  refine F.ok sc_Run_above (fun vs H Q E h => ?_) (fun cdv A outer st H vs Q E hr h => ?_)
  · obtain ⟨x, f, s, c, k, rfl, _⟩ := h
    rfl
  · obtain ⟨x, f, s, c, k, rfl, ⟨dx, hx⟩, ok, q⟩ := h
    refine ⟨_, (pss_one (ps_ret (pe_op op_sub (pe_fld (pv 0) rfl) (pe_meth (pv 0) T.cl m_below F_below (hr.mono (by decide)) b_below .nil pass0 (pa_cons (pe_op op_add (pv 1) (pe_int)) pa_nil))))), ?_⟩
    refine ⟨_, rfl, x, D, dx, _, _, rfl, hx, T.cl, T.nC, gf_count _ _ _, ?_⟩
    refine ⟨_, rfl, x, dx, _, rfl, hx, gf_no _ _ _ (by decide +kernel) (by decide +kernel) (by decide +kernel), ?_⟩
    refine ⟨_, rfl, _, _, rfl, rfl, x, f, s, c, k + 1, rfl, ⟨dx, hx⟩, ok, ?_⟩
    exact ⟨_, _, rfl, rfl, q⟩
def isin (f s c k : Int) : Bool := decide (f ≤ k) && decide (k ≤ f + s * (c - 1)) && decide ((k - f).fmod s = 0)
def spCont (D : Addr) : Sp := fun vs H Q _ => ∃ (x : Addr) (f s c k : Int), vs = [.ref x, .int k] ∧ RunAt D H x f s c ∧ RunOk f s c ∧ Q (.bl (isin f s c k)) H
theorem ok_cont {D fA : Addr} {fd : FuncData} (T : RunC K mg D) (CL : CalP P w K mg base 1 D "last" (spLast D)) (F : Fun K "__contains__" "Run.__contains__" s_Run_contains fA fd) : FnOk P w K mg base CX0 3 fA fd ["self", "x"] (spCont D) := by
  refine F.ok sc_Run_contains (fun vs H Q E h => ?_) (fun cdv A outer st H vs Q E hr h => ?_)
  · obtain ⟨x, f, s, c, k, rfl, _⟩ := h
    rfl
  · obtain ⟨x, f, s, c, k, rfl, ⟨dx, hx⟩, ok, q⟩ := h
    have := ok.s1
    have := ok.s4
    unfold isin at q
    refine ⟨_, (pss_one (ps_ret ((pe_and (pe_chain op_le op_le (pe_fld (pv 0) rfl) (pv 1) (pe_calP T.cl CL (hr.mono (by decide)) (pv 0))) (pe_one (pe_cmpR op_eq (pe_op op_modN (pe_op op_sub (pv 1) (pe_fld (pv 0) rfl)) (pe_fld (pv 0) rfl)) (pe_int) (nomark _))))))), ?_⟩
    refine ⟨_, rfl, x, D, dx, _, _, rfl, hx, T.cl, T.nF, gf_first _ _ _, ?_⟩
    refine ⟨_, rfl, _, _, rfl, rfl, _, rfl, ?_⟩
    walk_at "if"
    · intro h1
      rw [decide_eq_true h1] at q
      refine ⟨_, rfl, x, dx, _, rfl, hx, x, f, s, c, rfl, ⟨dx, hx⟩, ok, ?_⟩
      refine ⟨_, _, rfl, rfl, _, rfl, ?_⟩
      walk_at "if"
      · intro h2
        rw [decide_eq_true h2] at q
        refine ⟨_, rfl, _, rfl, x, D, dx, _, _, rfl, hx, T.cl, T.nF, gf_first _ _ _, ?_⟩
        refine ⟨_, _, rfl, rfl, ?_⟩
        refine ⟨_, rfl, x, D, dx, _, _, rfl, hx, T.cl, T.nS, gf_step _ _ _, ?_⟩
        refine ⟨_, _, rfl, rfl, (show s ≠ 0 by omega), rfl, ?_⟩
        have e : decide (V.int ((k - f).fmod s) = V.int 0) = decide ((k - f).fmod s = 0) := by
          by_cases h : (k - f).fmod s = 0
          · rw [decide_eq_true h, h]
            rfl
          · rw [decide_eq_false h, decide_eq_false (fun z => h (V.int.inj z))]
        show Q (V.bl (decide (V.int ((k - f).fmod s) = V.int 0))) _
        rw [e]
        exact q
      · intro h2
        rw [decide_eq_false h2] at q
        exact q
    · intro h1
      rw [decide_eq_false h1] at q
      exact ⟨_, rfl, q⟩

def spInit (C ZU : Addr) : Sp := fun vs H Q E => ∃ (x dx : Addr) (t u : Int), vs = [.ref x, .int t, .int u] ∧ H x = some (.ins C dx []) ∧ u.natAbs < 2 ^ 8000 ∧
  (u ≠ 0 → ∀ H' : Hp, H' x = some (.ins C dx (rf (nT t u) (nU t u))) → Keeps H H' x → Q .non H') ∧ (u = 0 → E (.ref ZU) none H)
abbrev CalRatio (P : Program) (w : World) (K : PySem.W.Frag) (mg : Str → Option Value) (base : Heap) (C ZU : Addr) (dvs : List V) := CalC P w K mg base (L2.CX P w) 1 C "Ratio" ["self", "top", "under"] dvs (spInit C ZU)
theorem ok_init {C ZU f : Addr} {fd : FuncData} (B : Blt mg) (hgcd : mg "gcd" = some (.builtin "math.gcd")) (T : RatC K mg C) (TZ : ExC K mg "ZeroUnder" ZU)
    (F : FunD K "__init__" "Ratio.__init__" (defArgs s_Ratio_init) (defBody s_Ratio_init) (defScope s_Ratio_init) [.int 1] [] f fd) : FnOk P w K mg base (L2.CX P w) 1 f fd ["self", "top", "under"] (spInit C ZU) := by
  refine F.ok sc_Ratio_init (fun vs H Q E h => ?_) (fun cdv A outer st H vs Q E hr h => ?_)
  · obtain ⟨x, dx, t, u, rfl, _⟩ := h
    rfl
  · obtain ⟨x, dx, t, u, rfl, hx, hu, k, k0⟩ := h
    refine ⟨_, (pss_cons (ps_if (pt_cmpR op_eq (pv 2) (pe_int) (nomark _)) (pss_one (ps_raise rfl (takes_of rfl rfl rfl rfl) (pmk_own PySem.F.excBase_ValueError TZ.x TZ.g TZ.k (raises_own TZ.b TZ.t) rfl))) pss_nil)
      (pss_cons (ps_set (i := 3) sc_Ratio_init.nd rfl (Or.inl rfl) (pe_callBfun cr_gcd (by rfl) hgcd (pa_cons (pv 1) (pa_cons (pv 2) pa_nil))))
      (pss_cons (ps_if (pt_cmpR op_lt (pv 2) (pe_int) (nomark _)) (pss_one (ps_set (i := 3) sc_Ratio_init.nd rfl (Or.inl rfl) (pe_un un_neg (pv 3)))) pss_nil)
      (pss_cons (ps_fld (pv 0) (pe_op op_fdivA (pv 1) (pv 3)) rfl)
      (pss_one (ps_fld (pv 0) (pe_op op_fdivA (pv 2) (pv 3)) rfl)))))), ?_⟩
    walk_at "go"
    walk_at "if"
    · intro h0
      exact k0 h0
    intro h0
    refine ⟨_, rfl, _, rfl, _, _, rfl, ?_⟩
    walk_at "go"
    have hsn : sh t u ≠ 0 := sh_ne h0
    have hsb : (sh t u).natAbs < 2 ^ 8000 := by
      rw [sh_abs]
      exact Nat.lt_of_le_of_lt (Nat.le_of_dvd (by omega) (Nat.gcd_dvd_right _ _)) hu
    walk_at "if"
    · intro hn
      have es : sh t u = -((Nat.gcd t.natAbs u.natAbs : Nat) : Int) := if_pos hn
      have hd : CDivA t (-((Nat.gcd t.natAbs u.natAbs : Nat) : Int)) := es ▸ divA (b := 8000) hsn hsb (by decide) (by decide)
      walk_at "go"
      refine ⟨hd, ?_⟩
      refine ⟨_, rfl, x, C, dx, [], rfl, hx, T.cl, T.nT, (by show 0 < 1000; decide), ?_⟩
      refine ⟨_, rfl, _, rfl, _, _, rfl, rfl, hd, ?_⟩
      refine ⟨_, rfl, x, C, dx, _, rfl, upd_same, T.cl, T.nU, (by show 1 < 1000; decide), ?_⟩
      refine k h0 _ ?_ (Keeps.upd.trans Keeps.upd)
      rw [upd_same]
      unfold rf nT nU
      rw [es]
    · intro hn
      have es : sh t u = ((Nat.gcd t.natAbs u.natAbs : Nat) : Int) := if_neg hn
      have hd : CDivA t ((Nat.gcd t.natAbs u.natAbs : Nat) : Int) := es ▸ divA (b := 8000) hsn hsb (by decide) (by decide)
      walk_at "go"
      refine ⟨hd, ?_⟩
      refine ⟨_, rfl, x, C, dx, [], rfl, hx, T.cl, T.nT, (by show 0 < 1000; decide), ?_⟩
      refine ⟨_, rfl, _, rfl, _, _, rfl, rfl, hd, ?_⟩
      refine ⟨_, rfl, x, C, dx, _, rfl, upd_same, T.cl, T.nU, (by show 1 < 1000; decide), ?_⟩
      refine k h0 _ ?_ (Keeps.upd.trans Keeps.upd)
      rw [upd_same]
      unfold rf nT nU
      rw [es]
theorem mk_ratio {C ZU f : Addr} {fd : FuncData} (B : Blt mg) (hgcd : mg "gcd" = some (.builtin "math.gcd")) (T : RatC K mg C) (TZ : ExC K mg "ZeroUnder" ZU) (M : Mk K C f)
    (F : FunD K "__init__" "Ratio.__init__" (defArgs s_Ratio_init) (defBody s_Ratio_init) (defScope s_Ratio_init) [.int 1] [] f fd) : CalRatio P w K mg base C ZU [] ∧ CalRatio P w K mg base C ZU [.int 1] := by
  obtain ⟨d2, r2, b2⟩ := F.binds1 (ps := ["self", "top", "under"]) 3 1 (by intro e; cases e) rfl (fun T kV doc pm an cdv ct us its h1 h2 => match us, its, h1, h2 with | [_, _, _], [_], _, _ => ⟨_, rfl, rfl⟩)
  obtain ⟨d1, r1, b1⟩ := F.binds1 (ps := ["self", "top", "under"]) 2 0 (by intro e; cases e) rfl (fun T kV doc pm an cdv ct us its h1 h2 => match us, its, h1, h2 with | [_, _], [_], _, _ => ⟨_, rfl, rfl⟩)
  exact ⟨⟨f, fd, d2, M, ok_init B hgcd T TZ F, T.g, b2, r2⟩, ⟨f, fd, d1, M, ok_init B hgcd T TZ F, T.g, b1, r1⟩⟩
theorem made {C x dx : Addr} {fs : List (Str × V)} {H H' : Hp} (nx : H x = none) (ndx : H dx = none) (hk : Keeps (upd (upd H dx (.own x)) x (.ins C dx fs)) H' x) : Same H H' := fun b o e =>
  hk b o (by rw [upd_ne (ne_of_none e nx), upd_ne (ne_of_none e ndx)]; exact e) (ne_of_none e nx)
end
theorem wide4 {n : Int} {m : Nat} (h : n.natAbs < 2 ^ m) (hm : m ≤ 4000) : n.natAbs < 2 ^ 4000 := Nat.lt_of_lt_of_le h (Nat.pow_le_pow_right (by decide) hm)
theorem wide8 {n : Int} {m : Nat} (h : n.natAbs < 2 ^ m) (hm : m ≤ 8000) : n.natAbs < 2 ^ 8000 := Nat.lt_of_lt_of_le h (Nat.pow_le_pow_right (by decide) hm)
end L

set_option Elab.async false
set_option linter.all false
set_option maxRecDepth 100000
set_option maxHeartbeats 4000000
set_option pp.maxSteps 160
set_option pp.deepTerms false
namespace L
open PySem PySem.Spec PyProof.Rows L2 Fl
local macro_rules | `(tactic| walk_at "side") => `(tactic| first | (exact .inl ⟨by omega, by omega⟩) | (exact .inr ⟨by omega, by omega⟩) | (exact .inr ⟨by decide, by decide⟩) | (show (_ : Int) ≠ _; omega) | (exact ⟨by omega, by decide⟩) | (exact ⟨by decide, by decide, by decide⟩))
local macro_rules | `(tactic| walk_at "go") => `(tactic| repeat (first | refine ⟨_, rfl, ?_⟩ | refine ⟨_, _, rfl, rfl, ?_⟩ | refine .inl ⟨_, rfl, ?_⟩ | refine ⟨rfl, ?_⟩ | refine ⟨(by walk_at "side"), ?_⟩))
local macro_rules | `(tactic| walk_at "see") => `(tactic| (set_option pp.maxSteps 110 in set_option pp.deepTerms false in trace_state))
local macro_rules | `(tactic| walk_at "if") => `(tactic| first | refine ifE ?_ ?_ | refine ifNE ?_ ?_ | refine ifD ?_ ?_ | refine ifN ?_ ?_ | refine ifB ?_ ?_)
open Bx

theorem run_st {f s c : Int} (h : RunOk f s c) : RunOk f (if c > 1 then s else 1) c := ⟨h.f0, (by
  split
  · exact h.s1
  · decide), (by
  split
  · exact h.s4
  · decide), h.c1⟩
section
variable {P : Program} {w : World} {K : PySem.W.Frag} {mg : Str → Option Value} {base : Heap}

def MkR (D BN : Addr) (H : Hp) (f s c : Int) (Q : VK) (E : XK) : Prop :=
  (f < 0 → Ref E BN H "first" f) ∧ (0 ≤ f → c < 1 → Ref E BN H "count" c) ∧ (0 ≤ f → 1 ≤ c → ∀ (x : Addr) (H' : Hp), Same H H' → RunAt D H' x f (if c > 1 then s else 1) c → Q (.ref x) H')
theorem mkr {D BN : Addr} {H : Hp} {f s c : Int} {Q : VK} {E : XK} (h1 : 1 ≤ s) (h4 : s ≤ 4) (h : MkR D BN H f s c Q E) : ∀ x dx, H x = none → H dx = none → dx ≠ x → spRunInit D BN (.ref x :: ([V.int f, V.int s, V.int c] ++ [])) (upd (upd H dx (.own x)) x (.ins D dx [])) (fun v H2 => v = .non ∧ Q (.ref x) H2) E := by
  intro x dx nx ndx ne
  have s0 : Same H (upd (upd H dx (.own x)) x (.ins D dx [])) := made (H' := upd (upd H dx (.own x)) x (.ins D dx [])) nx ndx (Keeps.refl _ _)
  exact ⟨x, dx, f, s, c, rfl, upd_same, fun h0 => (h.1 h0).same s0, fun _ hs => absurd hs (by omega), fun h0 _ _ hc => (h.2.1 h0 hc).same s0, fun h0 _ _ h1 H' hx hk => ⟨rfl, h.2.2 h0 h1 x H' (made nx ndx hk) ⟨dx, hx⟩⟩⟩
theorem MkR.to {D BN : Addr} {H : Hp} {f s c : Int} {Q : VK} {E : XK} (h0 : 0 ≤ f) (h1 : 1 ≤ c) (k : ∀ (x : Addr) (H' : Hp), Same H H' → RunAt D H' x f (if c > 1 then s else 1) c → Q (.ref x) H') : MkR D BN H f s c Q E := ⟨fun h => absurd h (by omega), fun _ h => absurd h (by omega), fun _ _ => k⟩
theorem mkr2 {D BN : Addr} {H : Hp} {f s c : Int} {Q : Addr → Hp → Prop} {E : XK} (h0 : 0 ≤ f) (h1 : 1 ≤ s) (h4 : s ≤ 4) (hc : 1 ≤ c) (k : ∀ (x : Addr) (H' : Hp), Same H H' → RunAt D H' x f (if c > 1 then s else 1) c → Q x H') : ∀ x dx, H x = none → H dx = none → dx ≠ x → spRunInit D BN (.ref x :: ([V.int f, V.int s, V.int c] ++ [])) (upd (upd H dx (.own x)) x (.ins D dx [])) (fun v H2 => v = .non ∧ Q x H2) E := by
  intro x dx nx ndx ne
  exact ⟨x, dx, f, s, c, rfl, upd_same, fun h => absurd h (by omega), fun _ hs => absurd hs (by omega), fun _ _ _ h => absurd h (by omega), fun _ _ _ _ H' hx hk => ⟨rfl, k x H' (made nx ndx hk) ⟨dx, hx⟩⟩⟩
theorem run_st1 {f s c : Int} (h0 : 0 ≤ f) (h1 : 1 ≤ s) (h4 : s ≤ 4) (hc : 1 ≤ c) : RunOk f (if c > 1 then s else 1) c := run_st ⟨h0, h1, h4, hc⟩

def spPoint (D BN : Addr) : Sp := fun vs H Q E => ∃ (m : Int), vs = [.ref D, .int m] ∧ MkR D BN H m 1 1 Q E
theorem ok_point {D BN g : Addr} {fd : FuncData} (MR : CalRun P w K mg base D BN) (F : Fun K "point" "Run.point" s_Run_point g fd) : FnOk P w K mg base (L2.CX P w) 5 g fd ["cls", "k"] (spPoint D BN) := by
  refine F.okX sc_Run_point (fun vs H Q E h => ?_) (fun cdv A outer st H vs Q E hr h => ?_)
  · obtain ⟨m, rfl, _⟩ := h
    rfl
  · obtain ⟨m, rfl, q⟩ := h
    refine ⟨_, pss_one (ps_ret (pe_mkV MR (fun σ => passAt (takes_of rfl rfl rfl rfl) σ) (hr.mono (by decide)) (pv 0) (pa_cons (pv 1) (pa_cons (pe_int) (pa_cons (pe_int) pa_nil))))), ?_⟩
    exact ⟨_, rfl, rfl, _, rfl, mkr (by decide) (by decide) q⟩

def spOdd (D BN : Addr) : Sp := fun vs H Q E => ∃ (m : Int), vs = [.ref D, .int m] ∧ MkR D BN H 1 2 m Q E
theorem ok_odd {D BN g : Addr} {fd : FuncData} (MR : CalRun P w K mg base D BN) (F : Fun K "odd" "Run.odd" s_Run_odd g fd) : FnOk P w K mg base (L2.CX P w) 5 g fd ["cls", "m"] (spOdd D BN) := by
  refine F.okX sc_Run_odd (fun vs H Q E h => ?_) (fun cdv A outer st H vs Q E hr h => ?_)
  · obtain ⟨m, rfl, _⟩ := h
    rfl
  · obtain ⟨m, rfl, q⟩ := h
    refine ⟨_, pss_one (ps_ret (pe_mkV MR (fun σ => passAt (takes_of rfl rfl rfl rfl) σ) (hr.mono (by decide)) (pv 0) (pa_cons (pe_int) (pa_cons (pe_int) (pa_cons (pv 1) pa_nil))))), ?_⟩
    exact ⟨_, rfl, rfl, _, rfl, mkr (by decide) (by decide) q⟩

def spEven (D BN : Addr) : Sp := fun vs H Q E => ∃ (m : Int), vs = [.ref D, .int m] ∧ MkR D BN H 0 2 (m + 1) Q E
theorem ok_even {D BN g : Addr} {fd : FuncData} (MR : CalRun P w K mg base D BN) (F : Fun K "even" "Run.even" s_Run_even g fd) : FnOk P w K mg base (L2.CX P w) 5 g fd ["cls", "m"] (spEven D BN) := by
  refine F.okX sc_Run_even (fun vs H Q E h => ?_) (fun cdv A outer st H vs Q E hr h => ?_)
  · obtain ⟨m, rfl, _⟩ := h
    rfl
  · obtain ⟨m, rfl, q⟩ := h
    refine ⟨_, pss_one (ps_ret (pe_mkV MR (fun σ => passAt (takes_of rfl rfl rfl rfl) σ) (hr.mono (by decide)) (pv 0) (pa_cons (pe_int) (pa_cons (pe_int) (pa_cons (pe_op op_add (pv 1) (pe_int)) pa_nil))))), ?_⟩
    exact ⟨_, rfl, rfl, _, rfl, _, _, rfl, rfl, mkr (by decide) (by decide) q⟩

def spBetween (D BN : Addr) : Sp := fun vs H Q E => ∃ (l h : Int), vs = [.ref D, .int l, .int h] ∧ MkR D BN H l 1 (h - l + 1) Q E
theorem ok_between {D BN g : Addr} {fd : FuncData} (MR : CalRun P w K mg base D BN) (F : Fun K "between" "Run.between" s_Run_between g fd) : FnOk P w K mg base (L2.CX P w) 5 g fd ["cls", "low", "high"] (spBetween D BN) := by
  refine F.okX sc_Run_between (fun vs H Q E h => ?_) (fun cdv A outer st H vs Q E hr h => ?_)
  · obtain ⟨l, h, rfl, _⟩ := h
    rfl
  · obtain ⟨l, h, rfl, q⟩ := h
    refine ⟨_, pss_one (ps_ret (pe_mkV MR (fun σ => passAt (takes_of rfl rfl rfl rfl) σ) (hr.mono (by decide)) (pv 0) (pa_cons (pv 1) (pa_cons (pe_int) (pa_cons (pe_op op_add (pe_op op_sub (pv 2) (pv 1)) (pe_int)) pa_nil))))), ?_⟩
    exact ⟨_, rfl, rfl, _, rfl, _, rfl, _, rfl, _, _, rfl, rfl, _, _, rfl, rfl, mkr (by decide) (by decide) q⟩

def spAdd (D BN : Addr) : Sp := fun vs H Q E => ∃ (x : Addr) (f s c k : Int), vs = [.ref x, .int k] ∧ RunAt D H x f s c ∧ RunOk f s c ∧ MkR D BN H (f + k) s c Q E
theorem ok_add {D BN fA : Addr} {fd : FuncData} (B : Blt mg) (TD : RunC K mg D) (MR : CalRun P w K mg base D BN) (F : Fun K "__add__" "Run.__add__" s_Run_add fA fd) : FnOk P w K mg base (L2.CX P w) 5 fA fd ["self", "other"] (spAdd D BN) := by
  refine F.okX sc_Run_add (fun vs H Q E h => ?_) (fun cdv A outer st H vs Q E hr h => ?_)
  · obtain ⟨x, f, s, c, k, rfl, _⟩ := h
    rfl
  · obtain ⟨x, f, s, c, k, rfl, ⟨dx, hx⟩, ok, q⟩ := h
    have W := (Al.nil (H := H)).got hx
    refine ⟨_, (pss_cons (ps_if (pt_not (pt_val (pe_callB call_isi (by rfl) B.isinstance (by decide +kernel) (pa_cons (pv 1) (pa_cons (pe_bltn (v := .ty "int") (by rfl) B.int (by decide +kernel) rfl) pa_nil))))) (pss_one (ps_never)) pss_nil)
      (pss_one (ps_ret (pe_mkS MR (takes_of rfl rfl rfl rfl) (hr.mono (by decide)) (pa_cons (pe_op op_add (pe_fld (pv 0) rfl) (pv 1)) (pa_cons (pe_fld (pv 0) rfl) (pa_cons (pe_fld (pv 0) rfl) pa_nil))))))), ?_⟩
    refine ⟨_, rfl, _, _, _, _, true, rfl, .ty _, .base (.int _), kit_ty (by decide +kernel), _, rfl, iteF ?_⟩
    exact ⟨_, rfl, x, D, dx, _, _, rfl, (W.at (List.Mem.head _)), TD.cl, TD.nF, gf_first _ _ _, _, rfl, _, _, rfl, rfl, _, rfl, x, D, dx, _, _, rfl, (W.at (List.Mem.head _)), TD.cl, TD.nS, gf_step _ _ _, _, rfl, x, D, dx, _, _, rfl, (W.at (List.Mem.head _)), TD.cl, TD.nC, gf_count _ _ _, mkr ok.s1 ok.s4 q⟩

theorem eqv {Q : VK} {H : Hp} {a b : Int} {p : Prop} [Decidable p] (h : p ↔ a = b) (q : Q (.bl (decide p)) H) : Q (.bl (decide (V.int a = V.int b))) H := by
  by_cases e : a = b
  · rw [decide_eq_true (h.2 e)] at q
    rw [decide_eq_true (show V.int a = V.int b by rw [e])]
    exact q
  · rw [decide_eq_false (fun z => e (h.1 z))] at q
    rw [decide_eq_false (show ¬ V.int a = V.int b from fun z => e (V.int.inj z))]
    exact q
def spEq (D : Addr) : Sp := fun vs H Q _ => ∃ (x y : Addr) (f s c f' s' c' : Int), vs = [.ref x, .ref y] ∧ RunAt D H x f s c ∧ RunAt D H y f' s' c' ∧ Q (.bl (decide (f = f' ∧ s = s' ∧ c = c'))) H
theorem ok_eq {D fA : Addr} {fd : FuncData} (B : Blt mg) (TD : RunC K mg D) (F : Fun K "__eq__" "Run.__eq__" s_Run_eq fA fd) : FnOk P w K mg base CX0 1 fA fd ["self", "other"] (spEq D) := by
  refine F.ok sc_Run_eq (fun vs H Q E h => ?_) (fun cdv A outer st H vs Q E hr h => ?_)
  · obtain ⟨x, y, f, s, c, f', s', c', rfl, _⟩ := h
    rfl
  · obtain ⟨x, y, f, s, c, f', s', c', rfl, ⟨dx, hx⟩, ⟨dy, hy⟩, q⟩ := h
    have W := ((Al.nil (H := H)).got hy).got hx
    refine ⟨_, (pss_one (ps_ret ((pe_and (pe_callB call_isi (by rfl) B.isinstance (by decide +kernel) (pa_cons (pv 1) (pa_cons (pe_glob (v := .ref _) (by rfl) TD.g rfl) pa_nil))) (pe_and (pe_cmpR op_eq (pe_fld (pv 0) rfl) (pe_fld (pv 1) rfl) (nomark _)) (pe_and (pe_cmpR op_eq (pe_fld (pv 0) rfl) (pe_fld (pv 1) rfl) (nomark _)) (pe_one (pe_cmpR op_eq (pe_fld (pv 0) rfl) (pe_fld (pv 1) rfl) (nomark _))))))))), ?_⟩
    refine ⟨_, rfl, _, _, _, _, true, rfl, .own _, TD.tyX (W.at (List.Mem.tail _ (List.Mem.head _))), kit_self _, _, rfl, iteT ?_⟩
    refine ⟨_, rfl, x, D, dx, _, _, rfl, (W.at (List.Mem.head _)), TD.cl, TD.nF, gf_first _ _ _, _, rfl, y, D, dy, _, _, rfl, (W.at (List.Mem.tail _ (List.Mem.head _))), TD.cl, TD.nF, gf_first _ _ _, rfl, _, rfl, ifE (fun h1 => ?_) (fun h1 => ?_)⟩
    · skip
      refine ⟨_, rfl, x, D, dx, _, _, rfl, (W.at (List.Mem.head _)), TD.cl, TD.nS, gf_step _ _ _, _, rfl, y, D, dy, _, _, rfl, (W.at (List.Mem.tail _ (List.Mem.head _))), TD.cl, TD.nS, gf_step _ _ _, rfl, _, rfl, ifE (fun h2 => ?_) (fun h2 => ?_)⟩
      · skip
        refine ⟨_, rfl, x, D, dx, _, _, rfl, (W.at (List.Mem.head _)), TD.cl, TD.nC, gf_count _ _ _, _, rfl, y, D, dy, _, _, rfl, (W.at (List.Mem.tail _ (List.Mem.head _))), TD.cl, TD.nC, gf_count _ _ _, rfl, ?_⟩
        refine eqv ?_ q
        omega
      · skip
        exact (by have e := q; rw [decide_eq_false (by omega)] at e; exact e)
    · skip
      exact (by have e := q; rw [decide_eq_false (by omega)] at e; exact e)

def spMean (C D : Addr) : Sp := fun vs H Q _ => ∃ (x : Addr) (f s c : Int), vs = [.ref x] ∧ RunAt D H x f s c ∧ RunOk f s c ∧ ∀ (y : Addr) (H' : Hp), Same H H' → RatAt C H' y (nT (f + (f + s * (c - 1))) 2) (nU (f + (f + s * (c - 1))) 2) → Q (.ref y) H'
theorem ok_mean {C ZU D fA : Addr} {fd : FuncData} (TD : RunC K mg D) (CL : CalP P w K mg base 1 D "last" (spLast D)) (M2 : CalRatio P w K mg base C ZU []) (F : Fun K "mean" "Run.mean" s_Run_mean fA fd) : FnOk P w K mg base CX0 3 fA fd ["self"] (spMean C D) := by
  refine F.ok sc_Run_mean (fun vs H Q E h => ?_) (fun cdv A outer st H vs Q E hr h => ?_)
  · obtain ⟨x, f, s, c, rfl, _⟩ := h
    rfl
  · obtain ⟨x, f, s, c, rfl, ⟨dx, hx⟩, ok, k⟩ := h
    have W := (Al.nil (H := H)).got hx
    refine ⟨_, (pss_one (ps_ret (pe_mk M2 (hr.mono (by decide)) (pa_cons (pe_op op_add (pe_fld (pv 0) rfl) (pe_calP TD.cl CL (hr.mono (by decide)) (pv 0))) (pa_cons (pe_int) pa_nil))))), ?_⟩
    refine ⟨_, rfl, x, D, dx, _, _, rfl, (W.at (List.Mem.head _)), TD.cl, TD.nF, gf_first _ _ _, _, rfl, x, dx, _, rfl, (W.at (List.Mem.head _)), x, f, s, c, rfl, ⟨dx, (W.at (List.Mem.head _))⟩, ok, _, _, rfl, rfl, fun y dy ny ndy ne => ?_⟩
    exact ⟨y, dy, _, 2, rfl, upd_same, (by decide +kernel), fun _ H' hy hk => ⟨rfl, k y H' (made ny ndy hk) ⟨dy, hy⟩⟩, fun h => absurd h (by decide)⟩

def spParted (D NP : Addr) : Sp := fun vs H Q E => ∃ (x : Addr) (f s c n : Int), vs = [.ref x, .int n] ∧ RunAt D H x f s c ∧ RunOk f s c ∧ n.natAbs < 2 ^ 240 ∧ (¬ (1 ≤ n ∧ n < c) → E (.ref NP) none H) ∧
  (1 ≤ n → n < c → ∀ (t x1 x2 : Addr) (H' : Hp), Same H H' → H' t = some (.tup [.ref x1, .ref x2]) → RunAt D H' x1 f (if n > 1 then s else 1) n → RunAt D H' x2 (f + s * n) (if c - n > 1 then s else 1) (c - n) → Q (.ref t) H')
theorem ok_parted {D BN NP fA : Addr} {fd : FuncData} (TD : RunC K mg D) (TN : ExC K mg "NoPlace" NP) (MR : CalRun P w K mg base D BN) (F : Fun K "parted" "Run.parted" s_Run_parted fA fd) : FnOk P w K mg base (L2.CX P w) 5 fA fd ["self", "n"] (spParted D NP) := by
  refine F.okX sc_Run_parted (fun vs H Q E h => ?_) (fun cdv A outer st H vs Q E hr h => ?_)
  · obtain ⟨x, f, s, c, n, rfl, _⟩ := h
    rfl
  · obtain ⟨x, f, s, c, n, rfl, ⟨dx, hx⟩, ok, hn, k0, k1⟩ := h
    have W := (Al.nil (H := H)).got hx
    have S := Same.refl H
    have ok0 := ok.f0
    have ok1 := ok.s1
    have ok4 := ok.s4
    have f1 : 1 ≤ n → 0 ≤ f + s * n := fun h => by
      have := Int.mul_nonneg (a := s) (b := n) (by omega) (by omega)
      omega
    refine ⟨_, (pss_cons (ps_if (pt_not (pt_chain op_le op_lt (pe_int) (pv 1) (pe_fld (pv 0) rfl))) (pss_one (ps_raise rfl (takes_of rfl rfl rfl rfl) (pmk_own PySem.F.excBase_ValueError TN.x TN.g TN.k (raises_own TN.b TN.t) rfl))) pss_nil)
      (pss_cons (ps_set (i := 2) sc_Run_parted.nd rfl (Or.inl rfl) (pe_op op_add (pe_fld (pv 0) rfl) (pe_op op_mulW (pe_fld (pv 0) rfl) (pv 1))))
      (pss_one (ps_ret (pe_tup (pa_cons (pe_mkS MR (takes_of rfl rfl rfl rfl) (hr.mono (by decide)) (pa_cons (pe_fld (pv 0) rfl) (pa_cons (pe_fld (pv 0) rfl) (pa_cons (pv 1) pa_nil)))) (pa_cons (pe_mkS MR (takes_of rfl rfl rfl rfl) (hr.mono (by decide)) (pa_cons (pv 2) (pa_cons (pe_fld (pv 0) rfl) (pa_cons (pe_op op_sub (pe_fld (pv 0) rfl) (pv 1)) pa_nil)))) pa_nil))))))), ?_⟩
    refine ⟨_, rfl, _, _, rfl, rfl, _, rfl, ifD (fun h1 => ?_) (fun h1 => ?_)⟩
    · skip
      refine ⟨_, rfl, x, D, dx, _, _, rfl, (W.at (List.Mem.head _)), TD.cl, TD.nC, gf_count _ _ _, _, _, rfl, rfl, _, rfl, ifN (fun h2 => ?_) (fun h2 => ?_)⟩
      · skip
        exact k0 (by omega)
      · skip
        refine ⟨_, rfl, x, D, dx, _, _, rfl, (W.at (List.Mem.head _)), TD.cl, TD.nF, gf_first _ _ _, _, rfl, x, D, dx, _, _, rfl, (W.at (List.Mem.head _)), TD.cl, TD.nS, gf_step _ _ _, _, rfl, _, _, rfl, rfl, wide_mul (show s.natAbs < 2 ^ 3 by have := ok.s1; have := ok.s4; omega) hn (by decide) (by decide) (by decide), _, _, rfl, rfl, _, rfl, x, D, dx, _, _, rfl, (W.at (List.Mem.head _)), TD.cl, TD.nF, gf_first _ _ _, _, rfl, x, D, dx, _, _, rfl, (W.at (List.Mem.head _)), TD.cl, TD.nS, gf_step _ _ _, _, rfl, mkr2 (by omega) ok.s1 ok.s4 (by omega) fun x1 H1 s1 hx1 => ?_⟩
        obtain ⟨dx1, hx1⟩ := hx1
        have W := W.same s1
        have S := S.trans s1
        have W := W.got hx1
        refine ⟨_, rfl, _, rfl, x, D, dx, _, _, rfl, (W.at (List.Mem.tail _ (List.Mem.head _))), TD.cl, TD.nS, gf_step _ _ _, _, rfl, x, D, dx, _, _, rfl, (W.at (List.Mem.tail _ (List.Mem.head _))), TD.cl, TD.nC, gf_count _ _ _, _, rfl, _, _, rfl, rfl, mkr2 (by exact f1 (by omega)) ok.s1 ok.s4 (by omega) fun x2 H2 s2 hx2 => ?_⟩
        obtain ⟨dx2, hx2⟩ := hx2
        have W := W.same s2
        have S := S.trans s2
        have W := W.got hx2
        refine ⟨(by show 2 ≤ sizeLine; decide), fun t3 ht3 => ?_⟩
        have W := W.new (o := .tup [.ref x1, .ref x2]) ht3
        have S := S.trans (same_upd (o := .tup [.ref x1, .ref x2]) ht3)
        exact k1 (by omega) (by omega) t3 x1 x2 _ S (W.at (List.Mem.head _)) ⟨dx1, (W.at (List.Mem.tail _ (List.Mem.tail _ (List.Mem.head _))))⟩ ⟨dx2, (W.at (List.Mem.tail _ (List.Mem.head _)))⟩
    · skip
      refine ⟨_, rfl, iteT ?_⟩
      exact k0 (by omega)
end
end L

set_option Elab.async false
set_option linter.all false
set_option maxRecDepth 100000
set_option maxHeartbeats 4000000
set_option pp.maxSteps 160
set_option pp.deepTerms false
namespace L
open PySem PySem.Spec PyProof.Rows L2 Fl
local macro_rules | `(tactic| walk_at "side") => `(tactic| first | (exact .inl ⟨by omega, by omega⟩) | (exact .inr ⟨by omega, by omega⟩) | (exact .inr ⟨by decide, by decide⟩) | (show (_ : Int) ≠ _; omega) | (exact ⟨by omega, by decide⟩) | (exact ⟨by decide, by decide, by decide⟩))
local macro_rules | `(tactic| walk_at "go") => `(tactic| repeat (first | refine ⟨_, rfl, ?_⟩ | refine ⟨_, _, rfl, rfl, ?_⟩ | refine .inl ⟨_, rfl, ?_⟩ | refine ⟨rfl, ?_⟩ | refine ⟨(by walk_at "side"), ?_⟩))
local macro_rules | `(tactic| walk_at "see") => `(tactic| (set_option pp.maxSteps 110 in set_option pp.deepTerms false in trace_state))
local macro_rules | `(tactic| walk_at "if") => `(tactic| first | refine ifE ?_ ?_ | refine ifNE ?_ ?_ | refine ifD ?_ ?_ | refine ifN ?_ ?_ | refine ifB ?_ ?_)
open Bx
section
variable {P : Program} {w : World} {K : PySem.W.Frag} {mg : Str → Option Value} {base : Heap}
def spRatio (C : Addr) : Sp := fun vs H Q _ => ∃ (x : Addr) (t u : Int), vs = [.ref x] ∧ RatAt C H x t u ∧ Q (.bl (decide (u > 0))) H
abbrev CalRatioQ (P : Program) (w : World) (K : PySem.W.Frag) (mg : Str → Option Value) (base : Heap) (C : Addr) := Cal P w K mg base 2 "_law_ratio" ["_law_actual"] (spRatio C)
theorem ok_ratio {C : Addr} (B : Blt mg) (T : RatC K mg C) (D : Dfn K mg "_law_ratio" "_law_ratio" s_ratio ["_law_actual"]) (C_whole : CalWhole P w K mg base) : CalRatioQ P w K mg base C := by
  refine D.cal sc_ratio (fun vs H Q E h => ?_) (fun f cdv A outer st H vs Q E hr h => ?_)
  · obtain ⟨x, t, u, rfl, _⟩ := h
    rfl
  · obtain ⟨x, t, u, rfl, ⟨dx, hx⟩, q⟩ := h
    refine ⟨_, (pss_cons (ps_if (pt_not (pt_val (pe_callB call_isi (by rfl) B.isinstance (by decide +kernel) (pa_cons (pv 0) (pa_cons (pe_glob (v := .ref _) (by rfl) T.g rfl) pa_nil))))) (pss_one (ps_ret (pe_bl))) pss_nil)
      (pss_one (ps_ret ((pe_and (pe_cal C_whole (hr.mono (by decide)) (pa_cons (pe_fld (pv 0) rfl) pa_nil)) (pe_and (pe_cal C_whole (hr.mono (by decide)) (pa_cons (pe_fld (pv 0) rfl) pa_nil)) (pe_one (pe_cmpR op_gt (pe_fld (pv 0) rfl) (pe_int) (nomark _))))))))), ?_⟩
    refine ⟨_, rfl, _, _, _, _, true, rfl, .own _, T.tyX hx, kit_self _, _, rfl, iteF ?_⟩
    refine ⟨_, rfl, x, C, dx, _, _, rfl, hx, T.cl, T.nT, rf_top _ _, t, rfl, _, rfl, iteT ?_⟩
    refine ⟨_, rfl, x, C, dx, _, _, rfl, hx, T.cl, T.nU, rf_under _ _, u, rfl, _, rfl, iteT ?_⟩
    refine ⟨_, rfl, x, C, dx, _, _, rfl, hx, T.cl, T.nU, rf_under _ _, _, _, rfl, rfl, ?_⟩
    exact q

def Row (H : Hp) (t : Addr) (f s c : Int) : Prop := H t = some (.tup [.int f, .int s, .int c])
theorem Row.ne_pool {H : Hp} {t : Addr} {p : Pla} {f s c : Int} (h : Row H t f s c) (hp : Pool H p) : t ≠ p := by
  obtain ⟨ns, i, b, c, d, h1, _⟩ := hp
  exact ne_of h h1 (by intro z; cases z)
theorem Row.keep {H H' : Hp} {t p : Addr} {f s c : Int} (h : Row H t f s c) (k : Keeps H H' p) (n : t ≠ p) : Row H' t f s c := k _ _ h n
structure RowOk (f s c : Int) : Prop where
  ok : RunOk f s c
  fb : f < 10 ^ 60
  cb : c ≤ 10 ^ 60
  one : c = 1 → s = 1
def spGR : Sp := fun vs H Q _ => ∃ (p : Pla), vs = [.ref p] ∧ Pool H p ∧ ∀ (t : Addr) (f s c : Int) (H' : Hp), Pool H' p → Keeps H H' p → H t = none → Row H' t f s c → RowOk f s c → Q (.ref t) H'
abbrev CalGR (P : Program) (w : World) (K : PySem.W.Frag) (mg : Str → Option Value) (base : Heap) := Cal P w K mg base 5 "_law_great_run" ["_law_pool_here"] spGR
theorem ok_great_run (B : Blt mg) (D : Dfn K mg "_law_great_run" "_law_great_run" s_great_run ["_law_pool_here"]) (C_draw : CalDraw P w K mg base) (C_any : CalAny P w K mg base) : CalGR P w K mg base := by
  refine D.cal sc_great_run (fun vs H Q E h => ?_) (fun f cdv A outer st H vs Q E hr h => ?_)
  · obtain ⟨p, rfl, _⟩ := h
    rfl
  · obtain ⟨p, rfl, hP, k⟩ := h
    refine ⟨_, (pss_cons (ps_set (i := 1) sc_great_run.nd rfl (Or.inl rfl) (pe_cal C_draw (hr.mono (by decide)) (pa_cons (pv 0) (pa_cons (pe_int) pa_nil))))
      (pss_cons (ps_set (i := 2) sc_great_run.nd rfl (Or.inl rfl) (pe_op op_add (pe_int) (pe_cal C_draw (hr.mono (by decide)) (pa_cons (pv 0) (pa_cons (pe_int) pa_nil)))))
      (Evl.pss_cut (ps_if (pt_cmpR op_eq (pe_cal C_draw (hr.mono (by decide)) (pa_cons (pv 0) (pa_cons (pe_int) pa_nil))) (pe_int) (nomark _)) (pss_one (ps_set (i := 1) sc_great_run.nd rfl (Or.inl rfl) (pe_cal C_any (hr.mono (by decide)) (pa_cons (pv 0) pa_nil)))) pss_nil)
      (Evl.pss_cut (ps_if (pt_cmpR op_eq (pe_cal C_draw (hr.mono (by decide)) (pa_cons (pv 0) (pa_cons (pe_int) pa_nil))) (pe_int) (nomark _)) (pss_one (ps_set (i := 2) sc_great_run.nd rfl (Or.inl rfl) (pe_op op_add (pe_int) (pe_cal C_any (hr.mono (by decide)) (pa_cons (pv 0) pa_nil))))) pss_nil)
      (pss_cons (ps_set (i := 3) sc_great_run.nd rfl (Or.inl rfl) (pe_op op_add (pe_int) (pe_cal C_draw (hr.mono (by decide)) (pa_cons (pv 0) (pa_cons (pe_int) pa_nil)))))
      (Evl.pss_cut (ps_if (pt_cmpR op_eq (pv 2) (pe_int) (nomark _)) (pss_one (ps_set (i := 3) sc_great_run.nd rfl (Or.inl rfl) (pe_int))) pss_nil)
      (pss_one (ps_ret (pe_tup (pa_cons (pv 1) (pa_cons (pv 3) (pa_cons (pv 2) pa_nil)))))))))))), ?_⟩
    refine ⟨_, rfl, p, 9, rfl, hP, by decide, by decide, fun f0 Ha fa fb hPa ka => ?_⟩
    refine ⟨_, rfl, p, 7, rfl, hPa, by decide, by decide, fun c0 Hb ca cb hPb kb => ?_⟩
    refine ⟨_, _, rfl, rfl, ?_⟩
    refine ⟨fun σ' H' => ∃ f : Int, σ' = [some (.ref (p : Addr)), some (.int f), some (.int (1 + c0)), none] ∧ 0 ≤ f ∧ f < 10 ^ 60 ∧ Pool H' p ∧ Keeps H H' p, ?_, ?_⟩
    · refine ⟨_, rfl, p, 2, rfl, hPb, by decide, by decide, fun r Hc r0 r1 hPc kc => ?_⟩
      walk_at "go"
      walk_at "if"
      · intro _
        refine ⟨_, rfl, p, rfl, hPc, fun f Hd f0 f1 hPd kd => ?_⟩
        exact ⟨f, rfl, f0, f1, hPd, ((ka.trans kb).trans kc).trans kd⟩
      · intro _
        exact ⟨f0, rfl, fa, by omega, hPc, (ka.trans kb).trans kc⟩
    rintro σ' H1 ⟨f, rfl, f0, f1, hP1, k1⟩
    refine ⟨fun σ' H' => ∃ c : Int, σ' = [some (.ref (p : Addr)), some (.int f), some (.int c), none] ∧ 1 ≤ c ∧ c ≤ 10 ^ 60 ∧ Pool H' p ∧ Keeps H H' p, ?_, ?_⟩
    · refine ⟨_, rfl, p, 2, rfl, hP1, by decide, by decide, fun r Hc r0 r1 hPc kc => ?_⟩
      walk_at "go"
      walk_at "if"
      · intro _
        refine ⟨_, rfl, p, rfl, hPc, fun c Hd c0 c1 hPd kd => ?_⟩
        exact ⟨_, _, rfl, rfl, 1 + c, rfl, by omega, by omega, hPd, (k1.trans kc).trans kd⟩
      · intro _
        exact ⟨1 + c0, rfl, by omega, by omega, hPc, k1.trans kc⟩
    rintro σ' H2 ⟨c, rfl, c1, c2, hP2, k2⟩
    refine ⟨_, rfl, p, 4, rfl, hP2, by decide, by decide, fun s H3 s0 s1 hP3 k3 => ?_⟩
    refine ⟨_, _, rfl, rfl, ?_⟩
    refine ⟨fun σ' H' => ∃ s : Int, σ' = [some (.ref (p : Addr)), some (.int f), some (.int c), some (.int s)] ∧ 1 ≤ s ∧ s ≤ 4 ∧ (c = 1 → s = 1) ∧ H' = H3, ?_, ?_⟩
    · walk_at "go"
      walk_at "if"
      · intro hc
        exact ⟨1, rfl, by decide, by decide, fun _ => rfl, rfl⟩
      · intro hc
        exact ⟨1 + s, rfl, by omega, by omega, fun h => absurd h hc, rfl⟩
    rintro σ' H4 ⟨s, rfl, s1, s4, hs, rfl⟩
    refine ⟨_, rfl, _, rfl, _, rfl, (by show 3 ≤ sizeLine; decide), fun t ht => ?_⟩
    have ht0 : H t = none := (k2.trans k3).free ht (hP3.apart ht).1
    exact k t f s c _ (hP3.upd ht) ((k2.trans k3).trans (same_keeps (same_upd ht))) ht0 upd_same ⟨⟨f0, s1, s4, c1⟩, f1, c2, hs⟩
def spHeld (D : Addr) : Sp := fun vs H Q _ => ∃ (x t : Addr) (f s c : Int), vs = [.ref x, .ref t] ∧ RunAt D H x f s c ∧ Row H t f s c ∧ ∀ H', Same H H' → Q (.bl true) H'
abbrev CalHeld (P : Program) (w : World) (K : PySem.W.Frag) (mg : Str → Option Value) (base : Heap) (D : Addr) := Cal P w K mg base 3 "_law_held" ["_law_run", "_law_row"] (spHeld D)
theorem ok_held {D : Addr} (B : Blt mg) (T : RunC K mg D) (Df : Dfn K mg "_law_held" "_law_held" s_held ["_law_run", "_law_row"]) (C_whole : CalWhole P w K mg base) : CalHeld P w K mg base D := by
  refine Df.cal sc_held (fun vs H Q E h => ?_) (fun f cdv A outer st H vs Q E hr h => ?_)
  · obtain ⟨x, t, f, s, c, rfl, _⟩ := h
    rfl
  · obtain ⟨x, t, f, s, c, rfl, ⟨dx, hx⟩, ht, q⟩ := h
    refine ⟨_, (pss_cons (ps_if (PW.pt (pw_or (pt_not (pt_val (pe_callB call_isi (by rfl) B.isinstance (by decide +kernel) (pa_cons (pv 0) (pa_cons (pe_glob (v := .ref _) (by rfl) T.g rfl) pa_nil))))) (pw_or (pt_not (pt_val (pe_cal C_whole (hr.mono (by decide)) (pa_cons (pe_fld (pv 0) rfl) pa_nil)))) (pw_or1 (pt_not (pt_val (pe_cal C_whole (hr.mono (by decide)) (pa_cons (pe_fld (pv 0) rfl) pa_nil)))))))) (pss_one (ps_ret (pe_bl))) pss_nil)
      (pss_one (ps_ret ((pe_and (pe_cal C_whole (hr.mono (by decide)) (pa_cons (pe_fld (pv 0) rfl) pa_nil)) (pe_one (pe_cmpR (op_eqD hr.units) (pe_tup (pa_cons (pe_fld (pv 0) rfl) (pa_cons (pe_fld (pv 0) rfl) (pa_cons (pe_fld (pv 0) rfl) pa_nil)))) (pv 1) (nomark _)))))))), ?_⟩
    refine ⟨_, rfl, _, _, _, _, true, rfl, .own _, T.tyX hx, kit_self _, _, rfl, iteF ?_⟩
    refine ⟨_, rfl, x, D, dx, _, _, rfl, hx, T.cl, T.nF, gf_first _ _ _, _, rfl, _, rfl, iteF ?_⟩
    refine ⟨_, rfl, x, D, dx, _, _, rfl, hx, T.cl, T.nS, gf_step _ _ _, _, rfl, _, rfl, iteF ?_⟩
    refine ⟨_, rfl, x, D, dx, _, _, rfl, hx, T.cl, T.nC, gf_count _ _ _, _, rfl, _, rfl, iteT ?_⟩
    refine ⟨_, rfl, x, D, dx, _, _, rfl, hx, T.cl, T.nF, gf_first _ _ _, ?_⟩
    refine ⟨_, rfl, x, D, dx, _, _, rfl, hx, T.cl, T.nS, gf_step _ _ _, ?_⟩
    refine ⟨_, rfl, x, D, dx, _, _, rfl, hx, T.cl, T.nC, gf_count _ _ _, ?_⟩
    refine ⟨(by show 3 ≤ sizeLine; decide), fun u hu => ?_⟩
    refine ⟨_, rfl, .tuple [.int f, .int s, .int c], .tuple [.int f, .int s, .int c], .tup (SqT.of upd_same) (.cons (.int _) (.cons (.int _) (.cons (.int _) .nil))), .tup (SqT.of (same_upd hu _ _ ht)) (.cons (.int _) (.cons (.int _) (.cons (.int _) .nil))), rfl, rfl, ?_⟩
    rw [SeqAt.eqv_refl _ rfl]
    exact q _ (same_upd hu)
def spSame (C : Addr) : Sp := fun vs H Q _ => ∃ (x t : Addr) (a b n m : Int), vs = [.ref x, .ref t] ∧ RatAt C H x a b ∧ 0 < b ∧ H t = some (.tup [.int n, .int m]) ∧ a.natAbs < 2 ^ 4000 ∧ b.natAbs < 2 ^ 4000 ∧ n.natAbs < 2 ^ 4000 ∧ m.natAbs < 2 ^ 4000 ∧ a * m = n * b ∧ Q (.bl true) H
abbrev CalSame (P : Program) (w : World) (K : PySem.W.Frag) (mg : Str → Option Value) (base : Heap) (C : Addr) := Cal P w K mg base 3 "_law_same" ["_law_actual", "_law_due_here"] (spSame C)
theorem ok_same {C : Addr} (B : Blt mg) (T : RatC K mg C) (D : Dfn K mg "_law_same" "_law_same" s_same ["_law_actual", "_law_due_here"]) (C_ratio : CalRatioQ P w K mg base C) : CalSame P w K mg base C := by
  refine D.cal sc_same (fun vs H Q E h => ?_) (fun f cdv A outer st H vs Q E hr h => ?_)
  · obtain ⟨x, t, a, b, n, m, rfl, _⟩ := h
    rfl
  · obtain ⟨x, t, a, b, n, m, rfl, ⟨dx, hx⟩, hb, ht, z1, z2, z3, z4, e, q⟩ := h
    refine ⟨_, (pss_cons (ps_if (pt_not (pt_val (pe_cal C_ratio (hr.mono (by decide)) (pa_cons (pv 0) pa_nil)))) (pss_one (ps_ret (pe_bl))) pss_nil)
      (pss_one (ps_ret (pe_cmpR op_eq (pe_op op_mulW (pe_fld (pv 0) rfl) (pe_ix ix_tup (pv 1) (pe_int) (fun _ _ => rfl))) (pe_op op_mulW (pe_ix ix_tup (pv 1) (pe_int) (fun _ _ => rfl)) (pe_fld (pv 0) rfl)) (nomark _))))), ?_⟩
    refine ⟨_, rfl, x, a, b, rfl, ⟨dx, hx⟩, _, rfl, ?_⟩
    rw [decide_eq_true hb]
    refine iteF ?_
    refine ⟨_, rfl, x, C, dx, _, _, rfl, hx, T.cl, T.nT, rf_top _ _, ?_⟩
    refine ⟨_, rfl, _, _, _, _, rfl, rfl, SqT.of ht, rfl, _, _, rfl, rfl, wide_mul z1 z4 (by decide) (by decide) (by decide), ?_⟩
    refine ⟨_, rfl, _, _, _, _, rfl, rfl, SqT.of ht, rfl, ?_⟩
    refine ⟨_, rfl, x, C, dx, _, _, rfl, hx, T.cl, T.nU, rf_under _ _, _, _, rfl, rfl, wide_mul z3 z2 (by decide) (by decide) (by decide), rfl, ?_⟩
    have e2 : decide (V.int (a * m) = V.int (n * b)) = true := decide_eq_true (by rw [e])
    show Q (V.bl (decide (V.int (a * m) = V.int (n * b)))) _
    rw [e2]
    exact q
end
end L

set_option Elab.async false
set_option linter.all false
set_option maxRecDepth 100000
set_option maxHeartbeats 4000000
set_option pp.maxSteps 160
set_option pp.deepTerms false
namespace L
open PySem PySem.Spec PyProof.Rows L2 Fl
local macro_rules | `(tactic| walk_at "side") => `(tactic| first | (exact .inl ⟨by omega, by omega⟩) | (exact .inr ⟨by omega, by omega⟩) | (exact .inr ⟨by decide, by decide⟩) | (show (_ : Int) ≠ _; omega) | (exact ⟨by omega, by decide⟩) | (exact ⟨by decide, by decide, by decide⟩))
local macro_rules | `(tactic| walk_at "go") => `(tactic| repeat (first | refine ⟨_, rfl, ?_⟩ | refine ⟨_, _, rfl, rfl, ?_⟩ | refine .inl ⟨_, rfl, ?_⟩ | refine ⟨rfl, ?_⟩ | refine ⟨(by walk_at "side"), ?_⟩))
local macro_rules | `(tactic| walk_at "see") => `(tactic| (set_option pp.maxSteps 110 in set_option pp.deepTerms false in trace_state))
local macro_rules | `(tactic| walk_at "if") => `(tactic| first | refine ifE ?_ ?_ | refine ifNE ?_ ?_ | refine ifD ?_ ?_ | refine ifN ?_ ?_ | refine ifB ?_ ?_)
open Bx
section
variable {P : Program} {w : World} {K : PySem.W.Frag} {mg : Str → Option Value} {base : Heap}

/-- what the law holds a run of these three to be, or why there is none -/
def dueT (f s c : Int) : List V := if f < 0 then [.str "first", .int f, .bl true, .bl true] else if c < 1 then [.str "count", .int c, .bl true, .bl true] else [.int f, .int (if c > 1 then s else 1), .int c]
def FoundR (D : Addr) (H : Hp) (v : V) (f s c : Int) : Prop := (∃ t, v = .ref t ∧ (f < 0 ∨ c < 1) ∧ H t = some (.tup (dueT f s c))) ∨ ∃ x, v = .ref x ∧ 0 ≤ f ∧ 1 ≤ c ∧ RunAt D H x f (if c > 1 then s else 1) c
theorem due_f {f s c : Int} (h : f < 0) : dueT f s c = [.str "first", .int f, .bl true, .bl true] := by unfold dueT; rw [if_pos h]
theorem due_c {f s c : Int} (h : 0 ≤ f) (h1 : c < 1) : dueT f s c = [.str "count", .int c, .bl true, .bl true] := by unfold dueT; rw [if_neg (by omega), if_pos h1]
theorem due_r {f s c : Int} (h : 0 ≤ f) (h1 : 1 ≤ c) : dueT f s c = [.int f, .int (if c > 1 then s else 1), .int c] := by unfold dueT; rw [if_neg (by omega), if_neg (by omega)]
def spPlain : Sp := fun vs H Q _ => ∃ (t : Addr) (f s c : Int), vs = [.ref t] ∧ H t = some (.tup [.int f, .int s, .int c]) ∧ 1 ≤ c ∧ ∀ (t' : Addr) (H' : Hp), Same H H' → H' t' = some (.tup [.int f, .int (if c > 1 then s else 1), .int c]) → Q (.ref t') H'
theorem ok_plain  (Df : Dfn K mg "_law_plain" "_law_plain" s_plain ["_law_row"]) : Cal P w K mg base 1 "_law_plain" ["_law_row"] spPlain := by
  refine Df.cal sc_plain (fun vs H Q E h => ?_) (fun fA cdv A outer st H vs Q E hr h => ?_)
  · obtain ⟨t, f, s, c, rfl, _⟩ := h
    rfl
  · obtain ⟨t, f, s, c, rfl, ht, hc, k⟩ := h
    have W := (Al.nil (H := H)).got ht
    have S := Same.refl H
    refine ⟨_, (pss_cons (ps_if (pt_cmpR op_eq (pe_ix ix_tup (pv 0) (pe_int) (fun _ _ => rfl)) (pe_int) (nomark _)) (pss_one (ps_ret (pe_tup (pa_cons (pe_ix ix_tup (pv 0) (pe_int) (fun _ _ => rfl)) (pa_cons (pe_int) (pa_cons (pe_int) pa_nil)))))) pss_nil)
      (pss_one (ps_ret (pv 0)))), ?_⟩
    refine ⟨_, rfl, _, _, _, _, rfl, rfl, SqT.of (W.at (List.Mem.head _)), rfl, rfl, _, rfl, ifE (fun h1 => ?_) (fun h1 => ?_)⟩
    · skip
      refine ⟨_, rfl, _, _, _, _, rfl, rfl, SqT.of (W.at (List.Mem.head _)), rfl, (by show 3 ≤ sizeLine; decide), fun t2 ht2 => ?_⟩
      have W := W.new (o := .tup [.int f, .int 1, .int 1]) ht2
      have S := S.trans (same_upd (o := .tup [.int f, .int 1, .int 1]) ht2)
      have e1 : c = 1 := by omega
      exact k t2 _ S (by rw [if_neg (show ¬ c > 1 by omega), e1]; rw [e1] at W; exact (W.at (List.Mem.head _)))
    · skip
      exact ⟨_, rfl, k t _ S (by rw [if_pos (show c > 1 by omega)]; exact (W.at (List.Mem.head _)))⟩
def spDue : Sp := fun vs H Q _ => ∃ (t : Addr) (f s c : Int), vs = [.ref t] ∧ H t = some (.tup [.int f, .int s, .int c]) ∧ ∀ (t' : Addr) (H' : Hp), Same H H' → H' t' = some (.tup (dueT f s c)) → Q (.ref t') H'
abbrev CalPlain (P : Program) (w : World) (K : PySem.W.Frag) (mg : Str → Option Value) (base : Heap) := Cal P w K mg base 1 "_law_plain" ["_law_row"] spPlain
theorem ok_due (C_plain : CalPlain P w K mg base) (Df : Dfn K mg "_law_due" "_law_due" s_due ["_law_row"]) : Cal P w K mg base 2 "_law_due" ["_law_row"] spDue := by
  refine Df.cal sc_due (fun vs H Q E h => ?_) (fun fA cdv A outer st H vs Q E hr h => ?_)
  · obtain ⟨t, f, s, c, rfl, _⟩ := h
    rfl
  · obtain ⟨t, f, s, c, rfl, ht, k⟩ := h
    have W := (Al.nil (H := H)).got ht
    have S := Same.refl H
    refine ⟨_, (pss_cons (ps_if (pt_cmpR op_lt (pe_ix ix_tup (pv 0) (pe_int) (fun _ _ => rfl)) (pe_int) (nomark _)) (pss_one (ps_ret (pe_tup (pa_cons (pe_str) (pa_cons (pe_ix ix_tup (pv 0) (pe_int) (fun _ _ => rfl)) (pa_cons (pe_bl) (pa_cons (pe_bl) pa_nil))))))) pss_nil)
      (pss_cons (ps_if (pt_cmpR op_lt (pe_ix ix_tup (pv 0) (pe_int) (fun _ _ => rfl)) (pe_int) (nomark _)) (pss_one (ps_ret (pe_tup (pa_cons (pe_str) (pa_cons (pe_ix ix_tup (pv 0) (pe_int) (fun _ _ => rfl)) (pa_cons (pe_bl) (pa_cons (pe_bl) pa_nil))))))) pss_nil)
      (pss_one (ps_ret (pe_cal C_plain (hr.mono (by decide)) (pa_cons (pv 0) pa_nil)))))), ?_⟩
    refine ⟨_, rfl, _, _, _, _, rfl, rfl, SqT.of (W.at (List.Mem.head _)), rfl, _, _, rfl, rfl, _, rfl, ifD (fun h1 => ?_) (fun h1 => ?_)⟩
    · skip
      refine ⟨_, rfl, _, _, _, _, rfl, rfl, SqT.of (W.at (List.Mem.head _)), rfl, (by show 4 ≤ sizeLine; decide), fun t2 ht2 => ?_⟩
      have W := W.new (o := .tup [.str "first", .int f, .bl true, .bl true]) ht2
      have S := S.trans (same_upd (o := .tup [.str "first", .int f, .bl true, .bl true]) ht2)
      exact k t2 _ S (by rw [due_f (by omega)]; exact (W.at (List.Mem.head _)))
    · skip
      refine ⟨_, rfl, _, _, _, _, rfl, rfl, SqT.of (W.at (List.Mem.head _)), rfl, _, _, rfl, rfl, _, rfl, ifD (fun h3 => ?_) (fun h3 => ?_)⟩
      · skip
        refine ⟨_, rfl, _, _, _, _, rfl, rfl, SqT.of (W.at (List.Mem.head _)), rfl, (by show 4 ≤ sizeLine; decide), fun t4 ht4 => ?_⟩
        have W := W.new (o := .tup [.str "count", .int c, .bl true, .bl true]) ht4
        have S := S.trans (same_upd (o := .tup [.str "count", .int c, .bl true, .bl true]) ht4)
        exact k t4 _ S (by rw [due_c (by omega) (by omega)]; exact (W.at (List.Mem.head _)))
      · skip
        exact ⟨_, rfl, t, f, s, c, rfl, (W.at (List.Mem.head _)), (by omega), fun t' H' s' ht' => k t' H' s' (by rw [due_r (by omega) (by omega)]; exact ht')⟩
def spMeets (D : Addr) : Sp := fun vs H Q _ => ∃ (v : V) (t : Addr) (f s c : Int), vs = [v, .ref t] ∧ FoundR D H v f s c ∧ H t = some (.tup (dueT f s c)) ∧ ∀ H', Same H H' → Q (.bl true) H'
theorem ok_meets {D : Addr} (B : Blt mg) (C_held : CalHeld P w K mg base D) (Df : Dfn K mg "_law_meets" "_law_meets" s_meets ["_law_found", "_law_due_here"]) : Cal P w K mg base 4 "_law_meets" ["_law_found", "_law_due_here"] (spMeets D) := by
  refine Df.cal sc_meets (fun vs H Q E h => ?_) (fun fA cdv A outer st H vs Q E hr h => ?_)
  · obtain ⟨v, t, f, s, c, rfl, _⟩ := h
    rfl
  · obtain ⟨v, t, f, s, c, rfl, hv, ht, k⟩ := h
    refine ⟨_, (pss_cons (ps_if (pt_cmpR op_eq (pe_callB call_len_seq (by rfl) B.len PySem.boot_len (pa_cons (pv 1) pa_nil)) (pe_int) (nomark _)) (pss_one (ps_ret (pe_cmpR (op_eqD hr.units) (pv 0) (pv 1) (nomark _)))) pss_nil)
      (pss_one (ps_ret (pe_cal C_held (hr.mono (by decide)) (pa_cons (pv 0) (pa_cons (pv 1) pa_nil)))))), ?_⟩
    rcases hv with ⟨u, rfl, hb, hu⟩ | ⟨x, rfl, h0, h1, ⟨dx, hx⟩⟩
    · rcases (by omega : f < 0 ∨ 0 ≤ f ∧ c < 1) with h | ⟨h, h1⟩
      · rw [due_f h] at hu ht
        have W := ((Al.nil (H := H)).got ht).got hu
        have S := Same.refl H
        refine ⟨_, rfl, _, _, rfl, .inr (SqT.of (W.at (List.Mem.tail _ (List.Mem.head _)))), rfl, _, rfl, ieT (show (4 : Int) = 4 by decide) ?_⟩
        refine ⟨_, rfl, _, rfl, (.tuple [.str "first", .int f, .bool true, .bool true]), (.tuple [.str "first", .int f, .bool true, .bool true]), (.tup (SqT.of (W.at (List.Mem.head _))) (.cons (.str _) (.cons (.int _) (.cons (.bl _) (.cons (.bl _) .nil))))), (.tup (SqT.of (W.at (List.Mem.tail _ (List.Mem.head _)))) (.cons (.str _) (.cons (.int _) (.cons (.bl _) (.cons (.bl _) .nil))))), (by simp [SeqAt.shaped, PyData.canLay0, PyData.canLayAll0, PyData.depth, PyData.depthAll, show PyData.strOk ("first" : Str) = true by decide +kernel]), (by simp [SeqAt.shaped, PyData.canLay0, PyData.canLayAll0, PyData.depth, PyData.depthAll, show PyData.strOk ("first" : Str) = true by decide +kernel]), ?_⟩
        rw [SeqAt.eqv_refl _ (by simp [SeqAt.shaped, PyData.canLay0, PyData.canLayAll0, PyData.depth, PyData.depthAll, show PyData.strOk ("first" : Str) = true by decide +kernel])]
        exact k _ S
      · rw [due_c h h1] at hu ht
        have W := ((Al.nil (H := H)).got ht).got hu
        have S := Same.refl H
        refine ⟨_, rfl, _, _, rfl, .inr (SqT.of (W.at (List.Mem.tail _ (List.Mem.head _)))), rfl, _, rfl, ieT (show (4 : Int) = 4 by decide) ?_⟩
        refine ⟨_, rfl, _, rfl, (.tuple [.str "count", .int c, .bool true, .bool true]), (.tuple [.str "count", .int c, .bool true, .bool true]), (.tup (SqT.of (W.at (List.Mem.head _))) (.cons (.str _) (.cons (.int _) (.cons (.bl _) (.cons (.bl _) .nil))))), (.tup (SqT.of (W.at (List.Mem.tail _ (List.Mem.head _)))) (.cons (.str _) (.cons (.int _) (.cons (.bl _) (.cons (.bl _) .nil))))), (by simp [SeqAt.shaped, PyData.canLay0, PyData.canLayAll0, PyData.depth, PyData.depthAll, show PyData.strOk ("count" : Str) = true by decide +kernel]), (by simp [SeqAt.shaped, PyData.canLay0, PyData.canLayAll0, PyData.depth, PyData.depthAll, show PyData.strOk ("count" : Str) = true by decide +kernel]), ?_⟩
        rw [SeqAt.eqv_refl _ (by simp [SeqAt.shaped, PyData.canLay0, PyData.canLayAll0, PyData.depth, PyData.depthAll, show PyData.strOk ("count" : Str) = true by decide +kernel])]
        exact k _ S
    · rw [due_r h0 h1] at ht
      have W := ((Al.nil (H := H)).got ht).got hx
      have S := Same.refl H
      refine ⟨_, rfl, _, _, rfl, .inr (SqT.of (W.at (List.Mem.tail _ (List.Mem.head _)))), rfl, _, rfl, ieF (show (3 : Int) ≠ 4 by decide) ?_⟩
      refine ⟨_, rfl, _, rfl, x, t, f, (if c > 1 then s else 1), c, rfl, ⟨dx, (W.at (List.Mem.head _))⟩, (W.at (List.Mem.tail _ (List.Mem.head _))), fun H1 s2 => ?_⟩
      have W := W.same s2
      have S := S.trans s2
      exact k _ S
def spMade (D : Addr) : Sp := fun vs H Q _ => ∃ (way m h f s c : Int), vs = [.int way, .int m, .int h] ∧ ((way = 0 ∧ f = m ∧ s = 1 ∧ c = 1) ∨ (way = 1 ∧ f = 1 ∧ s = 2 ∧ c = m) ∨ (way = 2 ∧ f = 0 ∧ s = 2 ∧ c = m + 1) ∨ (way = 3 ∧ f = m ∧ s = 1 ∧ c = h - m + 1)) ∧
  ∀ (v : V) (H' : Hp), Same H H' → FoundR D H' v f s c → Q v H'
theorem ok_made {D BN LE : Addr} (B : Blt mg) (TD : RunC K mg D) (TB : BnC K mg BN) (kL : PySem.W.kitOne K (.ref BN) (.ref LE) = some true) (kV : PySem.W.kitOne K (.ref BN) (.type "ValueError") = some true) (gLotError : mg "LotError" = some (.ref LE)) (C_point : CalCM P w K mg base 5 D "point" ["cls", "k"] (spPoint D BN)) (C_odd : CalCM P w K mg base 5 D "odd" ["cls", "m"] (spOdd D BN)) (C_even : CalCM P w K mg base 5 D "even" ["cls", "m"] (spEven D BN)) (C_between : CalCM P w K mg base 5 D "between" ["cls", "low", "high"] (spBetween D BN)) (Df : Dfn K mg "_law_made" "_law_made" s_made ["_law_way", "_law_m", "_law_high"]) : Cal P w K mg base 6 "_law_made" ["_law_way", "_law_m", "_law_high"] (spMade D) := by
  refine Df.cal sc_made (fun vs H Q E h => ?_) (fun fA cdv A outer st H vs Q E hr h => ?_)
  · obtain ⟨way, m, h, f, s, c, rfl, _⟩ := h
    rfl
  · obtain ⟨way, m, h, f, s, c, rfl, hw, k⟩ := h
    have W := Al.nil (H := H)
    have S := Same.refl H
    refine ⟨_, (pss_cons (ps_set (i := 3) sc_made.nd rfl (Or.inl rfl) (pe_non))
      (pss_cons (ps_try_as (i := 4) rfl rfl sc_made.nd rfl rfl ⟨rfl, by decide, Or.inl TB.g⟩ takes0 (fun W pn xe tk _ => (pss_one (ps_if (pt_cmpR op_eq (pv 0) (pe_int) (nomark _)) (pss_one (ps_set (i := 3) sc_made.nd rfl (Or.inl rfl) (pe_cm C_point (fun σ => passAt tk σ) (hr.mono (by decide)) (pe_glob (v := .ref _) (by rfl) TD.g rfl) (pa_cons (pv 1) pa_nil)))) (pss_one (ps_if (pt_cmpR op_eq (pv 0) (pe_int) (nomark _)) (pss_one (ps_set (i := 3) sc_made.nd rfl (Or.inl rfl) (pe_cm C_odd (fun σ => passAt tk σ) (hr.mono (by decide)) (pe_glob (v := .ref _) (by rfl) TD.g rfl) (pa_cons (pv 1) pa_nil)))) (pss_one (ps_if (pt_cmpR op_eq (pv 0) (pe_int) (nomark _)) (pss_one (ps_set (i := 3) sc_made.nd rfl (Or.inl rfl) (pe_cm C_even (fun σ => passAt tk σ) (hr.mono (by decide)) (pe_glob (v := .ref _) (by rfl) TD.g rfl) (pa_cons (pv 1) pa_nil)))) (pss_one (ps_set (i := 3) sc_made.nd rfl (Or.inl rfl) (pe_cm C_between (fun σ => passAt tk σ) (hr.mono (by decide)) (pe_glob (v := .ref _) (by rfl) TD.g rfl) (pa_cons (pv 1) (pa_cons (pv 2) pa_nil)))))))))))) (fun a oe cls d pn hz hf => (pss_one (ps_set (i := 3) sc_made.nd rfl (Or.inl rfl) (pe_tup (pa_cons (pe_xf TB.xf TB.nN hz hf (pv 4)) (pa_cons (pe_xf TB.xf TB.nV hz hf (pv 4)) (pa_cons (pe_callB (call_isX TB.e hz hf) (by rfl) B.isinstance (by decide +kernel) (pa_cons (pv 4) (pa_cons (pe_glob (v := .ref _) (by rfl) gLotError rfl) pa_nil))) (pa_cons (pe_callB (call_isX TB.e hz hf) (by rfl) B.isinstance (by decide +kernel) (pa_cons (pv 4) (pa_cons (pe_bltn (v := .ty "ValueError") (by rfl) B.ve (by decide +kernel) rfl) pa_nil))) pa_nil)))))))))
      (pss_one (ps_ret (pv 3))))), ?_⟩
    refine ⟨_, rfl, rfl, _, rfl, ifE (fun h1 => ?_) (fun h1 => ?_)⟩
    · skip
      obtain ⟨e1, e2, e3⟩ : f = m ∧ s = 1 ∧ c = 1 := by omega
      rw [e1, e2, e3] at k
      refine ⟨rfl, _, rfl, _, rfl, ⟨fun h0 => ?_, fun h0 h1 => ?_, fun h0 h1 x H' s' hx => ?_⟩⟩
      · skip
        intro d H' s' hd0 hd
        have W := W.same s'
        have S := S.trans s'
        have W := W.got hd
        refine ⟨true, TB.exm, fun _ e2 he3 => ?_, fun q => Bool.noConfusion q⟩
        refine ⟨_, rfl, rfl, rfl, d, _, _, rfl, (W.at (List.Mem.head _)), bnf_name _ _, _, rfl, rfl, rfl, d, _, _, rfl, (W.at (List.Mem.head _)), bnf_value _ _, _, rfl, rfl, .inr ⟨d, _, rfl, (W.at (List.Mem.head _))⟩, _, _, true, rfl, .own _, kL, _, rfl, rfl, .inr ⟨d, _, rfl, (W.at (List.Mem.head _))⟩, _, _, true, rfl, .ty _, kV, (by show 4 ≤ sizeLine; decide), fun t4 ht4 => ?_⟩
        have W := W.new (o := .tup [.str "first", .int m, .bl true, .bl true]) ht4
        have S := S.trans (same_upd (o := .tup [.str "first", .int m, .bl true, .bl true]) ht4)
        exact ⟨_, rfl, k _ _ S (.inl ⟨_, rfl, (by omega), by rw [due_f (by omega)]; exact (W.at (List.Mem.head _))⟩)⟩
      · skip
        intro d H' s' hd0 hd
        have W := W.same s'
        have S := S.trans s'
        have W := W.got hd
        refine ⟨true, TB.exm, fun _ e5 he6 => ?_, fun q => Bool.noConfusion q⟩
        refine ⟨_, rfl, rfl, rfl, d, _, _, rfl, (W.at (List.Mem.head _)), bnf_name _ _, _, rfl, rfl, rfl, d, _, _, rfl, (W.at (List.Mem.head _)), bnf_value _ _, _, rfl, rfl, .inr ⟨d, _, rfl, (W.at (List.Mem.head _))⟩, _, _, true, rfl, .own _, kL, _, rfl, rfl, .inr ⟨d, _, rfl, (W.at (List.Mem.head _))⟩, _, _, true, rfl, .ty _, kV, (by show 4 ≤ sizeLine; decide), fun t7 ht7 => ?_⟩
        have W := W.new (o := .tup [.str "count", .int 1, .bl true, .bl true]) ht7
        have S := S.trans (same_upd (o := .tup [.str "count", .int 1, .bl true, .bl true]) ht7)
        exact ⟨_, rfl, k _ _ S (.inl ⟨_, rfl, (by omega), by rw [due_c (by omega) (by omega)]; exact (W.at (List.Mem.head _))⟩)⟩
      · skip
        obtain ⟨dx, hx⟩ := hx
        have W := W.same s'
        have S := S.trans s'
        have W := W.got hx
        exact ⟨_, rfl, k _ _ S (.inr ⟨_, rfl, (by omega), (by omega), dx, (W.at (List.Mem.head _))⟩)⟩
    · skip
      refine ⟨_, rfl, rfl, _, rfl, ifE (fun h8 => ?_) (fun h8 => ?_)⟩
      · skip
        obtain ⟨e1, e2, e3⟩ : f = 1 ∧ s = 2 ∧ c = m := by omega
        rw [e1, e2, e3] at k
        refine ⟨rfl, _, rfl, _, rfl, ⟨fun h0 => ?_, fun h0 h1 => ?_, fun h0 h1 x H' s' hx => ?_⟩⟩
        · skip
          intro d H' s' hd0 hd
          have W := W.same s'
          have S := S.trans s'
          have W := W.got hd
          refine ⟨true, TB.exm, fun _ e9 he10 => ?_, fun q => Bool.noConfusion q⟩
          refine ⟨_, rfl, rfl, rfl, d, _, _, rfl, (W.at (List.Mem.head _)), bnf_name _ _, _, rfl, rfl, rfl, d, _, _, rfl, (W.at (List.Mem.head _)), bnf_value _ _, _, rfl, rfl, .inr ⟨d, _, rfl, (W.at (List.Mem.head _))⟩, _, _, true, rfl, .own _, kL, _, rfl, rfl, .inr ⟨d, _, rfl, (W.at (List.Mem.head _))⟩, _, _, true, rfl, .ty _, kV, (by show 4 ≤ sizeLine; decide), fun t11 ht11 => ?_⟩
          have W := W.new (o := .tup [.str "first", .int 1, .bl true, .bl true]) ht11
          have S := S.trans (same_upd (o := .tup [.str "first", .int 1, .bl true, .bl true]) ht11)
          exact ⟨_, rfl, k _ _ S (.inl ⟨_, rfl, (by omega), by rw [due_f (by omega)]; exact (W.at (List.Mem.head _))⟩)⟩
        · skip
          intro d H' s' hd0 hd
          have W := W.same s'
          have S := S.trans s'
          have W := W.got hd
          refine ⟨true, TB.exm, fun _ e12 he13 => ?_, fun q => Bool.noConfusion q⟩
          refine ⟨_, rfl, rfl, rfl, d, _, _, rfl, (W.at (List.Mem.head _)), bnf_name _ _, _, rfl, rfl, rfl, d, _, _, rfl, (W.at (List.Mem.head _)), bnf_value _ _, _, rfl, rfl, .inr ⟨d, _, rfl, (W.at (List.Mem.head _))⟩, _, _, true, rfl, .own _, kL, _, rfl, rfl, .inr ⟨d, _, rfl, (W.at (List.Mem.head _))⟩, _, _, true, rfl, .ty _, kV, (by show 4 ≤ sizeLine; decide), fun t14 ht14 => ?_⟩
          have W := W.new (o := .tup [.str "count", .int m, .bl true, .bl true]) ht14
          have S := S.trans (same_upd (o := .tup [.str "count", .int m, .bl true, .bl true]) ht14)
          exact ⟨_, rfl, k _ _ S (.inl ⟨_, rfl, (by omega), by rw [due_c (by omega) (by omega)]; exact (W.at (List.Mem.head _))⟩)⟩
        · skip
          obtain ⟨dx, hx⟩ := hx
          have W := W.same s'
          have S := S.trans s'
          have W := W.got hx
          exact ⟨_, rfl, k _ _ S (.inr ⟨_, rfl, (by omega), (by omega), dx, (W.at (List.Mem.head _))⟩)⟩
      · skip
        refine ⟨_, rfl, rfl, _, rfl, ifE (fun h15 => ?_) (fun h15 => ?_)⟩
        · skip
          obtain ⟨e1, e2, e3⟩ : f = 0 ∧ s = 2 ∧ c = (m + 1) := by omega
          rw [e1, e2, e3] at k
          refine ⟨rfl, _, rfl, _, rfl, ⟨fun h0 => ?_, fun h0 h1 => ?_, fun h0 h1 x H' s' hx => ?_⟩⟩
          · skip
            intro d H' s' hd0 hd
            have W := W.same s'
            have S := S.trans s'
            have W := W.got hd
            refine ⟨true, TB.exm, fun _ e16 he17 => ?_, fun q => Bool.noConfusion q⟩
            refine ⟨_, rfl, rfl, rfl, d, _, _, rfl, (W.at (List.Mem.head _)), bnf_name _ _, _, rfl, rfl, rfl, d, _, _, rfl, (W.at (List.Mem.head _)), bnf_value _ _, _, rfl, rfl, .inr ⟨d, _, rfl, (W.at (List.Mem.head _))⟩, _, _, true, rfl, .own _, kL, _, rfl, rfl, .inr ⟨d, _, rfl, (W.at (List.Mem.head _))⟩, _, _, true, rfl, .ty _, kV, (by show 4 ≤ sizeLine; decide), fun t18 ht18 => ?_⟩
            have W := W.new (o := .tup [.str "first", .int 0, .bl true, .bl true]) ht18
            have S := S.trans (same_upd (o := .tup [.str "first", .int 0, .bl true, .bl true]) ht18)
            exact ⟨_, rfl, k _ _ S (.inl ⟨_, rfl, (by omega), by rw [due_f (by omega)]; exact (W.at (List.Mem.head _))⟩)⟩
          · skip
            intro d H' s' hd0 hd
            have W := W.same s'
            have S := S.trans s'
            have W := W.got hd
            refine ⟨true, TB.exm, fun _ e19 he20 => ?_, fun q => Bool.noConfusion q⟩
            refine ⟨_, rfl, rfl, rfl, d, _, _, rfl, (W.at (List.Mem.head _)), bnf_name _ _, _, rfl, rfl, rfl, d, _, _, rfl, (W.at (List.Mem.head _)), bnf_value _ _, _, rfl, rfl, .inr ⟨d, _, rfl, (W.at (List.Mem.head _))⟩, _, _, true, rfl, .own _, kL, _, rfl, rfl, .inr ⟨d, _, rfl, (W.at (List.Mem.head _))⟩, _, _, true, rfl, .ty _, kV, (by show 4 ≤ sizeLine; decide), fun t21 ht21 => ?_⟩
            have W := W.new (o := .tup [.str "count", .int (m + 1), .bl true, .bl true]) ht21
            have S := S.trans (same_upd (o := .tup [.str "count", .int (m + 1), .bl true, .bl true]) ht21)
            exact ⟨_, rfl, k _ _ S (.inl ⟨_, rfl, (by omega), by rw [due_c (by omega) (by omega)]; exact (W.at (List.Mem.head _))⟩)⟩
          · skip
            obtain ⟨dx, hx⟩ := hx
            have W := W.same s'
            have S := S.trans s'
            have W := W.got hx
            exact ⟨_, rfl, k _ _ S (.inr ⟨_, rfl, (by omega), (by omega), dx, (W.at (List.Mem.head _))⟩)⟩
        · skip
          obtain ⟨e1, e2, e3⟩ : f = m ∧ s = 1 ∧ c = (h - m + 1) := by omega
          rw [e1, e2, e3] at k
          refine ⟨rfl, _, rfl, _, rfl, _, _, rfl, ⟨fun h0 => ?_, fun h0 h1 => ?_, fun h0 h1 x H' s' hx => ?_⟩⟩
          · skip
            intro d H' s' hd0 hd
            have W := W.same s'
            have S := S.trans s'
            have W := W.got hd
            refine ⟨true, TB.exm, fun _ e22 he23 => ?_, fun q => Bool.noConfusion q⟩
            refine ⟨_, rfl, rfl, rfl, d, _, _, rfl, (W.at (List.Mem.head _)), bnf_name _ _, _, rfl, rfl, rfl, d, _, _, rfl, (W.at (List.Mem.head _)), bnf_value _ _, _, rfl, rfl, .inr ⟨d, _, rfl, (W.at (List.Mem.head _))⟩, _, _, true, rfl, .own _, kL, _, rfl, rfl, .inr ⟨d, _, rfl, (W.at (List.Mem.head _))⟩, _, _, true, rfl, .ty _, kV, (by show 4 ≤ sizeLine; decide), fun t24 ht24 => ?_⟩
            have W := W.new (o := .tup [.str "first", .int m, .bl true, .bl true]) ht24
            have S := S.trans (same_upd (o := .tup [.str "first", .int m, .bl true, .bl true]) ht24)
            exact ⟨_, rfl, k _ _ S (.inl ⟨_, rfl, (by omega), by rw [due_f (by omega)]; exact (W.at (List.Mem.head _))⟩)⟩
          · skip
            intro d H' s' hd0 hd
            have W := W.same s'
            have S := S.trans s'
            have W := W.got hd
            refine ⟨true, TB.exm, fun _ e25 he26 => ?_, fun q => Bool.noConfusion q⟩
            refine ⟨_, rfl, rfl, rfl, d, _, _, rfl, (W.at (List.Mem.head _)), bnf_name _ _, _, rfl, rfl, rfl, d, _, _, rfl, (W.at (List.Mem.head _)), bnf_value _ _, _, rfl, rfl, .inr ⟨d, _, rfl, (W.at (List.Mem.head _))⟩, _, _, true, rfl, .own _, kL, _, rfl, rfl, .inr ⟨d, _, rfl, (W.at (List.Mem.head _))⟩, _, _, true, rfl, .ty _, kV, (by show 4 ≤ sizeLine; decide), fun t27 ht27 => ?_⟩
            have W := W.new (o := .tup [.str "count", .int (h - m + 1), .bl true, .bl true]) ht27
            have S := S.trans (same_upd (o := .tup [.str "count", .int (h - m + 1), .bl true, .bl true]) ht27)
            exact ⟨_, rfl, k _ _ S (.inl ⟨_, rfl, (by omega), by rw [due_c (by omega) (by omega)]; exact (W.at (List.Mem.head _))⟩)⟩
          · skip
            obtain ⟨dx, hx⟩ := hx
            have W := W.same s'
            have S := S.trans s'
            have W := W.got hx
            exact ⟨_, rfl, k _ _ S (.inr ⟨_, rfl, (by omega), (by omega), dx, (W.at (List.Mem.head _))⟩)⟩
def spMoved (D : Addr) : Sp := fun vs H Q _ => ∃ (x : Addr) (f s c n : Int), vs = [.ref x, .int n] ∧ RunAt D H x f s c ∧ RunOk f s c ∧ ∀ (v : V) (H' : Hp), Same H H' → FoundR D H' v (f + n) s c → Q v H'
theorem ok_moved {D BN LE : Addr} (B : Blt mg) (TD : RunC K mg D) (TB : BnC K mg BN) (kL : PySem.W.kitOne K (.ref BN) (.ref LE) = some true) (kV : PySem.W.kitOne K (.ref BN) (.type "ValueError") = some true) (gLotError : mg "LotError" = some (.ref LE))
    (ADD : OwnX P w K mg base 5 D (PySem.dunder (Operator.info .Add).2) ["self", "other"] (spAdd D BN)) {rcA fiA riA : Option Value} (hSFD : PySem.W.selfFirst K D = true) (rADD : PySem.W.findIn K (.ref D) (dunderR (Operator.info .Add).2) = some rcA) (rAp : rcA = none ∨ ∃ g : Addr, rcA = some (.ref g))
    (iADD : PySem.W.findIn K (.type "int") (PySem.dunder (Operator.info .Add).2) = some fiA) (jADD : PySem.W.findIn K (.type "int") (dunderR (Operator.info .Add).2) = some riA) (siD : PySem.W.subIn K (.type "int") (.ref D) = some false) (Df : Dfn K mg "_law_moved" "_law_moved" s_moved ["_law_run", "_law_move"]) : Cal P w K mg base 6 "_law_moved" ["_law_run", "_law_move"] (spMoved D) := by
  refine Df.cal sc_moved (fun vs H Q E h => ?_) (fun fA cdv A outer st H vs Q E hr h => ?_)
  · obtain ⟨x, f, s, c, n, rfl, _⟩ := h
    rfl
  · obtain ⟨x, f, s, c, n, rfl, ⟨dx, hx⟩, ok, k⟩ := h
    have W := (Al.nil (H := H)).got hx
    have S := Same.refl H
    have ok1 := ok.c1
    refine ⟨_, (pss_cons (ps_set (i := 2) sc_moved.nd rfl (Or.inl rfl) (pe_non))
      (pss_cons (ps_try_as (i := 3) rfl rfl sc_moved.nd rfl rfl ⟨rfl, by decide, Or.inl TB.g⟩ takes0 (fun W pn xe tk _ => (pss_one (ps_set (i := 2) sc_moved.nd rfl (Or.inl rfl) (pe_ownX (op := .Add) ADD (fun σ => passAt tk σ) hSFD rADD rAp iADD jADD siD (hr.mono (by decide)) (pv 0) (pv 1))))) (fun a oe cls d pn hz hf => (pss_one (ps_set (i := 2) sc_moved.nd rfl (Or.inl rfl) (pe_tup (pa_cons (pe_xf TB.xf TB.nN hz hf (pv 3)) (pa_cons (pe_xf TB.xf TB.nV hz hf (pv 3)) (pa_cons (pe_callB (call_isX TB.e hz hf) (by rfl) B.isinstance (by decide +kernel) (pa_cons (pv 3) (pa_cons (pe_glob (v := .ref _) (by rfl) gLotError rfl) pa_nil))) (pa_cons (pe_callB (call_isX TB.e hz hf) (by rfl) B.isinstance (by decide +kernel) (pa_cons (pv 3) (pa_cons (pe_bltn (v := .ty "ValueError") (by rfl) B.ve (by decide +kernel) rfl) pa_nil))) pa_nil)))))))))
      (pss_one (ps_ret (pv 2))))), ?_⟩
    refine ⟨_, rfl, _, rfl, x, dx, _, rfl, (W.at (List.Mem.head _)), .inr ⟨_, rfl⟩, x, f, s, c, n, rfl, ⟨dx, (W.at (List.Mem.head _))⟩, ok, ⟨fun h0 => ?_, fun h0 h1 => ?_, fun h0 h1 y H' s' hy => ?_⟩⟩
    · skip
      intro d H' s' hd0 hd
      have W := W.same s'
      have S := S.trans s'
      have W := W.got hd
      refine ⟨true, TB.exm, fun _ e1 he2 => ?_, fun q => Bool.noConfusion q⟩
      refine ⟨_, rfl, rfl, rfl, d, _, _, rfl, (W.at (List.Mem.head _)), bnf_name _ _, _, rfl, rfl, rfl, d, _, _, rfl, (W.at (List.Mem.head _)), bnf_value _ _, _, rfl, rfl, .inr ⟨d, _, rfl, (W.at (List.Mem.head _))⟩, _, _, true, rfl, .own _, kL, _, rfl, rfl, .inr ⟨d, _, rfl, (W.at (List.Mem.head _))⟩, _, _, true, rfl, .ty _, kV, (by show 4 ≤ sizeLine; decide), fun t3 ht3 => ?_⟩
      have W := W.new (o := .tup [.str "first", .int (f + n), .bl true, .bl true]) ht3
      have S := S.trans (same_upd (o := .tup [.str "first", .int (f + n), .bl true, .bl true]) ht3)
      exact ⟨_, rfl, k _ _ S (.inl ⟨_, rfl, (by omega), by rw [due_f (by omega)]; exact (W.at (List.Mem.head _))⟩)⟩
    · skip
      intro d H' s' hd0 hd
      have W := W.same s'
      have S := S.trans s'
      have W := W.got hd
      refine ⟨true, TB.exm, fun _ e4 he5 => ?_, fun q => Bool.noConfusion q⟩
      refine ⟨_, rfl, rfl, rfl, d, _, _, rfl, (W.at (List.Mem.head _)), bnf_name _ _, _, rfl, rfl, rfl, d, _, _, rfl, (W.at (List.Mem.head _)), bnf_value _ _, _, rfl, rfl, .inr ⟨d, _, rfl, (W.at (List.Mem.head _))⟩, _, _, true, rfl, .own _, kL, _, rfl, rfl, .inr ⟨d, _, rfl, (W.at (List.Mem.head _))⟩, _, _, true, rfl, .ty _, kV, (by show 4 ≤ sizeLine; decide), fun t6 ht6 => ?_⟩
      have W := W.new (o := .tup [.str "count", .int c, .bl true, .bl true]) ht6
      have S := S.trans (same_upd (o := .tup [.str "count", .int c, .bl true, .bl true]) ht6)
      exact ⟨_, rfl, k _ _ S (.inl ⟨_, rfl, (by omega), by rw [due_c (by omega) (by omega)]; exact (W.at (List.Mem.head _))⟩)⟩
    · skip
      obtain ⟨dy, hy⟩ := hy
      have W := W.same s'
      have S := S.trans s'
      have W := W.got hy
      exact ⟨.inl ⟨_, rfl⟩, _, rfl, k _ _ S (.inr ⟨_, rfl, (by omega), (by omega), dy, (W.at (List.Mem.head _))⟩)⟩
theorem step_other {s : Int} (h1 : 1 ≤ s) (h4 : s ≤ 4) : 1 ≤ s.fmod 4 + 1 ∧ s.fmod 4 + 1 ≤ 4 ∧ s ≠ s.fmod 4 + 1 := by
  rcases (by omega : s = 1 ∨ s = 2 ∨ s = 3 ∨ s = 4) with rfl | rfl | rfl | rfl <;> decide
def spAlike (D : Addr) : Sp := fun vs H Q _ => ∃ (x t : Addr) (f s c : Int), vs = [.ref x, .ref t] ∧ RunAt D H x f s c ∧ H t = some (.tup [.int f, .int s, .int c]) ∧ RunOk f s c ∧ (c = 1 → s = 1) ∧ ∀ H', Same H H' → Q (.bl true) H'
theorem ok_alike {D BN : Addr} (B : Blt mg) (TD : RunC K mg D) (MR : CalRun P w K mg base D BN) (C_point : CalCM P w K mg base 5 D "point" ["cls", "k"] (spPoint D BN)) (EQ : OpOwn P w K mg base 1 D (cmpInfo .Eq).2.1 ["self", "other"] (spEq D)) (Df : Dfn K mg "_law_alike" "_law_alike" s_alike ["_law_run", "_law_row"]) : Cal P w K mg base 6 "_law_alike" ["_law_run", "_law_row"] (spAlike D) := by
  refine Df.cal sc_alike (fun vs H Q E h => ?_) (fun fA cdv A outer st H vs Q E hr h => ?_)
  · obtain ⟨x, t, f, s, c, rfl, _⟩ := h
    rfl
  · obtain ⟨x, t, f, s, c, rfl, ⟨dx, hx⟩, ht, ok, one, k⟩ := h
    have W := ((Al.nil (H := H)).got ht).got hx
    have S := Same.refl H
    have o0 := ok.f0
    have o1 := ok.s1
    have o4 := ok.s4
    have oc := ok.c1
    have so := step_other o1 o4
    refine ⟨_, (pss_cons (ps_if (pt_not (pt_cmpR (cmp_oo (op := .Eq) (fun _ _ => rfl) EQ hr.units0 (hr.mono (by decide))) (pv 0) (pe_mk MR (hr.mono (by decide)) (pa_cons (pe_ix ix_tup (pv 1) (pe_int) (fun _ _ => rfl)) (pa_cons (pe_ix ix_tup (pv 1) (pe_int) (fun _ _ => rfl)) (pa_cons (pe_ix ix_tup (pv 1) (pe_int) (fun _ _ => rfl)) pa_nil)))) (nomark _))) (pss_one (ps_ret (pe_bl))) pss_nil)
      (pss_cons (ps_if (PW.pt (pw_or (pt_cmpR (cmp_oo (op := .Eq) (fun _ _ => rfl) EQ hr.units0 (hr.mono (by decide))) (pv 0) (pe_mk MR (hr.mono (by decide)) (pa_cons (pe_op op_add (pe_ix ix_tup (pv 1) (pe_int) (fun _ _ => rfl)) (pe_int)) (pa_cons (pe_ix ix_tup (pv 1) (pe_int) (fun _ _ => rfl)) (pa_cons (pe_ix ix_tup (pv 1) (pe_int) (fun _ _ => rfl)) pa_nil)))) (nomark _)) (pw_or1 (pt_cmpR (cmp_oo (op := .Eq) (fun _ _ => rfl) EQ hr.units0 (hr.mono (by decide))) (pv 0) (pe_mk MR (hr.mono (by decide)) (pa_cons (pe_ix ix_tup (pv 1) (pe_int) (fun _ _ => rfl)) (pa_cons (pe_ix ix_tup (pv 1) (pe_int) (fun _ _ => rfl)) (pa_cons (pe_op op_add (pe_ix ix_tup (pv 1) (pe_int) (fun _ _ => rfl)) (pe_int)) pa_nil)))) (nomark _))))) (pss_one (ps_ret (pe_bl))) pss_nil)
      (pss_cons (ps_if (pt_cmpR op_gt (pe_ix ix_tup (pv 1) (pe_int) (fun _ _ => rfl)) (pe_int) (nomark _)) (pss_one (ps_ret (pe_not (pe_cmpR (cmp_oo (op := .Eq) (fun _ _ => rfl) EQ hr.units0 (hr.mono (by decide))) (pv 0) (pe_mk MR (hr.mono (by decide)) (pa_cons (pe_ix ix_tup (pv 1) (pe_int) (fun _ _ => rfl)) (pa_cons (pe_op op_add (pe_op op_modN (pe_callTy call_int1 (by rfl) B.int (by decide +kernel) (pa_cons (pe_ix ix_tup (pv 1) (pe_int) (fun _ _ => rfl)) pa_nil)) (pe_int)) (pe_int)) (pa_cons (pe_ix ix_tup (pv 1) (pe_int) (fun _ _ => rfl)) pa_nil)))) (nomark _))))) pss_nil)
      (pss_one (ps_ret ((pe_and (pe_cmpR (cmp_oo (op := .Eq) (fun _ _ => rfl) EQ hr.units0 (hr.mono (by decide))) (pv 0) (pe_mk MR (hr.mono (by decide)) (pa_cons (pe_ix ix_tup (pv 1) (pe_int) (fun _ _ => rfl)) (pa_cons (pe_int) (pa_cons (pe_int) pa_nil)))) (nomark _)) (pe_one (pe_cmpR (cmp_oo (op := .Eq) (fun _ _ => rfl) EQ hr.units0 (hr.mono (by decide))) (pv 0) (pe_cm (E := fun _ => E0) C_point (fun σ pins H s e s' I h => passL pins σ H s e s' I h) (hr.mono (by decide)) (pe_glob (v := .ref _) (by rfl) TD.g rfl) (pa_cons (pe_ix ix_tup (pv 1) pe_int (fun _ _ => rfl)) pa_nil)) (nomark _)))))))))), ?_⟩
    refine ⟨_, rfl, _, rfl, _, _, _, _, rfl, rfl, SqT.of (W.at (List.Mem.tail _ (List.Mem.head _))), rfl, _, rfl, _, _, _, _, rfl, rfl, SqT.of (W.at (List.Mem.tail _ (List.Mem.head _))), rfl, _, rfl, _, _, _, _, rfl, rfl, SqT.of (W.at (List.Mem.tail _ (List.Mem.head _))), rfl, mkr2 (by omega) (by omega) (by omega) (by omega) fun y1 H2 s3 hy1 => ?_⟩
    obtain ⟨dy1, hy1⟩ := hy1
    have W := W.same s3
    have S := S.trans s3
    have W := W.got hy1
    refine ⟨x, dx, _, y1, dy1, _, rfl, (W.at (List.Mem.tail _ (List.Mem.head _))), rfl, (W.at (List.Mem.head _)), x, y1, f, s, c, f, (if c > 1 then s else 1), c, rfl, ⟨_, (W.at (List.Mem.tail _ (List.Mem.head _)))⟩, ⟨_, (W.at (List.Mem.head _))⟩, _, rfl, _, rfl, niT (by omega : f = f ∧ s = (if c > 1 then s else 1) ∧ c = c) ?_⟩
    refine ⟨_, rfl, _, rfl, _, _, _, _, rfl, rfl, SqT.of (W.at (List.Mem.tail _ (List.Mem.tail _ (List.Mem.head _)))), rfl, _, _, rfl, rfl, _, rfl, _, _, _, _, rfl, rfl, SqT.of (W.at (List.Mem.tail _ (List.Mem.tail _ (List.Mem.head _)))), rfl, _, rfl, _, _, _, _, rfl, rfl, SqT.of (W.at (List.Mem.tail _ (List.Mem.tail _ (List.Mem.head _)))), rfl, mkr2 (by omega) (by omega) (by omega) (by omega) fun y4 H5 s6 hy4 => ?_⟩
    obtain ⟨dy4, hy4⟩ := hy4
    have W := W.same s6
    have S := S.trans s6
    have W := W.got hy4
    refine ⟨x, dx, _, y4, dy4, _, rfl, (W.at (List.Mem.tail _ (List.Mem.tail _ (List.Mem.head _)))), rfl, (W.at (List.Mem.head _)), x, y4, f, s, c, (f + 1), (if c > 1 then s else 1), c, rfl, ⟨_, (W.at (List.Mem.tail _ (List.Mem.tail _ (List.Mem.head _))))⟩, ⟨_, (W.at (List.Mem.head _))⟩, _, rfl, _, rfl, itF (by omega : ¬ (f = (f + 1) ∧ s = (if c > 1 then s else 1) ∧ c = c)) ?_⟩
    refine ⟨_, rfl, _, rfl, _, _, _, _, rfl, rfl, SqT.of (W.at (List.Mem.tail _ (List.Mem.tail _ (List.Mem.tail _ (List.Mem.head _))))), rfl, _, rfl, _, _, _, _, rfl, rfl, SqT.of (W.at (List.Mem.tail _ (List.Mem.tail _ (List.Mem.tail _ (List.Mem.head _))))), rfl, _, rfl, _, _, _, _, rfl, rfl, SqT.of (W.at (List.Mem.tail _ (List.Mem.tail _ (List.Mem.tail _ (List.Mem.head _))))), rfl, _, _, rfl, rfl, mkr2 (by omega) (by omega) (by omega) (by omega) fun y7 H8 s9 hy7 => ?_⟩
    obtain ⟨dy7, hy7⟩ := hy7
    have W := W.same s9
    have S := S.trans s9
    have W := W.got hy7
    refine ⟨x, dx, _, y7, dy7, _, rfl, (W.at (List.Mem.tail _ (List.Mem.tail _ (List.Mem.tail _ (List.Mem.head _))))), rfl, (W.at (List.Mem.head _)), x, y7, f, s, c, f, (if (c + 1) > 1 then s else 1), (c + 1), rfl, ⟨_, (W.at (List.Mem.tail _ (List.Mem.tail _ (List.Mem.tail _ (List.Mem.head _)))))⟩, ⟨_, (W.at (List.Mem.head _))⟩, _, rfl, _, rfl, itF (by omega : ¬ (f = f ∧ s = (if (c + 1) > 1 then s else 1) ∧ c = (c + 1))) ?_⟩
    refine ⟨_, rfl, _, _, _, _, rfl, rfl, SqT.of (W.at (List.Mem.tail _ (List.Mem.tail _ (List.Mem.tail _ (List.Mem.tail _ (List.Mem.head _)))))), rfl, _, _, rfl, rfl, _, rfl, ifD (fun h10 => ?_) (fun h10 => ?_)⟩
    · skip
      refine ⟨_, rfl, _, rfl, _, _, _, _, rfl, rfl, SqT.of (W.at (List.Mem.tail _ (List.Mem.tail _ (List.Mem.tail _ (List.Mem.tail _ (List.Mem.head _)))))), rfl, _, rfl, _, _, _, _, rfl, rfl, SqT.of (W.at (List.Mem.tail _ (List.Mem.tail _ (List.Mem.tail _ (List.Mem.tail _ (List.Mem.head _)))))), rfl, .inl ⟨_, rfl, ?_⟩⟩
      refine ⟨_, _, rfl, rfl, (show 4 ≠ 0 by omega), _, _, rfl, rfl, _, rfl, _, _, _, _, rfl, rfl, SqT.of (W.at (List.Mem.tail _ (List.Mem.tail _ (List.Mem.tail _ (List.Mem.tail _ (List.Mem.head _)))))), rfl, mkr2 (by omega) (by omega) (by omega) (by omega) fun y11 H12 s13 hy11 => ?_⟩
      obtain ⟨dy11, hy11⟩ := hy11
      have W := W.same s13
      have S := S.trans s13
      have W := W.got hy11
      refine ⟨x, dx, _, y11, dy11, _, rfl, (W.at (List.Mem.tail _ (List.Mem.tail _ (List.Mem.tail _ (List.Mem.tail _ (List.Mem.head _)))))), rfl, (W.at (List.Mem.head _)), x, y11, f, s, c, f, (if c > 1 then ((s.fmod 4) + 1) else 1), c, rfl, ⟨_, (W.at (List.Mem.tail _ (List.Mem.tail _ (List.Mem.tail _ (List.Mem.tail _ (List.Mem.head _))))))⟩, ⟨_, (W.at (List.Mem.head _))⟩, _, rfl, _, rfl, ?_⟩
      rw [decide_eq_false (by omega : ¬ (f = f ∧ s = (if c > 1 then ((s.fmod 4) + 1) else 1) ∧ c = c))]
      exact k _ S
    · skip
      refine ⟨_, rfl, _, rfl, _, _, _, _, rfl, rfl, SqT.of (W.at (List.Mem.tail _ (List.Mem.tail _ (List.Mem.tail _ (List.Mem.tail _ (List.Mem.head _)))))), rfl, mkr2 (by omega) (by omega) (by omega) (by omega) fun y14 H15 s16 hy14 => ?_⟩
      obtain ⟨dy14, hy14⟩ := hy14
      have W := W.same s16
      have S := S.trans s16
      have W := W.got hy14
      refine ⟨x, dx, _, y14, dy14, _, rfl, (W.at (List.Mem.tail _ (List.Mem.tail _ (List.Mem.tail _ (List.Mem.tail _ (List.Mem.head _)))))), rfl, (W.at (List.Mem.head _)), x, y14, f, s, c, f, (if 1 > 1 then 3 else 1), 1, rfl, ⟨_, (W.at (List.Mem.tail _ (List.Mem.tail _ (List.Mem.tail _ (List.Mem.tail _ (List.Mem.head _))))))⟩, ⟨_, (W.at (List.Mem.head _))⟩, _, rfl, _, rfl, itT (by omega : f = f ∧ s = (if 1 > 1 then 3 else 1) ∧ c = 1) ?_⟩
      refine ⟨_, rfl, rfl, _, rfl, _, _, _, _, rfl, rfl, SqT.of (W.at (List.Mem.tail _ (List.Mem.tail _ (List.Mem.tail _ (List.Mem.tail _ (List.Mem.tail _ (List.Mem.head _))))))), rfl, _, rfl, MkR.to (by omega) (by omega) fun y17 H18 s19 hy17 => ?_⟩
      obtain ⟨dy17, hy17⟩ := hy17
      have W := W.same s19
      have S := S.trans s19
      have W := W.got hy17
      exact ⟨x, dx, _, y17, dy17, _, rfl, (W.at (List.Mem.tail _ (List.Mem.tail _ (List.Mem.tail _ (List.Mem.tail _ (List.Mem.tail _ (List.Mem.head _))))))), rfl, (W.at (List.Mem.head _)), x, y17, f, s, c, f, (if (1 : Int) > 1 then 1 else 1), 1, rfl, ⟨_, (W.at (List.Mem.tail _ (List.Mem.tail _ (List.Mem.tail _ (List.Mem.tail _ (List.Mem.tail _ (List.Mem.head _)))))))⟩, ⟨_, (W.at (List.Mem.head _))⟩, _, rfl, vT (by omega) (k _ S)⟩
end
end L

set_option Elab.async false
set_option linter.all false
set_option maxRecDepth 100000
set_option maxHeartbeats 4000000
set_option pp.maxSteps 160
set_option pp.deepTerms false
namespace L
open PySem PySem.Spec PyProof.Rows L2 Fl
local macro_rules | `(tactic| walk_at "side") => `(tactic| first | (exact .inl ⟨by omega, by omega⟩) | (exact .inr ⟨by omega, by omega⟩) | (exact .inr ⟨by decide, by decide⟩) | (show (_ : Int) ≠ _; omega) | (exact ⟨by omega, by decide⟩) | (exact ⟨by decide, by decide, by decide⟩))
local macro_rules | `(tactic| walk_at "go") => `(tactic| repeat (first | refine ⟨_, rfl, ?_⟩ | refine ⟨_, _, rfl, rfl, ?_⟩ | refine .inl ⟨_, rfl, ?_⟩ | refine ⟨rfl, ?_⟩ | refine ⟨(by walk_at "side"), ?_⟩))
local macro_rules | `(tactic| walk_at "see") => `(tactic| (set_option pp.maxSteps 110 in set_option pp.deepTerms false in trace_state))
local macro_rules | `(tactic| walk_at "if") => `(tactic| first | refine ifE ?_ ?_ | refine ifNE ?_ ?_ | refine ifD ?_ ?_ | refine ifN ?_ ?_ | refine ifB ?_ ?_)
open Bx
section
variable {P : Program} {w : World} {K : PySem.W.Frag} {mg : Str → Option Value} {base : Heap}

theorem FoundR.same {D : Addr} {H H' : Hp} {v : V} {f s c : Int} (h : FoundR D H v f s c) (k : Same H H') : FoundR D H' v f s c := by
  rcases h with ⟨t, e, h1, h2⟩ | ⟨x, e, h0, h1, h2⟩
  · exact .inl ⟨t, e, h1, k _ _ h2⟩
  · exact .inr ⟨x, e, h0, h1, h2.same k⟩
abbrev CalMade (P : Program) (w : World) (K : PySem.W.Frag) (mg : Str → Option Value) (base : Heap) (D : Addr) := Cal P w K mg base 6 "_law_made" ["_law_way", "_law_m", "_law_high"] (spMade D)
abbrev CalDue (P : Program) (w : World) (K : PySem.W.Frag) (mg : Str → Option Value) (base : Heap) := Cal P w K mg base 2 "_law_due" ["_law_row"] spDue
abbrev CalMeets (P : Program) (w : World) (K : PySem.W.Frag) (mg : Str → Option Value) (base : Heap) (D : Addr) := Cal P w K mg base 4 "_law_meets" ["_law_found", "_law_due_here"] (spMeets D)
abbrev CalMoved (P : Program) (w : World) (K : PySem.W.Frag) (mg : Str → Option Value) (base : Heap) (D : Addr) := Cal P w K mg base 6 "_law_moved" ["_law_run", "_law_move"] (spMoved D)
abbrev CalAlike (P : Program) (w : World) (K : PySem.W.Frag) (mg : Str → Option Value) (base : Heap) (D : Addr) := Cal P w K mg base 6 "_law_alike" ["_law_run", "_law_row"] (spAlike D)
def spNamed : Sp := fun vs H Q _ => ∃ (p : Pla), vs = [.ref p] ∧ Pool H p ∧ ∀ H', Pool H' p → Keeps H H' p → Q (.bl true) H'
theorem ok_named {D : Addr} (B : Blt mg) (C_draw : CalDraw P w K mg base) (C_wide : CalWide P w K mg base) (C_any : CalAny P w K mg base) (C_made : CalMade P w K mg base D) (C_due : CalDue P w K mg base) (C_meets : CalMeets P w K mg base D) (Df : Dfn K mg "_law_named" "_law_named" s_named ["_law_pool_here"]) : Cal P w K mg base 7 "_law_named" ["_law_pool_here"] spNamed := by
  refine Df.cal sc_named (fun vs H Q E h => ?_) (fun fA cdv A outer st H vs Q E hr h => ?_)
  · obtain ⟨p, rfl, _⟩ := h
    rfl
  · obtain ⟨p, rfl, hP, k⟩ := h
    have W := Wd.nil hP
    have S := Keeps.refl H p.p
    refine ⟨_, (pss_cons (ps_set (i := 1) sc_named.nd rfl (Or.inl rfl) (pe_cal C_any (hr.mono (by decide)) (pa_cons (pv 0) pa_nil)))
      (pss_cons (ps_set (i := 2) sc_named.nd rfl (Or.inl rfl) (pe_op op_add (pv 1) (pe_cal C_any (hr.mono (by decide)) (pa_cons (pv 0) pa_nil))))
      (pss_cons (ps_set (i := 3) sc_named.nd rfl (Or.inl rfl) (pe_cal C_draw (hr.mono (by decide)) (pa_cons (pv 0) (pa_cons (pe_int) pa_nil))))
      (Evl.pss_cut (ps_if (pt_cmpR op_eq (pv 3) (pe_int) (nomark _)) (pss_cons (ps_set (i := 1) sc_named.nd rfl (Or.inl rfl) (pe_op op_sub (pe_cal C_draw (hr.mono (by decide)) (pa_cons (pv 0) (pa_cons (pe_int) pa_nil))) (pe_int)))
      (pss_one (ps_set (i := 2) sc_named.nd rfl (Or.inl rfl) (pe_op op_sub (pe_op op_add (pv 1) (pe_cal C_draw (hr.mono (by decide)) (pa_cons (pv 0) (pa_cons (pe_int) pa_nil)))) (pe_int))))) pss_nil)
      (Evl.pss_cut (ps_if (pt_cmpR op_eq (pv 3) (pe_int) (nomark _)) (pss_cons (ps_set (i := 1) sc_named.nd rfl (Or.inl rfl) (pe_op op_sub (pe_un un_neg (pe_int)) (pe_cal C_wide (hr.mono (by decide)) (pa_cons (pv 0) pa_nil))))
      (pss_one (ps_set (i := 2) sc_named.nd rfl (Or.inl rfl) (pe_cal C_wide (hr.mono (by decide)) (pa_cons (pv 0) pa_nil))))) pss_nil)
      (Evl.pss_cut (ps_if (pt_cmpR op_eq (pv 3) (pe_int) (nomark _)) (pss_cons (ps_set (i := 1) sc_named.nd rfl (Or.inl rfl) (pe_cal C_wide (hr.mono (by decide)) (pa_cons (pv 0) pa_nil)))
      (pss_one (ps_set (i := 2) sc_named.nd rfl (Or.inl rfl) (pe_op op_sub (pe_op op_sub (pv 1) (pe_int)) (pe_cal C_draw (hr.mono (by decide)) (pa_cons (pv 0) (pa_cons (pe_int) pa_nil))))))) pss_nil)
      (pss_cons (ps_set (i := 4) sc_named.nd rfl (Or.inl rfl) (pe_lst (pa_cons (pe_tup (pa_cons (pv 1) (pa_cons (pe_int) (pa_cons (pe_int) pa_nil)))) (pa_cons (pe_tup (pa_cons (pe_int) (pa_cons (pe_int) (pa_cons (pv 1) pa_nil)))) (pa_cons (pe_tup (pa_cons (pe_int) (pa_cons (pe_int) (pa_cons (pe_op op_add (pv 1) (pe_int)) pa_nil)))) (pa_cons (pe_tup (pa_cons (pv 1) (pa_cons (pe_int) (pa_cons (pe_op op_add (pe_op op_sub (pv 2) (pv 1)) (pe_int)) pa_nil)))) pa_nil))))))
      (pss_cons (ps_for PassesOwn.never rfl (pi_range1 (by rfl) B.range (pa_cons (pe_int) pa_nil)) (pg_name (i := 5) sc_named.nd rfl (Or.inl rfl)) (pss_one (ps_if (pt_not (pt_val (pe_cal C_meets (hr.mono (by decide)) (pa_cons (pe_cal C_made (hr.mono (by decide)) (pa_cons (pv 5) (pa_cons (pv 1) (pa_cons (pv 2) pa_nil)))) (pa_cons (pe_cal C_due (hr.mono (by decide)) (pa_cons (pe_ix ix_list (pv 4) (pv 5) (fun _ _ => rfl)) pa_nil)) pa_nil))))) (pss_one (ps_ret (pe_bl))) pss_nil)))
      (pss_one (ps_ret (pe_bl))))))))))), ?_⟩
    refine ⟨_, rfl, p, rfl, W.P, fun r1 H2 h0r1 h1r1 hP3 k4 => ?_⟩
    have W := W.keep hP3 k4
    have S := S.trans k4
    refine ⟨_, rfl, _, rfl, p, rfl, W.P, fun r5 H6 h0r5 h1r5 hP7 k8 => ?_⟩
    have W := W.keep hP7 k8
    have S := S.trans k8
    refine ⟨_, _, rfl, rfl, _, rfl, p, 6, rfl, W.P, by decide, by decide, fun r9 H10 h0r9 h1r9 hP11 k12 => ?_⟩
    have W := W.keep hP11 k12
    have S := S.trans k12
    refine ⟨fun σ' H' => ∃ v13 : Int, ∃ v14 : Int, σ' = [some (.ref (p : Addr)), some (.int v13), some (.int v14), some (.int r9), none, none] ∧ Wd p [] H' ∧ Keeps H H' p.p, ?_, ?_⟩
    · skip
      refine ⟨_, rfl, rfl, _, rfl, ifE (fun h15 => ?_) (fun h15 => ?_)⟩
      · skip
        refine ⟨_, rfl, p, 3, rfl, W.P, by decide, by decide, fun r16 H17 h0r16 h1r16 hP18 k19 => ?_⟩
        have W := W.keep hP18 k19
        have S := S.trans k19
        refine ⟨_, _, rfl, rfl, _, rfl, _, rfl, p, 4, rfl, W.P, by decide, by decide, fun r20 H21 h0r20 h1r20 hP22 k23 => ?_⟩
        have W := W.keep hP22 k23
        have S := S.trans k23
        refine ⟨_, _, rfl, rfl, _, _, rfl, rfl, ?_⟩
        exact ⟨(r16 - 1), (((r16 - 1) + r20) - 2), rfl, W, S⟩
      · skip
        exact ⟨r1, (r1 + r5), rfl, W, S⟩
    rintro σ' H24 ⟨v13, v14, rfl, W, S⟩
    refine ⟨fun σ' H' => ∃ v25 : Int, ∃ v26 : Int, σ' = [some (.ref (p : Addr)), some (.int v25), some (.int v26), some (.int r9), none, none] ∧ Wd p [] H' ∧ Keeps H H' p.p, ?_, ?_⟩
    · skip
      refine ⟨_, rfl, rfl, _, rfl, ifE (fun h27 => ?_) (fun h27 => ?_)⟩
      · skip
        refine ⟨_, rfl, _, rfl, p, rfl, W.P, fun r28 H29 h0r28 h1r28 hP30 k31 => ?_⟩
        have W := W.keep hP30 k31
        have S := S.trans k31
        refine ⟨_, _, rfl, rfl, _, rfl, p, rfl, W.P, fun r32 H33 h0r32 h1r32 hP34 k35 => ?_⟩
        have W := W.keep hP34 k35
        have S := S.trans k35
        exact ⟨((-1) - r28), r32, rfl, W, S⟩
      · skip
        exact ⟨v13, v14, rfl, W, S⟩
    rintro σ' H36 ⟨v25, v26, rfl, W, S⟩
    refine ⟨fun σ' H' => ∃ v37 : Int, ∃ v38 : Int, σ' = [some (.ref (p : Addr)), some (.int v37), some (.int v38), some (.int r9), none, none] ∧ Wd p [] H' ∧ Keeps H H' p.p, ?_, ?_⟩
    · skip
      refine ⟨_, rfl, rfl, _, rfl, ifE (fun h39 => ?_) (fun h39 => ?_)⟩
      · skip
        refine ⟨_, rfl, p, rfl, W.P, fun r40 H41 h0r40 h1r40 hP42 k43 => ?_⟩
        have W := W.keep hP42 k43
        have S := S.trans k43
        refine ⟨_, rfl, _, _, rfl, rfl, _, rfl, p, 9, rfl, W.P, by decide, by decide, fun r44 H45 h0r44 h1r44 hP46 k47 => ?_⟩
        have W := W.keep hP46 k47
        have S := S.trans k47
        refine ⟨_, _, rfl, rfl, ?_⟩
        exact ⟨r40, ((r40 - 1) - r44), rfl, W, S⟩
      · skip
        exact ⟨v25, v26, rfl, W, S⟩
    rintro σ' H48 ⟨v37, v38, rfl, W, S⟩
    refine ⟨_, rfl, (by show 3 ≤ sizeLine; decide), fun t49 ht49 => ?_⟩
    have W := W.new (o := .tup [.int v37, .int 1, .int 1]) ht49
    have S := S.trans (same_keeps (same_upd (o := .tup [.int v37, .int 1, .int 1]) ht49))
    refine ⟨_, rfl, (by show 3 ≤ sizeLine; decide), fun t50 ht50 => ?_⟩
    have W := W.new (o := .tup [.int 1, .int 2, .int v37]) ht50
    have S := S.trans (same_keeps (same_upd (o := .tup [.int 1, .int 2, .int v37]) ht50))
    refine ⟨_, rfl, _, _, rfl, rfl, (by show 3 ≤ sizeLine; decide), fun t51 ht51 => ?_⟩
    have W := W.new (o := .tup [.int 0, .int 2, .int (v37 + 1)]) ht51
    have S := S.trans (same_keeps (same_upd (o := .tup [.int 0, .int 2, .int (v37 + 1)]) ht51))
    refine ⟨_, rfl, _, rfl, _, rfl, _, _, rfl, rfl, _, _, rfl, rfl, (by show 3 ≤ sizeLine; decide), fun t52 ht52 => ?_⟩
    have W := W.new (o := .tup [.int v37, .int 1, .int ((v38 - v37) + 1)]) ht52
    have S := S.trans (same_keeps (same_upd (o := .tup [.int v37, .int 1, .int ((v38 - v37) + 1)]) ht52))
    refine ⟨(by show 4 ≤ sizeLine; decide), fun t53 ht53 => ?_⟩
    have W := W.new (o := .lst [.ref t49, .ref t50, .ref t51, .ref t52]) ht53
    have S := S.trans (same_keeps (same_upd (o := .lst [.ref t49, .ref t50, .ref t51, .ref t52]) ht53))
    refine ⟨4, rfl, by decide, by decide, for_range (n := 4) (fun _ σ' H' => ∃ o54 : Option V, Wd p [(t53, .lst [.ref t49, .ref t50, .ref t51, .ref t52]), (t52, .tup [.int v37, .int 1, .int ((v38 - v37) + 1)]), (t51, .tup [.int 0, .int 2, .int (v37 + 1)]), (t50, .tup [.int 1, .int 2, .int v37]), (t49, .tup [.int v37, .int 1, .int 1])] H' ∧ Keeps H H' p.p ∧ σ' = [some (.ref (p : Addr)), some (.int v37), some (.int v38), some (.int r9), some (.ref t53), o54]) ⟨_, W, S, rfl⟩ ?_ ?_⟩
    · skip
      rintro i σ' H55 hi ⟨o54, W, S, rfl⟩
      obtain rfl | rfl | rfl | rfl : i = 0 ∨ i = 1 ∨ i = 2 ∨ i = 3 := by omega
      · skip
        refine ⟨_, rfl, _, rfl, _, rfl, (0 + ((0 : Nat) : Int)), v37, v38, v37, 1, 1, rfl, (by omega), fun v56 H57 s58 hv56 => ?_⟩
        have W := W.same s58
        have S := S.trans (same_keeps s58)
        refine ⟨_, rfl, _, rfl, _, _, _, _, rfl, rfl, SqL.of (W.at (List.Mem.head _)), at_of (j := 0) (by omega) rfl, t49, v37, 1, 1, rfl, (W.at (List.Mem.tail _ (List.Mem.tail _ (List.Mem.tail _ (List.Mem.tail _ (List.Mem.head _)))))), fun t59 H60 s61 ht59 => ?_⟩
        have hv56 := hv56.same s61
        have W := W.same s61
        have S := S.trans (same_keeps s61)
        have W := W.got ht59 (by intro _ z; cases z)
        refine ⟨v56, t59, v37, 1, 1, rfl, hv56, (W.at (List.Mem.head _)), fun H62 s63 => ?_⟩
        have W := W.same s63
        have S := S.trans (same_keeps s63)
        refine ⟨_, rfl, iteF ?_⟩
        exact ⟨_, (W.drop), S, rfl⟩
      · skip
        refine ⟨_, rfl, _, rfl, _, rfl, (0 + ((1 : Nat) : Int)), v37, v38, 1, 2, v37, rfl, (by omega), fun v64 H65 s66 hv64 => ?_⟩
        have W := W.same s66
        have S := S.trans (same_keeps s66)
        refine ⟨_, rfl, _, rfl, _, _, _, _, rfl, rfl, SqL.of (W.at (List.Mem.head _)), at_of (j := 1) (by omega) rfl, t50, 1, 2, v37, rfl, (W.at (List.Mem.tail _ (List.Mem.tail _ (List.Mem.tail _ (List.Mem.head _))))), fun t67 H68 s69 ht67 => ?_⟩
        have hv64 := hv64.same s69
        have W := W.same s69
        have S := S.trans (same_keeps s69)
        have W := W.got ht67 (by intro _ z; cases z)
        refine ⟨v64, t67, 1, 2, v37, rfl, hv64, (W.at (List.Mem.head _)), fun H70 s71 => ?_⟩
        have W := W.same s71
        have S := S.trans (same_keeps s71)
        refine ⟨_, rfl, iteF ?_⟩
        exact ⟨_, (W.drop), S, rfl⟩
      · skip
        refine ⟨_, rfl, _, rfl, _, rfl, (0 + ((2 : Nat) : Int)), v37, v38, 0, 2, (v37 + 1), rfl, (by omega), fun v72 H73 s74 hv72 => ?_⟩
        have W := W.same s74
        have S := S.trans (same_keeps s74)
        refine ⟨_, rfl, _, rfl, _, _, _, _, rfl, rfl, SqL.of (W.at (List.Mem.head _)), at_of (j := 2) (by omega) rfl, t51, 0, 2, (v37 + 1), rfl, (W.at (List.Mem.tail _ (List.Mem.tail _ (List.Mem.head _)))), fun t75 H76 s77 ht75 => ?_⟩
        have hv72 := hv72.same s77
        have W := W.same s77
        have S := S.trans (same_keeps s77)
        have W := W.got ht75 (by intro _ z; cases z)
        refine ⟨v72, t75, 0, 2, (v37 + 1), rfl, hv72, (W.at (List.Mem.head _)), fun H78 s79 => ?_⟩
        have W := W.same s79
        have S := S.trans (same_keeps s79)
        refine ⟨_, rfl, iteF ?_⟩
        exact ⟨_, (W.drop), S, rfl⟩
      · skip
        refine ⟨_, rfl, _, rfl, _, rfl, (0 + ((3 : Nat) : Int)), v37, v38, v37, 1, (v38 - v37 + 1), rfl, (by omega), fun v80 H81 s82 hv80 => ?_⟩
        have W := W.same s82
        have S := S.trans (same_keeps s82)
        refine ⟨_, rfl, _, rfl, _, _, _, _, rfl, rfl, SqL.of (W.at (List.Mem.head _)), at_of (j := 3) (by omega) rfl, t52, v37, 1, ((v38 - v37) + 1), rfl, (W.at (List.Mem.tail _ (List.Mem.head _))), fun t83 H84 s85 ht83 => ?_⟩
        have hv80 := hv80.same s85
        have W := W.same s85
        have S := S.trans (same_keeps s85)
        have W := W.got ht83 (by intro _ z; cases z)
        refine ⟨v80, t83, v37, 1, ((v38 - v37) + 1), rfl, hv80, (W.at (List.Mem.head _)), fun H86 s87 => ?_⟩
        have W := W.same s87
        have S := S.trans (same_keeps s87)
        refine ⟨_, rfl, iteF ?_⟩
        exact ⟨_, (W.drop), S, rfl⟩
    rintro σ' H88 ⟨o54, W, S, rfl⟩
    exact k _ W.P S
def spCut (D : Addr) : Sp := fun vs H Q _ => ∃ (x : Addr) (f s c n : Int), vs = [.ref x, .int n] ∧ RunAt D H x f s c ∧ RunOk f s c ∧ n.natAbs < 2 ^ 240 ∧ (¬ (1 ≤ n ∧ n < c) → ∀ (t : Addr) (H' : Hp), Same H H' → H' t = some (.tup [.bl true, .bl true, .bl false]) → Q (.ref t) H') ∧
  (1 ≤ n → n < c → ∀ (t x1 x2 : Addr) (H' : Hp), Same H H' → H' t = some (.tup [.ref x1, .ref x2]) → RunAt D H' x1 f (if n > 1 then s else 1) n → RunAt D H' x2 (f + s * n) (if c - n > 1 then s else 1) (c - n) → Q (.ref t) H')
abbrev CalCut (P : Program) (w : World) (K : PySem.W.Frag) (mg : Str → Option Value) (base : Heap) (D : Addr) := Cal P w K mg base 6 "_law_cut" ["_law_run", "_law_n"] (spCut D)
theorem ok_cut {D NP LE BN : Addr} (B : Blt mg) (TD : RunC K mg D) (TN : ExC K mg "NoPlace" NP) (gLotError : mg "LotError" = some (.ref LE)) (gBadNumber : mg "BadNumber" = some (.ref BN)) (kL : PySem.W.kitOne K (.ref NP) (.ref LE) = some true) (kV : PySem.W.kitOne K (.ref NP) (.type "ValueError") = some true) (kB : PySem.W.kitOne K (.ref NP) (.ref BN) = some false)
    (PART : OwnX P w K mg base 5 D "parted" ["self", "n"] (spParted D NP)) (Df : Dfn K mg "_law_cut" "_law_cut" s_cut ["_law_run", "_law_n"]) : Cal P w K mg base 6 "_law_cut" ["_law_run", "_law_n"] (spCut D) := by
  refine Df.cal sc_cut (fun vs H Q E h => ?_) (fun fA cdv A outer st H vs Q E hr h => ?_)
  · obtain ⟨x, f, s, c, n, rfl, _⟩ := h
    rfl
  · obtain ⟨x, f, s, c, n, rfl, ⟨dx, hx⟩, ok, hn, k0, k1⟩ := h
    have W := (Al.nil (H := H)).got hx
    have S := Same.refl H
    refine ⟨_, (pss_cons (ps_set (i := 2) sc_cut.nd rfl (Or.inl rfl) (pe_non))
      (pss_cons (ps_try_as (i := 3) rfl rfl sc_cut.nd rfl rfl ⟨rfl, by decide, Or.inl TN.g⟩ takes0 (fun W pn xe tk _ => (pss_one (ps_set (i := 2) sc_cut.nd rfl (Or.inl rfl) (pe_methX PART TD.cl (fun σ => passAt tk σ) (hr.mono (by decide)) (pv 0) (pa_cons (pv 1) pa_nil))))) (fun a oe cls d pn hz hf => (pss_one (ps_set (i := 2) sc_cut.nd rfl (Or.inl rfl) (pe_tup (pa_cons (pe_callB (call_isX TN.e hz hf) (by rfl) B.isinstance (by decide +kernel) (pa_cons (pv 3) (pa_cons (pe_glob (v := .ref _) (by rfl) gLotError rfl) pa_nil))) (pa_cons (pe_callB (call_isX TN.e hz hf) (by rfl) B.isinstance (by decide +kernel) (pa_cons (pv 3) (pa_cons (pe_bltn (v := .ty "ValueError") (by rfl) B.ve (by decide +kernel) rfl) pa_nil))) (pa_cons (pe_callB (call_isX TN.e hz hf) (by rfl) B.isinstance (by decide +kernel) (pa_cons (pv 3) (pa_cons (pe_glob (v := .ref _) (by rfl) gBadNumber rfl) pa_nil))) pa_nil))))))))
      (pss_one (ps_ret (pv 2))))), ?_⟩
    refine ⟨_, rfl, x, dx, _, rfl, (W.at (List.Mem.head _)), gf_no _ _ _ (by decide +kernel) (by decide +kernel) (by decide +kernel), _, rfl, x, f, s, c, n, rfl, ⟨dx, (W.at (List.Mem.head _))⟩, ok, hn, fun h0 => ?_, fun h1 h2 t x1 x2 H' s' ht hx1 hx2 => ?_⟩
    · skip
      refine ⟨true, TN.exm, fun _ e1 he2 => ?_, fun q => Bool.noConfusion q⟩
      refine ⟨_, rfl, rfl, .inl rfl, _, _, true, rfl, .own _, kL, _, rfl, rfl, .inl rfl, _, _, true, rfl, .ty _, kV, _, rfl, rfl, .inl rfl, _, _, false, rfl, .own _, kB, (by show 3 ≤ sizeLine; decide), fun t3 ht3 => ?_⟩
      have W := W.new (o := .tup [.bl true, .bl true, .bl false]) ht3
      have S := S.trans (same_upd (o := .tup [.bl true, .bl true, .bl false]) ht3)
      exact ⟨_, rfl, k0 h0 _ _ S (W.at (List.Mem.head _))⟩
    · skip
      obtain ⟨d1, hx1⟩ := hx1
      obtain ⟨d2, hx2⟩ := hx2
      have W := W.same s'
      have S := S.trans s'
      have W := W.got hx1
      have W := W.got hx2
      have W := W.got ht
      exact ⟨_, rfl, k1 h1 h2 _ x1 x2 _ S (W.at (List.Mem.head _)) ⟨d1, (W.at (List.Mem.tail _ (List.Mem.tail _ (List.Mem.head _))))⟩ ⟨d2, (W.at (List.Mem.tail _ (List.Mem.head _)))⟩⟩
def spPartedL (D : Addr) : Sp := fun vs H Q _ => ∃ (p : Pla) (x t : Addr) (f s c : Int), vs = [.ref p, .ref x, .ref t] ∧ Pool H p ∧ RunAt D H x f s c ∧ Row H t f s c ∧ RowOk f s c ∧ ∀ H', Pool H' p → Keeps H H' p → Q (.bl true) H'
theorem ok_partedL {D : Addr} (B : Blt mg) (hTup : mg "tuple" = none) (C_wide : CalWide P w K mg base) (C_any : CalAny P w K mg base) (C_cut : CalCut P w K mg base D) (C_plain : CalPlain P w K mg base) (C_held : CalHeld P w K mg base D) (Df : Dfn K mg "_law_parted" "_law_parted" s_parted ["_law_pool_here", "_law_run", "_law_row"]) : Cal P w K mg base 7 "_law_parted" ["_law_pool_here", "_law_run", "_law_row"] (spPartedL D) := by
  refine Df.cal sc_parted (fun vs H Q E h => ?_) (fun fA cdv A outer st H vs Q E hr h => ?_)
  · obtain ⟨p, x, t, f, s, c, rfl, _⟩ := h
    rfl
  · obtain ⟨p, x, t, f, s, c, rfl, hP, ⟨dx, hx⟩, ht, ok, k⟩ := h
    have W := ((Wd.nil hP).got (show H t = _ from ht) (by intro _ z; cases z)).got hx (by intro _ z; cases z)
    have S := Keeps.refl H p.p
    have o0 := ok.ok.f0
    have o1 := ok.ok.s1
    have o4 := ok.ok.s4
    have oc := ok.ok.c1
    have cb := ok.cb
    have bs0 : s.natAbs < 2 ^ 3 := by omega
    refine ⟨_, (pss_cons (ps_asg (pv 2) (pg_tup rfl (pgs_cons (pg_name (i := 3) sc_parted.nd rfl (Or.inl rfl)) (pgs_cons (pg_name (i := 4) sc_parted.nd rfl (Or.inl rfl)) (pgs_cons (pg_name (i := 5) sc_parted.nd rfl (Or.inl rfl)) pgs_nil)))))
      (Evl.pss_cut (ps_if (pt_cmpR op_gt (pv 5) (pe_int) (nomark _)) (pss_cons (ps_set (i := 6) sc_parted.nd rfl (Or.inl rfl) (pe_op op_add (pe_int) (pe_op op_modN (pe_callTy call_int1 (by rfl) B.int (by decide +kernel) (pa_cons (pe_cal C_any (hr.mono (by decide)) (pa_cons (pv 0) pa_nil)) pa_nil)) (pe_op op_sub (pv 5) (pe_int)))))
      (pss_cons (ps_set (i := 7) sc_parted.nd rfl (Or.inl rfl) (pe_cal C_cut (hr.mono (by decide)) (pa_cons (pv 1) (pa_cons (pv 6) pa_nil))))
      (pss_cons (ps_if (PW.pt (pw_or (pt_not (pt_val (pe_callB call_isi (by rfl) B.isinstance (by decide +kernel) (pa_cons (pv 7) (pa_cons (pe_bltn (v := .ty "tuple") (by rfl) hTup (by decide +kernel) rfl) pa_nil))))) (pw_or1 (pt_cmpR op_ne (pe_callB call_len_seq (by rfl) B.len PySem.boot_len (pa_cons (pv 7) pa_nil)) (pe_int) (nomark _))))) (pss_one (ps_ret (pe_bl))) pss_nil)
      (pss_cons (ps_if (pt_not (pt_val (pe_cal C_held (hr.mono (by decide)) (pa_cons (pe_ix ix_tup (pv 7) (pe_int) (fun _ _ => rfl)) (pa_cons (pe_cal C_plain (hr.mono (by decide)) (pa_cons (pe_tup (pa_cons (pv 3) (pa_cons (pv 4) (pa_cons (pv 6) pa_nil)))) pa_nil)) pa_nil))))) (pss_one (ps_ret (pe_bl))) pss_nil)
      (pss_one (ps_if (pt_not (pt_val (pe_cal C_held (hr.mono (by decide)) (pa_cons (pe_ix ix_tup (pv 7) (pe_int) (fun _ _ => rfl)) (pa_cons (pe_cal C_plain (hr.mono (by decide)) (pa_cons (pe_tup (pa_cons (pe_op op_add (pv 3) (pe_op op_mulW (pv 4) (pv 6))) (pa_cons (pv 4) (pa_cons (pe_op op_sub (pv 5) (pv 6)) pa_nil)))) pa_nil)) pa_nil))))) (pss_one (ps_ret (pe_bl))) pss_nil)))))) pss_nil)
      (pss_cons (ps_if (PW.pt (pw_and (pt_cmpR op_lt (pv 5) (pe_op op_pow (pe_int) (pe_int)) (nomark _)) (pw_and1 (pt_cmpR op_lt (pv 3) (pe_op op_pow (pe_int) (pe_int)) (nomark _))))) (pss_one (ps_for PassesOwn.never rfl (pi_list (pe_lst (pa_cons (pe_int) (pa_cons (pv 5) (pa_cons (pe_op op_add (pv 5) (pe_cal C_wide (hr.mono (by decide)) (pa_cons (pv 0) pa_nil))) (pa_cons (pe_op op_sub (pe_un un_neg (pe_int)) (pe_cal C_wide (hr.mono (by decide)) (pa_cons (pv 0) pa_nil))) pa_nil)))))) (pg_name (i := 6) sc_parted.nd rfl (Or.inl rfl)) (pss_one (ps_if (pt_cmpR (op_neD hr.units) (pe_cal C_cut (hr.mono (by decide)) (pa_cons (pv 1) (pa_cons (pv 6) pa_nil))) (pe_tup (pa_cons (pe_bl) (pa_cons (pe_bl) (pa_cons (pe_bl) pa_nil)))) (nomark _)) (pss_one (ps_ret (pe_bl))) pss_nil)))) pss_nil)
      (pss_one (ps_ret (pe_bl)))))), ?_⟩
    refine ⟨_, rfl, _, _, rfl, SqT.of (W.at (List.Mem.tail _ (List.Mem.head _))), rfl, _, _, rfl, _, _, rfl, _, _, rfl, rfl, ?_⟩
    refine ⟨fun σ' H' => ∃ o1 : Option V, ∃ o2 : Option V, σ' = [some (.ref (p : Addr)), some (.ref x), some (.ref t), some (.int f), some (.int s), some (.int c), o1, o2] ∧ Wd p [(x, .ins D dx (gf f s c)), (t, .tup [.int f, .int s, .int c])] H' ∧ Keeps H H' p.p, ?_, ?_⟩
    · skip
      refine ⟨_, rfl, _, _, rfl, rfl, _, rfl, ifD (fun h3 => ?_) (fun h3 => ?_)⟩
      · skip
        refine ⟨_, rfl, p, rfl, W.P, fun r4 H5 h0r4 h1r4 hP6 k7 => ?_⟩
        have W := W.keep hP6 k7
        have S := S.trans k7
        refine .inl ⟨_, rfl, ?_⟩
        refine ⟨_, rfl, _, _, rfl, rfl, _, _, rfl, rfl, (show c - 1 ≠ 0 by omega), ?_⟩
        have hm := fm r4 (show (0 : Int) < c - 1 by omega)
        have hbm : (r4.fmod (c - 1)).natAbs < 2 ^ 205 := by omega
        refine ⟨_, _, rfl, rfl, _, rfl, _, rfl, x, f, s, c, (1 + (r4.fmod (c - 1))), rfl, ⟨dx, (W.at (List.Mem.head _))⟩, ok.ok, (show ((1 + (r4.fmod (c - 1))) : Int).natAbs < 2 ^ 240 by omega), fun h => absurd h (by omega), fun _ _ t8 x11 x12 H9 s10 ht8 hx11 hx12 => ?_⟩
        obtain ⟨dx11, hx11⟩ := hx11
        obtain ⟨dx12, hx12⟩ := hx12
        have W := W.same s10
        have S := S.trans (same_keeps s10)
        have W := W.got hx11 (by intro _ z; cases z)
        have W := W.got hx12 (by intro _ z; cases z)
        have W := W.got ht8 (by intro _ z; cases z)
        refine ⟨_, rfl, _, _, _, _, true, rfl, .ty _, .base (.tup (W.at (List.Mem.head _))), kit_ty (by decide +kernel), _, rfl, iteF ?_⟩
        refine ⟨_, rfl, _, _, rfl, .inr (SqT.of (W.at (List.Mem.head _))), rfl, _, rfl, jeT (show (2 : Int) = 2 by decide) ?_⟩
        refine ⟨_, rfl, _, _, _, _, rfl, rfl, SqT.of (W.at (List.Mem.head _)), rfl, _, rfl, _, rfl, _, rfl, (by show 3 ≤ sizeLine; decide), fun t13 ht13 => ?_⟩
        have W := W.new (o := .tup [.int f, .int s, .int (1 + (r4.fmod (c - 1)))]) ht13
        have S := S.trans (same_keeps (same_upd (o := .tup [.int f, .int s, .int (1 + (r4.fmod (c - 1)))]) ht13))
        refine ⟨t13, f, s, (1 + (r4.fmod (c - 1))), rfl, (W.at (List.Mem.head _)), (by omega), fun t14 H15 s16 ht14 => ?_⟩
        have W := W.same s16
        have S := S.trans (same_keeps s16)
        have W := W.got ht14 (by intro _ z; cases z)
        refine ⟨x11, t14, f, (if (1 + (r4.fmod (c - 1))) > 1 then s else 1), (1 + (r4.fmod (c - 1))), rfl, ⟨dx11, (W.at (List.Mem.tail _ (List.Mem.tail _ (List.Mem.tail _ (List.Mem.tail _ (List.Mem.head _))))))⟩, (W.at (List.Mem.head _)), fun H17 s18 => ?_⟩
        have W := W.same s18
        have S := S.trans (same_keeps s18)
        refine ⟨_, rfl, iteF ?_⟩
        refine ⟨_, rfl, _, _, _, _, rfl, rfl, SqT.of (W.at (List.Mem.tail _ (List.Mem.tail _ (List.Mem.head _)))), rfl, _, rfl, _, rfl, _, rfl, _, _, rfl, rfl, wide_mul bs0 (ba (ub (show (1 : Int).natAbs < 2 ^ 2 by decide +kernel) (show 2 ≤ 205 by decide)) hbm) (by decide) (by decide) (by decide), _, _, rfl, rfl, _, rfl, _, rfl, _, rfl, _, _, rfl, rfl, (by show 3 ≤ sizeLine; decide), fun t19 ht19 => ?_⟩
        have W := W.new (o := .tup [.int (f + (s * (1 + (r4.fmod (c - 1))))), .int s, .int (c - (1 + (r4.fmod (c - 1))))]) ht19
        have S := S.trans (same_keeps (same_upd (o := .tup [.int (f + (s * (1 + (r4.fmod (c - 1))))), .int s, .int (c - (1 + (r4.fmod (c - 1))))]) ht19))
        refine ⟨t19, (f + (s * (1 + (r4.fmod (c - 1))))), s, (c - (1 + (r4.fmod (c - 1)))), rfl, (W.at (List.Mem.head _)), (by omega), fun t20 H21 s22 ht20 => ?_⟩
        have W := W.same s22
        have S := S.trans (same_keeps s22)
        have W := W.got ht20 (by intro _ z; cases z)
        refine ⟨x12, t20, (f + s * (1 + (r4.fmod (c - 1)))), (if c - (1 + (r4.fmod (c - 1))) > 1 then s else 1), (c - (1 + (r4.fmod (c - 1)))), rfl, ⟨dx12, (W.at (List.Mem.tail _ (List.Mem.tail _ (List.Mem.tail _ (List.Mem.tail _ (List.Mem.tail _ (List.Mem.head _)))))))⟩, (W.at (List.Mem.head _)), fun H23 s24 => ?_⟩
        have W := W.same s24
        have S := S.trans (same_keeps s24)
        refine ⟨_, rfl, iteF ?_⟩
        exact ⟨_, _, rfl, (W.drop.drop.drop.drop.drop.drop.drop), S⟩
      · skip
        exact ⟨_, _, rfl, W, S⟩
    rintro σ' H25 ⟨o1, o2, rfl, W, S⟩
    refine ⟨_, rfl, _, _, rfl, rfl, ⟨by decide, by decide, by decide⟩, _, _, rfl, rfl, _, rfl, ifD (fun h26 => ?_) (fun h26 => ?_)⟩
    · skip
      refine ⟨_, rfl, _, _, rfl, rfl, ⟨by decide, by decide, by decide⟩, _, _, rfl, rfl, _, rfl, ifD (fun h27 => ?_) (fun h27 => ?_)⟩
      · skip
        refine ⟨_, rfl, _, rfl, _, rfl, p, rfl, W.P, fun r28 H29 h0r28 h1r28 hP30 k31 => ?_⟩
        have W := W.keep hP30 k31
        have S := S.trans k31
        refine ⟨_, _, rfl, rfl, _, rfl, _, rfl, p, rfl, W.P, fun r32 H33 h0r32 h1r32 hP34 k35 => ?_⟩
        have W := W.keep hP34 k35
        have S := S.trans k35
        refine ⟨_, _, rfl, rfl, (by show 4 ≤ sizeLine; decide), fun t36 ht36 => ?_⟩
        have W := W.new (o := .lst [.int 0, .int c, .int (c + r28), .int ((-1) - r32)]) ht36
        have S := S.trans (same_keeps (same_upd (o := .lst [.int 0, .int c, .int (c + r28), .int ((-1) - r32)]) ht36))
        refine ⟨t36, rfl, ⟨_, SqL.of (W.at (List.Mem.head _))⟩, for_list (K := K) (a := t36) (xs := [V.int 0, V.int c, V.int (c + r28), V.int ((-1) - r32)]) (fun _ σ' H' => ∃ o37 : Option V, Wd p [(t36, .lst [.int 0, .int c, .int (c + r28), .int ((-1) - r32)]), (x, .ins D dx (gf f s c)), (t, .tup [.int f, .int s, .int c])] H' ∧ Keeps H H' p.p ∧ σ' = [some (.ref (p : Addr)), some (.ref x), some (.ref t), some (.int f), some (.int s), some (.int c), o37, o2]) ⟨_, W, S, rfl⟩ (fun _ _ _ _ ⟨_, W, _⟩ => SqL.of (W.at (List.Mem.head _))) ?_ ?_⟩
        · skip
          rintro i yy σ' H38 hi ⟨o37, W, S, rfl⟩
          match i, hi with
          | 0, hi =>
            cases hi
            refine ⟨_, rfl, _, rfl, x, f, s, c, 0, rfl, ⟨dx, (W.at (List.Mem.tail _ (List.Mem.head _)))⟩, ok.ok, (show (0 : Int).natAbs < 2 ^ 240 by omega), fun _ t39 H40 s41 ht39 => ?_, fun g1 g2 => absurd g1 (by omega)⟩
            have W := W.same s41
            have S := S.trans (same_keeps s41)
            have W := W.got ht39 (by intro _ z; cases z)
            refine ⟨(by show 3 ≤ sizeLine; decide), fun t42 ht42 => ?_⟩
            have W := W.new (o := .tup [.bl true, .bl true, .bl false]) ht42
            have S := S.trans (same_keeps (same_upd (o := .tup [.bl true, .bl true, .bl false]) ht42))
            refine ⟨(.tuple [.bool true, .bool true, .bool false]), (.tuple [.bool true, .bool true, .bool false]), (.tup (SqT.of (W.at (List.Mem.tail _ (List.Mem.head _)))) (.cons (.bl _) (.cons (.bl _) (.cons (.bl _) .nil)))), (.tup (SqT.of (W.at (List.Mem.head _))) (.cons (.bl _) (.cons (.bl _) (.cons (.bl _) .nil)))), rfl, rfl, ?_⟩
            rw [SeqAt.eqv_refl _ rfl]
            refine ⟨_, rfl, iteF ?_⟩
            exact ⟨_, (W.drop.drop), S, rfl⟩
          | 1, hi =>
            cases hi
            refine ⟨_, rfl, _, rfl, x, f, s, c, c, rfl, ⟨dx, (W.at (List.Mem.tail _ (List.Mem.head _)))⟩, ok.ok, (show (c : Int).natAbs < 2 ^ 240 by omega), fun _ t43 H44 s45 ht43 => ?_, fun g1 g2 => absurd g1 (by omega)⟩
            have W := W.same s45
            have S := S.trans (same_keeps s45)
            have W := W.got ht43 (by intro _ z; cases z)
            refine ⟨(by show 3 ≤ sizeLine; decide), fun t46 ht46 => ?_⟩
            have W := W.new (o := .tup [.bl true, .bl true, .bl false]) ht46
            have S := S.trans (same_keeps (same_upd (o := .tup [.bl true, .bl true, .bl false]) ht46))
            refine ⟨(.tuple [.bool true, .bool true, .bool false]), (.tuple [.bool true, .bool true, .bool false]), (.tup (SqT.of (W.at (List.Mem.tail _ (List.Mem.head _)))) (.cons (.bl _) (.cons (.bl _) (.cons (.bl _) .nil)))), (.tup (SqT.of (W.at (List.Mem.head _))) (.cons (.bl _) (.cons (.bl _) (.cons (.bl _) .nil)))), rfl, rfl, ?_⟩
            rw [SeqAt.eqv_refl _ rfl]
            refine ⟨_, rfl, iteF ?_⟩
            exact ⟨_, (W.drop.drop), S, rfl⟩
          | 2, hi =>
            cases hi
            refine ⟨_, rfl, _, rfl, x, f, s, c, (c + r28), rfl, ⟨dx, (W.at (List.Mem.tail _ (List.Mem.head _)))⟩, ok.ok, (show ((c + r28) : Int).natAbs < 2 ^ 240 by omega), fun _ t47 H48 s49 ht47 => ?_, fun g1 g2 => absurd g1 (by omega)⟩
            have W := W.same s49
            have S := S.trans (same_keeps s49)
            have W := W.got ht47 (by intro _ z; cases z)
            refine ⟨(by show 3 ≤ sizeLine; decide), fun t50 ht50 => ?_⟩
            have W := W.new (o := .tup [.bl true, .bl true, .bl false]) ht50
            have S := S.trans (same_keeps (same_upd (o := .tup [.bl true, .bl true, .bl false]) ht50))
            refine ⟨(.tuple [.bool true, .bool true, .bool false]), (.tuple [.bool true, .bool true, .bool false]), (.tup (SqT.of (W.at (List.Mem.tail _ (List.Mem.head _)))) (.cons (.bl _) (.cons (.bl _) (.cons (.bl _) .nil)))), (.tup (SqT.of (W.at (List.Mem.head _))) (.cons (.bl _) (.cons (.bl _) (.cons (.bl _) .nil)))), rfl, rfl, ?_⟩
            rw [SeqAt.eqv_refl _ rfl]
            refine ⟨_, rfl, iteF ?_⟩
            exact ⟨_, (W.drop.drop), S, rfl⟩
          | 3, hi =>
            cases hi
            refine ⟨_, rfl, _, rfl, x, f, s, c, ((-1) - r32), rfl, ⟨dx, (W.at (List.Mem.tail _ (List.Mem.head _)))⟩, ok.ok, (show (((-1) - r32) : Int).natAbs < 2 ^ 240 by omega), fun _ t51 H52 s53 ht51 => ?_, fun g1 g2 => absurd g1 (by omega)⟩
            have W := W.same s53
            have S := S.trans (same_keeps s53)
            have W := W.got ht51 (by intro _ z; cases z)
            refine ⟨(by show 3 ≤ sizeLine; decide), fun t54 ht54 => ?_⟩
            have W := W.new (o := .tup [.bl true, .bl true, .bl false]) ht54
            have S := S.trans (same_keeps (same_upd (o := .tup [.bl true, .bl true, .bl false]) ht54))
            refine ⟨(.tuple [.bool true, .bool true, .bool false]), (.tuple [.bool true, .bool true, .bool false]), (.tup (SqT.of (W.at (List.Mem.tail _ (List.Mem.head _)))) (.cons (.bl _) (.cons (.bl _) (.cons (.bl _) .nil)))), (.tup (SqT.of (W.at (List.Mem.head _))) (.cons (.bl _) (.cons (.bl _) (.cons (.bl _) .nil)))), rfl, rfl, ?_⟩
            rw [SeqAt.eqv_refl _ rfl]
            refine ⟨_, rfl, iteF ?_⟩
            exact ⟨_, (W.drop.drop), S, rfl⟩
          | i + 4, hi => simp at hi
        rintro σ' H55 ⟨o37, W, S, rfl⟩
        exact k _ W.P S
      · skip
        exact k _ W.P S
    · skip
      refine iteF ?_
      exact k _ W.P S
end
end L

set_option Elab.async false
set_option linter.all false
set_option maxRecDepth 100000
set_option maxHeartbeats 4000000
set_option pp.maxSteps 160
set_option pp.deepTerms false
namespace L
open PySem PySem.Spec PyProof.Rows L2 Fl
local macro_rules | `(tactic| walk_at "side") => `(tactic| first | (exact .inl ⟨by omega, by omega⟩) | (exact .inr ⟨by omega, by omega⟩) | (exact .inr ⟨by decide, by decide⟩) | (show (_ : Int) ≠ _; omega) | (exact ⟨by omega, by decide⟩) | (exact ⟨by decide, by decide, by decide⟩))
local macro_rules | `(tactic| walk_at "go") => `(tactic| repeat (first | refine ⟨_, rfl, ?_⟩ | refine ⟨_, _, rfl, rfl, ?_⟩ | refine .inl ⟨_, rfl, ?_⟩ | refine ⟨rfl, ?_⟩ | refine ⟨(by walk_at "side"), ?_⟩))
local macro_rules | `(tactic| walk_at "see") => `(tactic| (set_option pp.maxSteps 110 in set_option pp.deepTerms false in trace_state))
local macro_rules | `(tactic| walk_at "if") => `(tactic| first | refine ifE ?_ ?_ | refine ifNE ?_ ?_ | refine ifD ?_ ?_ | refine ifN ?_ ?_ | refine ifB ?_ ?_)
open Bx
section
variable {P : Program} {w : World} {K : PySem.W.Frag} {mg : Str → Option Value} {base : Heap}

theorem sum_ar (f s : Int) : ∀ n : Nat, ((List.range n).map fun (j : Nat) => f + s * (0 + (j : Int))).sum * 2 = (n : Int) * (2 * f + s * ((n : Int) - 1))
  | 0 => by simp
  | n + 1 => by
    rw [List.range_succ, List.map_append, List.sum_append]
    have ih := sum_ar f s n
    simp only [List.map_cons, List.map_nil, List.sum_cons, List.sum_nil]
    generalize ((List.range n).map fun (j : Nat) => f + s * (0 + (j : Int))).sum = z at *
    rw [show ((n + 1 : Nat) : Int) = (n : Int) + 1 from rfl]
    grind
theorem mean_eq {f s c n m : Int} (h : n * 2 = m * (2 * f + s * (c - 1))) : nT (f + (f + s * (c - 1))) 2 * m = n * nU (f + (f + s * (c - 1))) 2 := by
  have e := n_cross (f + (f + s * (c - 1))) 2
  generalize nT (f + (f + s * (c - 1))) 2 = a at *
  generalize nU (f + (f + s * (c - 1))) 2 = b at *
  have e2 : (a * m) * 2 = (n * b) * 2 := by grind
  omega
theorem mean_bd {f s c : Int} (hf : f.natAbs < 2 ^ 205) (hs : s.natAbs < 2 ^ 3) (hc : c.natAbs < 2 ^ 205) : (nT (f + (f + s * (c - 1))) 2).natAbs < 2 ^ 4000 ∧ (nU (f + (f + s * (c - 1))) 2).natAbs < 2 ^ 4000 := by
  have h1 : (c - 1).natAbs < 2 ^ 206 := bs hc (show (1 : Int).natAbs < 2 ^ 205 by decide +kernel)
  have h2 : (s * (c - 1)).natAbs < 2 ^ (3 + 206) := wide_lt hs h1
  have h3 : (f + s * (c - 1)).natAbs < 2 ^ (209 + 1) := ba (ub hf (by decide)) h2
  have h4 : (f + (f + s * (c - 1))).natAbs < 2 ^ (210 + 1) := ba (ub hf (by decide)) h3
  exact ⟨Nat.lt_of_le_of_lt (nT_le (by decide)) (ub h4 (by decide)), Nat.lt_of_le_of_lt (nU_le (by decide)) (by decide +kernel)⟩
abbrev CalNamed (P : Program) (w : World) (K : PySem.W.Frag) (mg : Str → Option Value) (base : Heap) := Cal P w K mg base 7 "_law_named" ["_law_pool_here"] spNamed
abbrev CalPartedL (P : Program) (w : World) (K : PySem.W.Frag) (mg : Str → Option Value) (base : Heap) (D : Addr) := Cal P w K mg base 7 "_law_parted" ["_law_pool_here", "_law_run", "_law_row"] (spPartedL D)
def spLaw (K : PySem.W.Frag) : Sp := fun vs H Q _ => ∃ (a : Addr) (ns : List Int), vs = [.ref a] ∧ SqL K H a (ns.map V.int) ∧ ns.length ≤ 63 ∧ ∀ H', Q (.bl true) H'
theorem ok_law {C D BN fA : Addr} {fd : FuncData} (B : Blt mg) (TD : RunC K mg D) (F : Fun K "law" "law" s_law fA fd) (MR : CalRun P w K mg base D BN) (CL : CalP P w K mg base 1 D "last" (spLast D)) (CMean : CalP P w K mg base 3 D "mean" (spMean C D)) (C_pool : CalPool P w K mg base) (C_named : CalNamed P w K mg base) (C_great_run : CalGR P w K mg base)
    (C_held : CalHeld P w K mg base D) (C_whole : CalWhole P w K mg base) (C_same : CalSame P w K mg base C) (C_signed : CalSigned P w K mg base) (C_moved : CalMoved P w K mg base D) (C_due : CalDue P w K mg base) (C_meets : CalMeets P w K mg base D) (C_alike : CalAlike P w K mg base D) (C_parted : CalPartedL P w K mg base D) : FnOk P w K mg base CX0 8 fA fd ["_law_script"] (spLaw K) := by
  refine F.ok sc_law (fun vs H Q E h => ?_) (fun cdv A outer st H vs Q E hr h => ?_)
  · obtain ⟨a, ns, rfl, _⟩ := h
    rfl
  · obtain ⟨a, ns, rfl, hS, hl, k⟩ := h
    refine ⟨_, (pss_cons (ps_set (i := 1) sc_law.nd rfl (Or.inl rfl) (pe_cal C_pool (hr.mono (by decide)) (pa_cons (pv 0) pa_nil)))
      (pss_cons (ps_if (pt_not (pt_val (pe_cal C_named (hr.mono (by decide)) (pa_cons (pv 1) pa_nil)))) (pss_one (ps_ret (pe_bl))) pss_nil)
      (pss_cons (ps_set (i := 2) sc_law.nd rfl (Or.inl rfl) (pe_cal C_great_run (hr.mono (by decide)) (pa_cons (pv 1) pa_nil)))
      (pss_cons (ps_asg (pv 2) (pg_tup rfl (pgs_cons (pg_name (i := 3) sc_law.nd rfl (Or.inr rfl)) (pgs_cons (pg_name (i := 4) sc_law.nd rfl (Or.inr rfl)) (pgs_cons (pg_name (i := 5) sc_law.nd rfl (Or.inl rfl)) pgs_nil)))))
      (pss_cons (ps_set (i := 6) sc_law.nd rfl (Or.inl rfl) (pe_mk MR (hr.mono (by decide)) (pa_cons (pv 3) (pa_cons (pv 4) (pa_cons (pv 5) pa_nil)))))
      (pss_cons (ps_if (PW.pt (pw_or (pt_not (pt_val (pe_cal C_held (hr.mono (by decide)) (pa_cons (pv 6) (pa_cons (pv 2) pa_nil))))) (pw_or (pt_not (pt_val (pe_cal C_whole (hr.mono (by decide)) (pa_cons (pe_calP TD.cl CL (hr.mono (by decide)) (pv 6)) pa_nil)))) (pw_or1 (pt_cmpR op_ne (pe_calP TD.cl CL (hr.mono (by decide)) (pv 6)) (pe_op op_add (pv 3) (pe_op op_mulW (pv 4) (pe_op op_sub (pv 5) (pe_int)))) (nomark _)))))) (pss_one (ps_ret (pe_bl))) pss_nil)
      (pss_cons (ps_set (i := 7) sc_law.nd rfl (Or.inl rfl) (pe_tup (pa_cons (pe_op op_add (pe_op op_mulW (pe_int) (pv 3)) (pe_op op_mulW (pv 4) (pe_op op_sub (pv 5) (pe_int)))) (pa_cons (pe_int) pa_nil))))
      (Evl.pss_cut (ps_if (pt_cmpR op_lt (pv 5) (pe_int) (nomark _)) (pss_one (ps_set (i := 7) sc_law.nd rfl (Or.inl rfl) (pe_tup (pa_cons (pe_callB (cr_sum rfl) (by rfl) B.sum (by decide +kernel) (pa_cons (pe_lc (own := [("_law_index", 8)]) (g := gName 8) rfl sc_law.nd (pi_range1 (by rfl) B.range (pa_cons (pv 5) pa_nil)) (blkOk_by (N := ["_law_script", "_law_pool_here", "_law_row", "_law_first", "_law_step", "_law_count", "_law_run", "_law_due_here", "_law_index", "_law_move"]) (sc := defScope s_law) (by decide +kernel)) (fun _ _ _ _ _ => pg_name (i := 8) sc_law.nd rfl (Or.inl rfl)) (fun _ _ _ _ _ => pts_nil) (fun _ _ _ _ _ => (pe_op op_add (pv 3) (pe_op op_mulW (pv 4) (pv 8))))) pa_nil)) (pa_cons (pv 5) pa_nil))))) pss_nil)
      (pss_cons (ps_if (pt_not (pt_val (pe_cal C_same (hr.mono (by decide)) (pa_cons (pe_calP TD.cl CMean (hr.mono (by decide)) (pv 6)) (pa_cons (pv 7) pa_nil))))) (pss_one (ps_ret (pe_bl))) pss_nil)
      (pss_cons (ps_set (i := 9) sc_law.nd rfl (Or.inl rfl) (pe_cal C_signed (hr.mono (by decide)) (pa_cons (pv 1) pa_nil)))
      (pss_cons (ps_if (pt_not (pt_val (pe_cal C_meets (hr.mono (by decide)) (pa_cons (pe_cal C_moved (hr.mono (by decide)) (pa_cons (pv 6) (pa_cons (pv 9) pa_nil))) (pa_cons (pe_cal C_due (hr.mono (by decide)) (pa_cons (pe_tup (pa_cons (pe_op op_add (pv 3) (pv 9)) (pa_cons (pv 4) (pa_cons (pv 5) pa_nil)))) pa_nil)) pa_nil))))) (pss_one (ps_ret (pe_bl))) pss_nil)
      (pss_cons (ps_if (PW.pt (pw_or (pt_not (pt_val (pe_cal C_alike (hr.mono (by decide)) (pa_cons (pv 6) (pa_cons (pv 2) pa_nil))))) (pw_or1 (pt_not (pt_val (pe_cal C_parted (hr.mono (by decide)) (pa_cons (pv 1) (pa_cons (pv 6) (pa_cons (pv 2) pa_nil))))))))) (pss_one (ps_ret (pe_bl))) pss_nil)
      (pss_one (ps_ret (pe_cal C_held (hr.mono (by decide)) (pa_cons (pv 6) (pa_cons (pv 2) pa_nil))))))))))))))))), ?_⟩
    refine ⟨_, rfl, a, ns, rfl, hS, hl, fun p HP s1 np nq hP1 => ?_⟩
    have W := Wd.nil hP1
    have S := Keeps.refl HP p.p
    refine ⟨_, rfl, p, rfl, W.P, fun H1 hP2 k3 => ?_⟩
    have W := W.keep hP2 k3
    have S := S.trans k3
    refine ⟨_, rfl, iteF ?_⟩
    refine ⟨_, rfl, p, rfl, W.P, fun t4 f8 d9 c10 H5 hP6 k7 nt4 Rt4 Ot4 => ?_⟩
    have W := W.keep hP6 k7
    have S := S.trans k7
    have W := W.got (show H5 t4 = _ from Rt4) (by intro _ z; cases z)
    have o0t4 := Ot4.ok.f0
    have o1t4 := Ot4.ok.s1
    have o4t4 := Ot4.ok.s4
    have oct4 := Ot4.ok.c1
    have oft4 := Ot4.fb
    have obt4 := Ot4.cb
    have oot4 := Ot4.one
    have bf8 : f8.natAbs < 2 ^ 205 := by omega
    have bd9 : d9.natAbs < 2 ^ 3 := by omega
    have bc10 : c10.natAbs < 2 ^ 205 := by omega
    refine ⟨_, rfl, _, _, rfl, SqT.of (W.at (List.Mem.head _)), rfl, _, _, rfl, _, _, rfl, _, _, rfl, rfl, _, rfl, _, rfl, _, rfl, mkr2 o0t4 o1t4 o4t4 oct4 fun x H11 s12 hx => ?_⟩
    obtain ⟨dx, hx⟩ := hx
    rw [show (if c10 > 1 then d9 else 1) = d9 by (split; rfl; exact (oot4 (by omega)).symm)] at hx
    have W := W.same s12
    have S := S.trans (same_keeps s12)
    have W := W.got hx (by intro _ z; cases z)
    refine ⟨_, rfl, _, rfl, x, t4, f8, d9, c10, rfl, ⟨dx, (W.at (List.Mem.head _))⟩, (W.at (List.Mem.tail _ (List.Mem.head _))), fun H13 s14 => ?_⟩
    have W := W.same s14
    have S := S.trans (same_keeps s14)
    refine ⟨_, rfl, iteF ?_⟩
    refine ⟨_, rfl, x, dx, _, rfl, (W.at (List.Mem.head _)), x, f8, d9, c10, rfl, ⟨dx, (W.at (List.Mem.head _))⟩, Ot4.ok, (f8 + d9 * (c10 - 1)), rfl, _, rfl, iteF ?_⟩
    refine ⟨_, rfl, x, dx, _, rfl, (W.at (List.Mem.head _)), x, f8, d9, c10, rfl, ⟨dx, (W.at (List.Mem.head _))⟩, Ot4.ok, _, rfl, _, rfl, _, rfl, _, _, rfl, rfl, _, _, rfl, rfl, wide_mul bd9 (bs bc10 (ub (show (1 : Int).natAbs < 2 ^ 2 by decide +kernel) (show 2 ≤ 205 by decide))) (by decide) (by decide) (by decide), _, _, rfl, rfl, rfl, _, rfl, jeT (by omega : ((f8 + d9 * (c10 - 1)) : Int) = (f8 + (d9 * (c10 - 1)))) ?_⟩
    refine ⟨_, rfl, _, _, rfl, rfl, wide_mul (show (2 : Int).natAbs < 2 ^ 3 by decide +kernel) bf8 (by decide) (by decide) (by decide), _, rfl, _, rfl, _, _, rfl, rfl, _, _, rfl, rfl, wide_mul bd9 (bs bc10 (ub (show (1 : Int).natAbs < 2 ^ 2 by decide +kernel) (show 2 ≤ 205 by decide))) (by decide) (by decide) (by decide), _, _, rfl, rfl, (by show 2 ≤ sizeLine; decide), fun t15 ht15 => ?_⟩
    have W := W.new (o := .tup [.int ((2 * f8) + (d9 * (c10 - 1))), .int 2]) ht15
    have S := S.trans (same_keeps (same_upd (o := .tup [.int ((2 * f8) + (d9 * (c10 - 1))), .int 2]) ht15))
    refine ⟨fun σ' H' => ∃ (dt : Addr) (n m : Int) (oi : Option V), σ' = [some (.ref a), some (.ref (p : Addr)), some (.ref t4), some (.int f8), some (.int d9), some (.int c10), some (.ref x), some (.ref dt), oi, none] ∧ H' dt = some (.tup [.int n, .int m]) ∧ n * 2 = m * (2 * f8 + d9 * (c10 - 1)) ∧ n.natAbs < 2 ^ 4000 ∧ m.natAbs < 2 ^ 4000 ∧ Wd p [(t15, .tup [.int ((2 * f8) + (d9 * (c10 - 1))), .int 2]), (x, .ins D dx (gf f8 d9 c10)), (t4, .tup [.int f8, .int d9, .int c10])] H' ∧ Keeps HP H' p.p, ?_, ?_⟩
    · skip
      refine ⟨_, rfl, _, _, rfl, rfl, _, rfl, ifD (fun h16 => ?_) (fun h16 => ?_)⟩
      · skip
        have oc' : c10 = ((c10.toNat : Nat) : Int) := by omega
        refine ⟨_, rfl, c10, rfl, (by omega), (by omega), fun L hL => lc_range (n := c10.toNat) (fun i H' => H' = upd (upd H13 t15 (.tup [.int ((2 * f8) + (d9 * (c10 - 1))), .int 2])) L (.lst (((List.range i).map fun (j : Nat) => f8 + d9 * (0 + (j : Int))).map V.int))) rfl ?_ ?_⟩
        · skip
          rintro i H' hi rfl
          refine ⟨rfl, ?_⟩
          refine ⟨_, rfl, _, rfl, _, rfl, _, _, rfl, rfl, wide_mul bd9 (show (0 + (i : Int)).natAbs < 2 ^ 205 by omega) (by decide) (by decide) (by decide), _, _, rfl, rfl, ?_⟩
          refine ⟨_, upd_same, ?_, ?_⟩
          · rw [List.length_map, List.length_map, List.length_range]
            exact small1000 (by omega)
          · rw [upd_upd, List.range_succ, List.map_append, List.map_append]
            rfl
        · skip
          rintro H' rfl
          have W := W.new (o := .lst (((List.range c10.toNat).map fun (j : Nat) => f8 + d9 * (0 + (j : Int))).map V.int)) hL
          have S := S.trans (same_keeps (same_upd (o := .lst (((List.range c10.toNat).map fun (j : Nat) => f8 + d9 * (0 + (j : Int))).map V.int)) hL))
          refine ⟨L, _, rfl, SqL.of (W.at (List.Mem.head _)), _, rfl, (by show 2 ≤ sizeLine; decide), fun t17 ht17 => ?_⟩
          have hs := sum_ar f8 d9 c10.toNat
          rw [← oc'] at hs
          have hb1 : (2 * f8 + d9 * (c10 - 1)).natAbs < 2 ^ 210 := by
            have e1 : (d9 * (c10 - 1)).natAbs < 2 ^ (3 + 206) := wide_lt bd9 (bs bc10 (show (1 : Int).natAbs < 2 ^ 205 by decide +kernel))
            have e2 : (2 * f8).natAbs < 2 ^ 209 := by omega
            exact ba e2 e1
          have hb2 : (c10 * (2 * f8 + d9 * (c10 - 1))).natAbs < 2 ^ (205 + 210) := wide_lt bc10 hb1
          have W := W.new (o := .tup [.int ((List.range c10.toNat).map fun (j : Nat) => f8 + d9 * (0 + (j : Int))).sum, .int c10]) ht17
          have S := S.trans (same_keeps (same_upd (o := .tup [.int ((List.range c10.toNat).map fun (j : Nat) => f8 + d9 * (0 + (j : Int))).sum, .int c10]) ht17))
          exact ⟨t17, _, _, _, rfl, (W.at (List.Mem.head _)), hs, (by rw [← hs] at hb2; generalize ((List.range c10.toNat).map fun (j : Nat) => f8 + d9 * (0 + (j : Int))).sum = z at *; omega), (by omega), (W.drop.drop), S⟩
      · skip
        have hb1 : (2 * f8 + d9 * (c10 - 1)).natAbs < 2 ^ 210 := by
          have e1 : (d9 * (c10 - 1)).natAbs < 2 ^ (3 + 206) := wide_lt bd9 (bs bc10 (show (1 : Int).natAbs < 2 ^ 205 by decide +kernel))
          have e2 : (2 * f8).natAbs < 2 ^ 209 := by omega
          exact ba e2 e1
        exact ⟨t15, _, _, _, rfl, (W.at (List.Mem.head _)), Int.mul_comm _ _, ub hb1 (by decide), (by decide +kernel), W, S⟩
    rintro σ' H18 ⟨dt, n, m, oi, rfl, hdt, heq, hbn, hbm, W, S⟩
    have W := W.got hdt (by intro _ z; cases z)
    refine ⟨_, rfl, x, dx, _, rfl, (W.at (List.Mem.tail _ (List.Mem.tail _ (List.Mem.head _)))), x, f8, d9, c10, rfl, ⟨dx, (W.at (List.Mem.tail _ (List.Mem.tail _ (List.Mem.head _))))⟩, Ot4.ok, fun y19 H20 s21 hy19 => ?_⟩
    obtain ⟨dy19, hy19⟩ := hy19
    have W := W.same s21
    have S := S.trans (same_keeps s21)
    have W := W.got hy19 (by intro _ z; cases z)
    have mb := mean_bd bf8 bd9 bc10
    refine ⟨_, rfl, y19, dt, _, _, n, m, rfl, ⟨dy19, (W.at (List.Mem.head _))⟩, nU_pos (by decide), (W.at (List.Mem.tail _ (List.Mem.head _))), mb.1, mb.2, hbn, hbm, mean_eq heq, _, rfl, iteF ?_⟩
    refine ⟨_, rfl, p, rfl, W.P, fun r22 H23 h0r22 h1r22 hP24 k25 => ?_⟩
    have W := W.keep hP24 k25
    have S := S.trans k25
    refine ⟨_, rfl, _, rfl, x, f8, d9, c10, r22, rfl, ⟨dx, (W.at (List.Mem.tail _ (List.Mem.tail _ (List.Mem.tail _ (List.Mem.head _)))))⟩, Ot4.ok, fun v26 H27 s28 hv26 => ?_⟩
    have W := W.same s28
    have S := S.trans (same_keeps s28)
    refine ⟨_, rfl, _, rfl, _, _, rfl, rfl, _, rfl, _, rfl, (by show 3 ≤ sizeLine; decide), fun t29 ht29 => ?_⟩
    have W := W.new (o := .tup [.int (f8 + r22), .int d9, .int c10]) ht29
    have hv26 := hv26.same (same_upd (o := .tup [.int (f8 + r22), .int d9, .int c10]) ht29)
    have S := S.trans (same_keeps (same_upd (o := .tup [.int (f8 + r22), .int d9, .int c10]) ht29))
    refine ⟨t29, (f8 + r22), d9, c10, rfl, (W.at (List.Mem.head _)), fun t30 H31 s32 ht30 => ?_⟩
    have hv26 := hv26.same s32
    have W := W.same s32
    have S := S.trans (same_keeps s32)
    have W := W.got ht30 (by intro _ z; cases z)
    refine ⟨v26, t30, (f8 + r22), d9, c10, rfl, hv26, (W.at (List.Mem.head _)), fun H33 s34 => ?_⟩
    have W := W.same s34
    have S := S.trans (same_keeps s34)
    refine ⟨_, rfl, iteF ?_⟩
    refine ⟨_, rfl, _, rfl, x, t4, f8, d9, c10, rfl, ⟨dx, (W.at (List.Mem.tail _ (List.Mem.tail _ (List.Mem.tail _ (List.Mem.tail _ (List.Mem.tail _ (List.Mem.head _)))))))⟩, (W.at (List.Mem.tail _ (List.Mem.tail _ (List.Mem.tail _ (List.Mem.tail _ (List.Mem.tail _ (List.Mem.tail _ (List.Mem.head _)))))))), Ot4.ok, oot4, fun H35 s36 => ?_⟩
    have W := W.same s36
    have S := S.trans (same_keeps s36)
    refine ⟨_, rfl, iteF ?_⟩
    refine ⟨_, rfl, _, rfl, _, rfl, p, x, t4, f8, d9, c10, rfl, W.P, ⟨dx, (W.at (List.Mem.tail _ (List.Mem.tail _ (List.Mem.tail _ (List.Mem.tail _ (List.Mem.tail _ (List.Mem.head _)))))))⟩, (W.at (List.Mem.tail _ (List.Mem.tail _ (List.Mem.tail _ (List.Mem.tail _ (List.Mem.tail _ (List.Mem.tail _ (List.Mem.head _)))))))), Ot4, fun H37 hP38 k39 => ?_⟩
    have W := W.keep hP38 k39
    have S := S.trans k39
    refine ⟨_, rfl, iteF ?_⟩
    refine ⟨_, rfl, _, rfl, x, t4, f8, d9, c10, rfl, ⟨dx, (W.at (List.Mem.tail _ (List.Mem.tail _ (List.Mem.tail _ (List.Mem.tail _ (List.Mem.tail _ (List.Mem.head _)))))))⟩, (W.at (List.Mem.tail _ (List.Mem.tail _ (List.Mem.tail _ (List.Mem.tail _ (List.Mem.tail _ (List.Mem.tail _ (List.Mem.head _)))))))), fun H40 s41 => ?_⟩
    have W := W.same s41
    have S := S.trans (same_keeps s41)
    exact k _
end
end L

set_option Elab.async false
set_option linter.all false
set_option maxRecDepth 100000
set_option maxHeartbeats 4000000
set_option pp.maxSteps 160
set_option pp.deepTerms false
namespace L
open PySem PySem.Spec PyProof.Rows L2 Fl
local macro_rules | `(tactic| walk_at "side") => `(tactic| first | (exact .inl ⟨by omega, by omega⟩) | (exact .inr ⟨by omega, by omega⟩) | (exact .inr ⟨by decide, by decide⟩) | (show (_ : Int) ≠ _; omega) | (exact ⟨by omega, by decide⟩) | (exact ⟨by decide, by decide, by decide⟩))
local macro_rules | `(tactic| walk_at "go") => `(tactic| repeat (first | refine ⟨_, rfl, ?_⟩ | refine ⟨_, _, rfl, rfl, ?_⟩ | refine .inl ⟨_, rfl, ?_⟩ | refine ⟨rfl, ?_⟩ | refine ⟨(by walk_at "side"), ?_⟩))
local macro_rules | `(tactic| walk_at "see") => `(tactic| (set_option pp.maxSteps 110 in set_option pp.deepTerms false in trace_state))
local macro_rules | `(tactic| walk_at "if") => `(tactic| first | refine ifE ?_ ?_ | refine ifNE ?_ ?_ | refine ifD ?_ ?_ | refine ifN ?_ ?_ | refine ifB ?_ ?_)
section
variable {P : Program} {w : World} {K : PySem.W.Frag} {mg : Str → Option Value} {base : Heap}
end

theorem kit_type {K : PySem.W.Frag} {t : Addr} {n : String} {b : Bool} (hk : PySem.W.kitMeta n = true) (hs : PySem.W.subIn K (.ref t) (.type n) = some b) : PySem.W.kitOne K (.ref t) (.type n) = some b := by
  unfold PySem.W.kitOne
  rw [if_neg (by intro h; cases beq_iff_eq.mp h)]
  show (if PySem.W.kitMeta n = true then PySem.W.subIn K (.ref t) (.type n) else none) = some b
  rw [if_pos hk]
  exact hs
theorem all_mk {l : PySem.W.OpenLaw} {w : World} {K : PySem.W.Frag} {h : Heap} {mg : Str → Option Value} {fa : Addr} (X : K.In h) (G : h.Ns mainGlobals mg) (hfa : mg "law" = some (.ref fa))
    {C : Addr} {fRatio_init tD : Addr} {ocRatio_init kVRatio_init dcRatio_init pmRatio_init cdRatio_init ctRatio_init : Value} {odRatio_init anRatio_init : Option Addr} {slRatio_init : Array (Option Value)} {ocD : Value} {odD : Option Addr} {tkD : Tok} {nD : Nat} {slD : Array (Option Value)} {LE : Addr} {BN : Addr} {nmE qE : Str} {NE : Addr} {bsE subE : List Value} {snE : List Str} {abE : Bool} {colE : Option Bool} {ddE : Option Addr} {mE0 mE1 mE2 mE3 mE5 : Option Value} {fBadNumber_init : Addr} {ocBadNumber_init kVBadNumber_init dcBadNumber_init pmBadNumber_init cdBadNumber_init ctBadNumber_init : Value} {odBadNumber_init anBadNumber_init : Option Addr} {slBadNumber_init : Array (Option Value)} {ZU : Addr} {NP : Addr} {D : Addr} {tkM : Tok} {fRun_init : Addr} {ocRun_init kVRun_init dcRun_init pmRun_init cdRun_init ctRun_init : Value} {odRun_init anRun_init : Option Addr} {slRun_init : Array (Option Value)} {pRun_last gRun_last : Addr} {rRun_last : List Value} {ocRun_last kVRun_last dcRun_last pmRun_last cdRun_last ctRun_last : Value} {odRun_last anRun_last : Option Addr} {slRun_last : Array (Option Value)} {pRun_mean gRun_mean : Addr} {rRun_mean : List Value} {ocRun_mean kVRun_mean dcRun_mean pmRun_mean cdRun_mean ctRun_mean : Value} {odRun_mean anRun_mean : Option Addr} {slRun_mean : Array (Option Value)} {pRun_point gRun_point : Addr} {rRun_point : List Value} {ocRun_point kVRun_point dcRun_point pmRun_point cdRun_point ctRun_point : Value} {odRun_point anRun_point : Option Addr} {slRun_point : Array (Option Value)} {pRun_odd gRun_odd : Addr} {rRun_odd : List Value} {ocRun_odd kVRun_odd dcRun_odd pmRun_odd cdRun_odd ctRun_odd : Value} {odRun_odd anRun_odd : Option Addr} {slRun_odd : Array (Option Value)} {pRun_even gRun_even : Addr} {rRun_even : List Value} {ocRun_even kVRun_even dcRun_even pmRun_even cdRun_even ctRun_even : Value} {odRun_even anRun_even : Option Addr} {slRun_even : Array (Option Value)} {pRun_between gRun_between : Addr} {rRun_between : List Value} {ocRun_between kVRun_between dcRun_between pmRun_between cdRun_between ctRun_between : Value} {odRun_between anRun_between : Option Addr} {slRun_between : Array (Option Value)} {fRun_add : Addr} {ocRun_add kVRun_add dcRun_add pmRun_add cdRun_add ctRun_add : Value} {odRun_add anRun_add : Option Addr} {slRun_add : Array (Option Value)} {fRun_eq : Addr} {ocRun_eq kVRun_eq dcRun_eq pmRun_eq cdRun_eq ctRun_eq : Value} {odRun_eq anRun_eq : Option Addr} {slRun_eq : Array (Option Value)} {fRun_parted : Addr} {ocRun_parted kVRun_parted dcRun_parted pmRun_parted cdRun_parted ctRun_parted : Value} {odRun_parted anRun_parted : Option Addr} {slRun_parted : Array (Option Value)} {fpool : Addr} {ocpool kVpool dcpool pmpool cdpool ctpool : Value} {odpool anpool : Option Addr} {slpool : Array (Option Value)} {fmix : Addr} {ocmix kVmix dcmix pmmix cdmix ctmix : Value} {odmix anmix : Option Addr} {slmix : Array (Option Value)} {fdraw : Addr} {ocdraw kVdraw dcdraw pmdraw cddraw ctdraw : Value} {oddraw andraw : Option Addr} {sldraw : Array (Option Value)} {fwide : Addr} {ocwide kVwide dcwide pmwide cdwide ctwide : Value} {odwide anwide : Option Addr} {slwide : Array (Option Value)} {fsigned : Addr} {ocsigned kVsigned dcsigned pmsigned cdsigned ctsigned : Value} {odsigned ansigned : Option Addr} {slsigned : Array (Option Value)} {fany : Addr} {ocany kVany dcany pmany cdany ctany : Value} {odany anany : Option Addr} {slany : Array (Option Value)} {fwhole : Addr} {ocwhole kVwhole dcwhole pmwhole cdwhole ctwhole : Value} {odwhole anwhole : Option Addr} {slwhole : Array (Option Value)} {fratio : Addr} {ocratio kVratio dcratio pmratio cdratio ctratio : Value} {odratio anratio : Option Addr} {slratio : Array (Option Value)} {fsame : Addr} {ocsame kVsame dcsame pmsame cdsame ctsame : Value} {odsame ansame : Option Addr} {slsame : Array (Option Value)} {fgreat_run : Addr} {ocgreat_run kVgreat_run dcgreat_run pmgreat_run cdgreat_run ctgreat_run : Value} {odgreat_run angreat_run : Option Addr} {slgreat_run : Array (Option Value)} {fheld : Addr} {ocheld kVheld dcheld pmheld cdheld ctheld : Value} {odheld anheld : Option Addr} {slheld : Array (Option Value)} {fplain : Addr} {ocplain kVplain dcplain pmplain cdplain ctplain : Value} {odplain anplain : Option Addr} {slplain : Array (Option Value)} {fdue : Addr} {ocdue kVdue dcdue pmdue cddue ctdue : Value} {oddue andue : Option Addr} {sldue : Array (Option Value)} {fmeets : Addr} {ocmeets kVmeets dcmeets pmmeets cdmeets ctmeets : Value} {odmeets anmeets : Option Addr} {slmeets : Array (Option Value)} {fmade : Addr} {ocmade kVmade dcmade pmmade cdmade ctmade : Value} {odmade anmade : Option Addr} {slmade : Array (Option Value)} {fnamed : Addr} {ocnamed kVnamed dcnamed pmnamed cdnamed ctnamed : Value} {odnamed annamed : Option Addr} {slnamed : Array (Option Value)} {fmoved : Addr} {ocmoved kVmoved dcmoved pmmoved cdmoved ctmoved : Value} {odmoved anmoved : Option Addr} {slmoved : Array (Option Value)} {falike : Addr} {ocalike kValike dcalike pmalike cdalike ctalike : Value} {odalike analike : Option Addr} {slalike : Array (Option Value)} {fcut : Addr} {occut kVcut dccut pmcut cdcut ctcut : Value} {odcut ancut : Option Addr} {slcut : Array (Option Value)} {fparted : Addr} {ocparted kVparted dcparted pmparted cdparted ctparted : Value} {odparted anparted : Option Addr} {slparted : Array (Option Value)} {flaw : Addr} {oclaw kVlaw dclaw pmlaw cdlaw ctlaw : Value} {odlaw anlaw : Option Addr} {sllaw : Array (Option Value)}
    (zlen : PySem.W.nsIn K mainGlobals "len" = some none)
    (zint : PySem.W.nsIn K mainGlobals "int" = some none)
    (zabs : PySem.W.nsIn K mainGlobals "abs" = some none)
    (zrange : PySem.W.nsIn K mainGlobals "range" = some none)
    (zisinstance : PySem.W.nsIn K mainGlobals "isinstance" = some none)
    (zmax : PySem.W.nsIn K mainGlobals "max" = some none)
    (zmin : PySem.W.nsIn K mainGlobals "min" = some none)
    (zsum : PySem.W.nsIn K mainGlobals "sum" = some none)
    (zstr : PySem.W.nsIn K mainGlobals "str" = some none)
    (zbool : PySem.W.nsIn K mainGlobals "bool" = some none)
    (zlist : PySem.W.nsIn K mainGlobals "list" = some none)
    (zValueError : PySem.W.nsIn K mainGlobals "ValueError" = some none)
    (ztuple : PySem.W.nsIn K mainGlobals "tuple" = some none)
    (aC : PySem.W.nsIn K mainGlobals "Ratio" = some (some (.ref C)))
    (pgC : PySem.W.plainGet K C Str.empty = true)
    (hdC : PySem.W.hasDictIn K C = true)
    (poC : PySem.W.plainOver K C = true)
    (saC : PySem.W.findIn K (.ref C) "__setattr__" = some (some (.builtin "object.__setattr__")))
    (mkC : PySem.W.makesIn K C = true)
    (kcC : PySem.W.keepIn K (.ref C) = true)
    (nTC : PySem.W.findIn K (.ref C) "top" = some none)
    (nUC : PySem.W.findIn K (.ref C) "under" = some none)
    (haC : PySem.W.findIn K (.ref C) "__class__" = some (some (.builtin "object.__class__")))
    (hnO : PySem.W.specialIn K (.builtin "object.__class__") "__get__" = some (some (.builtin "getset_descriptor.__get__")))
    (htO : PySem.W.takesIn K (.builtin "object.__class__") = some true)
    (hmC : PySem.W.mroIn K C (.type "object") = some true)
    (siC : PySem.W.subIn K (.type "int") (.ref C) = some false)
    (tyC : PySem.W.typeIn K (.ref C) = some (.type "type"))
    (aRatio_init : PySem.W.findIn K (.ref C) "__init__" = some (some (.ref fRatio_init)))
    (iRatio_init : PySem.W.isFn K (.ref fRatio_init) = true)
    (lRatio_init : K.lookup fRatio_init = some ⟨ocRatio_init, odRatio_init, .func (PySem.W.fnOf "__init__" "Ratio.__init__" (defArgs s_Ratio_init) (defBody s_Ratio_init) (defScope s_Ratio_init) (.ref tD) kVRatio_init dcRatio_init pmRatio_init anRatio_init cdRatio_init ctRatio_init), slRatio_init⟩)
    (cRatio_init : PySem.W.codeIn K cdRatio_init "Ratio.__init__" = true)
    (kRatio_init : PySem.W.keepIn K (.ref fRatio_init) = true)
    (lD : K.lookup tD = some ⟨ocD, odD, .seq #[.int 1 tkD] nD, slD⟩)
    (aGcd : PySem.W.nsIn K mainGlobals "gcd" = some (some (.builtin "math.gcd")))
    (aLE : PySem.W.nsIn K mainGlobals "LotError" = some (some (.ref LE)))
    (hdLE : PySem.W.hasDictIn K LE = true)
    (teLE : PySem.W.typeIn K (.ref LE) = some (.type "type"))
    (aBN : PySem.W.nsIn K mainGlobals "BadNumber" = some (some (.ref BN)))
    (xBN : K.lookup BN = some (excClassObj nmE qE BN NE bsE [.ref LE, .type "ValueError", .type "Exception", .type "BaseException", .type "object"] true snE subE abE colE ddE mE0 mE1 mE2 mE3 mE5 "ValueError.__new__"))
    (saBN : PySem.W.findIn K (.ref BN) "__setattr__" = some (some (.builtin "object.__setattr__")))
    (keBN : PySem.W.keepIn K (.ref BN) = true)
    (beBN : PySem.W.subIn K (.ref BN) (.type "BaseException") = some true)
    (teBN : PySem.W.typeIn K (.ref BN) = some (.type "type"))
    (seBN : PySem.W.subIn K (.ref BN) (.ref BN) = some true)
    (geBN : PySem.W.findIn K (.ref BN) "__getattribute__" = some (some (.builtin "BaseException.__getattribute__")))
    (ggBN : PySem.W.findIn K (.ref BN) "__getattr__" = some none)
    (hdBN : PySem.W.hasDictIn K BN = true)
    (hcBN : PySem.W.findIn K (.ref BN) "__class__" = some (some (.builtin "object.__class__")))
    (hoBN : PySem.W.mroIn K BN (.type "object") = some true)
    (veBN : PySem.W.subIn K (.ref BN) (.type "ValueError") = some true)
    (fnBN : PySem.W.findIn K (.ref BN) "name" = some none)
    (fvBN : PySem.W.findIn K (.ref BN) "value" = some none)
    (aBadNumber_init : PySem.W.findIn K (.ref BN) "__init__" = some (some (.ref fBadNumber_init)))
    (tBadNumber_init : PySem.W.typeIn K (.ref fBadNumber_init) = some (.type "function"))
    (lBadNumber_init : K.lookup fBadNumber_init = some ⟨ocBadNumber_init, odBadNumber_init, .func (PySem.W.fnOf "__init__" "BadNumber.__init__" (defArgs s_BadNumber_init) (defBody s_BadNumber_init) (defScope s_BadNumber_init) .none kVBadNumber_init dcBadNumber_init pmBadNumber_init anBadNumber_init cdBadNumber_init ctBadNumber_init), slBadNumber_init⟩)
    (cBadNumber_init : PySem.W.codeIn K cdBadNumber_init "BadNumber.__init__" = true)
    (kBadNumber_init : PySem.W.keepIn K (.ref fBadNumber_init) = true)
    (sBNLE : PySem.W.subIn K (.ref BN) (.ref LE) = some true)
    (kmV : PySem.W.kitMeta "ValueError" = true)
    (aZU : PySem.W.nsIn K mainGlobals "ZeroUnder" = some (some (.ref ZU)))
    (xZU : PySem.W.excIn K ZU [.type "ValueError", .type "Exception", .type "BaseException", .type "object"] "ValueError.__new__" = true)
    (keZU : PySem.W.keepIn K (.ref ZU) = true)
    (beZU : PySem.W.subIn K (.ref ZU) (.type "BaseException") = some true)
    (teZU : PySem.W.typeIn K (.ref ZU) = some (.type "type"))
    (seZU : PySem.W.subIn K (.ref ZU) (.ref ZU) = some true)
    (geZU : PySem.W.findIn K (.ref ZU) "__getattribute__" = some (some (.builtin "BaseException.__getattribute__")))
    (ggZU : PySem.W.findIn K (.ref ZU) "__getattr__" = some none)
    (hdZU : PySem.W.hasDictIn K ZU = true)
    (hcZU : PySem.W.findIn K (.ref ZU) "__class__" = some (some (.builtin "object.__class__")))
    (hoZU : PySem.W.mroIn K ZU (.type "object") = some true)
    (veZU : PySem.W.subIn K (.ref ZU) (.type "ValueError") = some true)
    (aNP : PySem.W.nsIn K mainGlobals "NoPlace" = some (some (.ref NP)))
    (xNP : PySem.W.excIn K NP [.type "ValueError", .type "Exception", .type "BaseException", .type "object"] "ValueError.__new__" = true)
    (keNP : PySem.W.keepIn K (.ref NP) = true)
    (beNP : PySem.W.subIn K (.ref NP) (.type "BaseException") = some true)
    (teNP : PySem.W.typeIn K (.ref NP) = some (.type "type"))
    (seNP : PySem.W.subIn K (.ref NP) (.ref NP) = some true)
    (geNP : PySem.W.findIn K (.ref NP) "__getattribute__" = some (some (.builtin "BaseException.__getattribute__")))
    (ggNP : PySem.W.findIn K (.ref NP) "__getattr__" = some none)
    (hdNP : PySem.W.hasDictIn K NP = true)
    (hcNP : PySem.W.findIn K (.ref NP) "__class__" = some (some (.builtin "object.__class__")))
    (hoNP : PySem.W.mroIn K NP (.type "object") = some true)
    (veNP : PySem.W.subIn K (.ref NP) (.type "ValueError") = some true)
    (sNPLE : PySem.W.subIn K (.ref NP) (.ref LE) = some true)
    (sNPBN : PySem.W.subIn K (.ref NP) (.ref BN) = some false)
    (aD : PySem.W.nsIn K mainGlobals "Run" = some (some (.ref D)))
    (pgD : PySem.W.plainGet K D Str.empty = true)
    (hdD : PySem.W.hasDictIn K D = true)
    (poD : PySem.W.plainOver K D = true)
    (saD : PySem.W.findIn K (.ref D) "__setattr__" = some (some (.builtin "object.__setattr__")))
    (mkD : PySem.W.makesIn K D = true)
    (kcD : PySem.W.keepIn K (.ref D) = true)
    (n1D : PySem.W.findIn K (.ref D) "first" = some none)
    (n2D : PySem.W.findIn K (.ref D) "step" = some none)
    (n3D : PySem.W.findIn K (.ref D) "count" = some none)
    (haD : PySem.W.findIn K (.ref D) "__class__" = some (some (.builtin "object.__class__")))
    (hmD : PySem.W.mroIn K D (.type "object") = some true)
    (aMS : PySem.W.nsIn K mainGlobals "MOST_STEP" = some (some (.int 4 tkM)))
    (aRun_init : PySem.W.findIn K (.ref D) "__init__" = some (some (.ref fRun_init)))
    (iRun_init : PySem.W.isFn K (.ref fRun_init) = true)
    (lRun_init : K.lookup fRun_init = some ⟨ocRun_init, odRun_init, .func (PySem.W.fnOf "__init__" "Run.__init__" (defArgs s_Run_init) (defBody s_Run_init) (defScope s_Run_init) .none kVRun_init dcRun_init pmRun_init anRun_init cdRun_init ctRun_init), slRun_init⟩)
    (cRun_init : PySem.W.codeIn K cdRun_init "Run.__init__" = true)
    (kRun_init : PySem.W.keepIn K (.ref fRun_init) = true)
    (q1Run_last : PySem.W.findIn K (.ref D) "last" = some (some (.ref pRun_last)))
    (q2Run_last : PySem.W.specialIn K (.ref pRun_last) "__get__" = some (some (.builtin "property.__get__")))
    (q3Run_last : PySem.W.takesIn K (.ref pRun_last) = some true)
    (q4Run_last : PySem.W.recIn K pRun_last "property" = some (.ref gRun_last :: rRun_last))
    (lRun_last : K.lookup gRun_last = some ⟨ocRun_last, odRun_last, .func (PySem.W.fnOf "last" "Run.last" (defArgs s_Run_last) (defBody s_Run_last) (defScope s_Run_last) .none kVRun_last dcRun_last pmRun_last anRun_last cdRun_last ctRun_last), slRun_last⟩)
    (cRun_last : PySem.W.codeIn K cdRun_last "Run.last" = true)
    (kRun_last : PySem.W.keepIn K (.ref gRun_last) = true)
    (q1Run_mean : PySem.W.findIn K (.ref D) "mean" = some (some (.ref pRun_mean)))
    (q2Run_mean : PySem.W.specialIn K (.ref pRun_mean) "__get__" = some (some (.builtin "property.__get__")))
    (q3Run_mean : PySem.W.takesIn K (.ref pRun_mean) = some true)
    (q4Run_mean : PySem.W.recIn K pRun_mean "property" = some (.ref gRun_mean :: rRun_mean))
    (lRun_mean : K.lookup gRun_mean = some ⟨ocRun_mean, odRun_mean, .func (PySem.W.fnOf "mean" "Run.mean" (defArgs s_Run_mean) (defBody s_Run_mean) (defScope s_Run_mean) .none kVRun_mean dcRun_mean pmRun_mean anRun_mean cdRun_mean ctRun_mean), slRun_mean⟩)
    (cRun_mean : PySem.W.codeIn K cdRun_mean "Run.mean" = true)
    (kRun_mean : PySem.W.keepIn K (.ref gRun_mean) = true)
    (rdD : PySem.W.readsIn K D (.type "type") = true)
    (gatD : PySem.W.specialIn K (.ref D) "__getattribute__" = some (some (.builtin "type.__getattribute__")))
    (q1Run_point : PySem.W.findCls K (.ref D) (.type "type") "point" = some (.get (.builtin "classmethod.__get__") (.ref pRun_point) .none (.ref D)))
    (q2Run_point : PySem.W.recIn K pRun_point "classmethod" = some (.ref gRun_point :: rRun_point))
    (q3Run_point : PySem.W.fnIn K gRun_point = true)
    (lRun_point : K.lookup gRun_point = some ⟨ocRun_point, odRun_point, .func (PySem.W.fnOf "point" "Run.point" (defArgs s_Run_point) (defBody s_Run_point) (defScope s_Run_point) .none kVRun_point dcRun_point pmRun_point anRun_point cdRun_point ctRun_point), slRun_point⟩)
    (cRun_point : PySem.W.codeIn K cdRun_point "Run.point" = true)
    (kRun_point : PySem.W.keepIn K (.ref gRun_point) = true)
    (q1Run_odd : PySem.W.findCls K (.ref D) (.type "type") "odd" = some (.get (.builtin "classmethod.__get__") (.ref pRun_odd) .none (.ref D)))
    (q2Run_odd : PySem.W.recIn K pRun_odd "classmethod" = some (.ref gRun_odd :: rRun_odd))
    (q3Run_odd : PySem.W.fnIn K gRun_odd = true)
    (lRun_odd : K.lookup gRun_odd = some ⟨ocRun_odd, odRun_odd, .func (PySem.W.fnOf "odd" "Run.odd" (defArgs s_Run_odd) (defBody s_Run_odd) (defScope s_Run_odd) .none kVRun_odd dcRun_odd pmRun_odd anRun_odd cdRun_odd ctRun_odd), slRun_odd⟩)
    (cRun_odd : PySem.W.codeIn K cdRun_odd "Run.odd" = true)
    (kRun_odd : PySem.W.keepIn K (.ref gRun_odd) = true)
    (q1Run_even : PySem.W.findCls K (.ref D) (.type "type") "even" = some (.get (.builtin "classmethod.__get__") (.ref pRun_even) .none (.ref D)))
    (q2Run_even : PySem.W.recIn K pRun_even "classmethod" = some (.ref gRun_even :: rRun_even))
    (q3Run_even : PySem.W.fnIn K gRun_even = true)
    (lRun_even : K.lookup gRun_even = some ⟨ocRun_even, odRun_even, .func (PySem.W.fnOf "even" "Run.even" (defArgs s_Run_even) (defBody s_Run_even) (defScope s_Run_even) .none kVRun_even dcRun_even pmRun_even anRun_even cdRun_even ctRun_even), slRun_even⟩)
    (cRun_even : PySem.W.codeIn K cdRun_even "Run.even" = true)
    (kRun_even : PySem.W.keepIn K (.ref gRun_even) = true)
    (q1Run_between : PySem.W.findCls K (.ref D) (.type "type") "between" = some (.get (.builtin "classmethod.__get__") (.ref pRun_between) .none (.ref D)))
    (q2Run_between : PySem.W.recIn K pRun_between "classmethod" = some (.ref gRun_between :: rRun_between))
    (q3Run_between : PySem.W.fnIn K gRun_between = true)
    (lRun_between : K.lookup gRun_between = some ⟨ocRun_between, odRun_between, .func (PySem.W.fnOf "between" "Run.between" (defArgs s_Run_between) (defBody s_Run_between) (defScope s_Run_between) .none kVRun_between dcRun_between pmRun_between anRun_between cdRun_between ctRun_between), slRun_between⟩)
    (cRun_between : PySem.W.codeIn K cdRun_between "Run.between" = true)
    (kRun_between : PySem.W.keepIn K (.ref gRun_between) = true)
    (aRun_add : PySem.W.findIn K (.ref D) "__add__" = some (some (.ref fRun_add)))
    (iRun_add : PySem.W.isFn K (.ref fRun_add) = true)
    (lRun_add : K.lookup fRun_add = some ⟨ocRun_add, odRun_add, .func (PySem.W.fnOf "__add__" "Run.__add__" (defArgs s_Run_add) (defBody s_Run_add) (defScope s_Run_add) .none kVRun_add dcRun_add pmRun_add anRun_add cdRun_add ctRun_add), slRun_add⟩)
    (cRun_add : PySem.W.codeIn K cdRun_add "Run.__add__" = true)
    (kRun_add : PySem.W.keepIn K (.ref fRun_add) = true)
    (aRun_eq : PySem.W.findIn K (.ref D) "__eq__" = some (some (.ref fRun_eq)))
    (iRun_eq : PySem.W.isFn K (.ref fRun_eq) = true)
    (lRun_eq : K.lookup fRun_eq = some ⟨ocRun_eq, odRun_eq, .func (PySem.W.fnOf "__eq__" "Run.__eq__" (defArgs s_Run_eq) (defBody s_Run_eq) (defScope s_Run_eq) .none kVRun_eq dcRun_eq pmRun_eq anRun_eq cdRun_eq ctRun_eq), slRun_eq⟩)
    (cRun_eq : PySem.W.codeIn K cdRun_eq "Run.__eq__" = true)
    (kRun_eq : PySem.W.keepIn K (.ref fRun_eq) = true)
    (aRun_parted : PySem.W.findIn K (.ref D) "parted" = some (some (.ref fRun_parted)))
    (iRun_parted : PySem.W.isFn K (.ref fRun_parted) = true)
    (lRun_parted : K.lookup fRun_parted = some ⟨ocRun_parted, odRun_parted, .func (PySem.W.fnOf "parted" "Run.parted" (defArgs s_Run_parted) (defBody s_Run_parted) (defScope s_Run_parted) .none kVRun_parted dcRun_parted pmRun_parted anRun_parted cdRun_parted ctRun_parted), slRun_parted⟩)
    (cRun_parted : PySem.W.codeIn K cdRun_parted "Run.parted" = true)
    (kRun_parted : PySem.W.keepIn K (.ref fRun_parted) = true)
    (hSFD : PySem.W.selfFirst K D = true)
    (zrADD : PySem.W.findIn K (.ref D) "__radd__" = some none)
    (ziADD : PySem.W.findIn K (.type "int") "__add__" = some (some (.builtin "int.__add__")))
    (zjADD : PySem.W.findIn K (.type "int") "__radd__" = some (some (.builtin "int.__radd__")))
    (siD : PySem.W.subIn K (.type "int") (.ref D) = some false)
    (apool : PySem.W.nsIn K mainGlobals "_law_pool" = some (some (.ref fpool)))
    (lpool : K.lookup fpool = some ⟨ocpool, odpool, .func (PySem.W.fnOf "_law_pool" "_law_pool" (defArgs s_pool) (defBody s_pool) (defScope s_pool) .none kVpool dcpool pmpool anpool cdpool ctpool), slpool⟩)
    (cpool : PySem.W.codeIn K cdpool "_law_pool" = true)
    (kpool : PySem.W.keepIn K (.ref fpool) = true)
    (amix : PySem.W.nsIn K mainGlobals "_law_mix" = some (some (.ref fmix)))
    (lmix : K.lookup fmix = some ⟨ocmix, odmix, .func (PySem.W.fnOf "_law_mix" "_law_mix" (defArgs s_mix) (defBody s_mix) (defScope s_mix) .none kVmix dcmix pmmix anmix cdmix ctmix), slmix⟩)
    (cmix : PySem.W.codeIn K cdmix "_law_mix" = true)
    (kmix : PySem.W.keepIn K (.ref fmix) = true)
    (adraw : PySem.W.nsIn K mainGlobals "_law_draw" = some (some (.ref fdraw)))
    (ldraw : K.lookup fdraw = some ⟨ocdraw, oddraw, .func (PySem.W.fnOf "_law_draw" "_law_draw" (defArgs s_draw) (defBody s_draw) (defScope s_draw) .none kVdraw dcdraw pmdraw andraw cddraw ctdraw), sldraw⟩)
    (cdraw : PySem.W.codeIn K cddraw "_law_draw" = true)
    (kdraw : PySem.W.keepIn K (.ref fdraw) = true)
    (awide : PySem.W.nsIn K mainGlobals "_law_wide" = some (some (.ref fwide)))
    (lwide : K.lookup fwide = some ⟨ocwide, odwide, .func (PySem.W.fnOf "_law_wide" "_law_wide" (defArgs s_wide) (defBody s_wide) (defScope s_wide) .none kVwide dcwide pmwide anwide cdwide ctwide), slwide⟩)
    (cwide : PySem.W.codeIn K cdwide "_law_wide" = true)
    (kwide : PySem.W.keepIn K (.ref fwide) = true)
    (asigned : PySem.W.nsIn K mainGlobals "_law_signed" = some (some (.ref fsigned)))
    (lsigned : K.lookup fsigned = some ⟨ocsigned, odsigned, .func (PySem.W.fnOf "_law_signed" "_law_signed" (defArgs s_signed) (defBody s_signed) (defScope s_signed) .none kVsigned dcsigned pmsigned ansigned cdsigned ctsigned), slsigned⟩)
    (csigned : PySem.W.codeIn K cdsigned "_law_signed" = true)
    (ksigned : PySem.W.keepIn K (.ref fsigned) = true)
    (aany : PySem.W.nsIn K mainGlobals "_law_any" = some (some (.ref fany)))
    (lany : K.lookup fany = some ⟨ocany, odany, .func (PySem.W.fnOf "_law_any" "_law_any" (defArgs s_any) (defBody s_any) (defScope s_any) .none kVany dcany pmany anany cdany ctany), slany⟩)
    (cany : PySem.W.codeIn K cdany "_law_any" = true)
    (kany : PySem.W.keepIn K (.ref fany) = true)
    (awhole : PySem.W.nsIn K mainGlobals "_law_whole" = some (some (.ref fwhole)))
    (lwhole : K.lookup fwhole = some ⟨ocwhole, odwhole, .func (PySem.W.fnOf "_law_whole" "_law_whole" (defArgs s_whole) (defBody s_whole) (defScope s_whole) .none kVwhole dcwhole pmwhole anwhole cdwhole ctwhole), slwhole⟩)
    (cwhole : PySem.W.codeIn K cdwhole "_law_whole" = true)
    (kwhole : PySem.W.keepIn K (.ref fwhole) = true)
    (aratio : PySem.W.nsIn K mainGlobals "_law_ratio" = some (some (.ref fratio)))
    (lratio : K.lookup fratio = some ⟨ocratio, odratio, .func (PySem.W.fnOf "_law_ratio" "_law_ratio" (defArgs s_ratio) (defBody s_ratio) (defScope s_ratio) .none kVratio dcratio pmratio anratio cdratio ctratio), slratio⟩)
    (cratio : PySem.W.codeIn K cdratio "_law_ratio" = true)
    (kratio : PySem.W.keepIn K (.ref fratio) = true)
    (asame : PySem.W.nsIn K mainGlobals "_law_same" = some (some (.ref fsame)))
    (lsame : K.lookup fsame = some ⟨ocsame, odsame, .func (PySem.W.fnOf "_law_same" "_law_same" (defArgs s_same) (defBody s_same) (defScope s_same) .none kVsame dcsame pmsame ansame cdsame ctsame), slsame⟩)
    (csame : PySem.W.codeIn K cdsame "_law_same" = true)
    (ksame : PySem.W.keepIn K (.ref fsame) = true)
    (agreat_run : PySem.W.nsIn K mainGlobals "_law_great_run" = some (some (.ref fgreat_run)))
    (lgreat_run : K.lookup fgreat_run = some ⟨ocgreat_run, odgreat_run, .func (PySem.W.fnOf "_law_great_run" "_law_great_run" (defArgs s_great_run) (defBody s_great_run) (defScope s_great_run) .none kVgreat_run dcgreat_run pmgreat_run angreat_run cdgreat_run ctgreat_run), slgreat_run⟩)
    (cgreat_run : PySem.W.codeIn K cdgreat_run "_law_great_run" = true)
    (kgreat_run : PySem.W.keepIn K (.ref fgreat_run) = true)
    (aheld : PySem.W.nsIn K mainGlobals "_law_held" = some (some (.ref fheld)))
    (lheld : K.lookup fheld = some ⟨ocheld, odheld, .func (PySem.W.fnOf "_law_held" "_law_held" (defArgs s_held) (defBody s_held) (defScope s_held) .none kVheld dcheld pmheld anheld cdheld ctheld), slheld⟩)
    (cheld : PySem.W.codeIn K cdheld "_law_held" = true)
    (kheld : PySem.W.keepIn K (.ref fheld) = true)
    (aplain : PySem.W.nsIn K mainGlobals "_law_plain" = some (some (.ref fplain)))
    (lplain : K.lookup fplain = some ⟨ocplain, odplain, .func (PySem.W.fnOf "_law_plain" "_law_plain" (defArgs s_plain) (defBody s_plain) (defScope s_plain) .none kVplain dcplain pmplain anplain cdplain ctplain), slplain⟩)
    (cplain : PySem.W.codeIn K cdplain "_law_plain" = true)
    (kplain : PySem.W.keepIn K (.ref fplain) = true)
    (adue : PySem.W.nsIn K mainGlobals "_law_due" = some (some (.ref fdue)))
    (ldue : K.lookup fdue = some ⟨ocdue, oddue, .func (PySem.W.fnOf "_law_due" "_law_due" (defArgs s_due) (defBody s_due) (defScope s_due) .none kVdue dcdue pmdue andue cddue ctdue), sldue⟩)
    (cdue : PySem.W.codeIn K cddue "_law_due" = true)
    (kdue : PySem.W.keepIn K (.ref fdue) = true)
    (ameets : PySem.W.nsIn K mainGlobals "_law_meets" = some (some (.ref fmeets)))
    (lmeets : K.lookup fmeets = some ⟨ocmeets, odmeets, .func (PySem.W.fnOf "_law_meets" "_law_meets" (defArgs s_meets) (defBody s_meets) (defScope s_meets) .none kVmeets dcmeets pmmeets anmeets cdmeets ctmeets), slmeets⟩)
    (cmeets : PySem.W.codeIn K cdmeets "_law_meets" = true)
    (kmeets : PySem.W.keepIn K (.ref fmeets) = true)
    (amade : PySem.W.nsIn K mainGlobals "_law_made" = some (some (.ref fmade)))
    (lmade : K.lookup fmade = some ⟨ocmade, odmade, .func (PySem.W.fnOf "_law_made" "_law_made" (defArgs s_made) (defBody s_made) (defScope s_made) .none kVmade dcmade pmmade anmade cdmade ctmade), slmade⟩)
    (cmade : PySem.W.codeIn K cdmade "_law_made" = true)
    (kmade : PySem.W.keepIn K (.ref fmade) = true)
    (anamed : PySem.W.nsIn K mainGlobals "_law_named" = some (some (.ref fnamed)))
    (lnamed : K.lookup fnamed = some ⟨ocnamed, odnamed, .func (PySem.W.fnOf "_law_named" "_law_named" (defArgs s_named) (defBody s_named) (defScope s_named) .none kVnamed dcnamed pmnamed annamed cdnamed ctnamed), slnamed⟩)
    (cnamed : PySem.W.codeIn K cdnamed "_law_named" = true)
    (knamed : PySem.W.keepIn K (.ref fnamed) = true)
    (amoved : PySem.W.nsIn K mainGlobals "_law_moved" = some (some (.ref fmoved)))
    (lmoved : K.lookup fmoved = some ⟨ocmoved, odmoved, .func (PySem.W.fnOf "_law_moved" "_law_moved" (defArgs s_moved) (defBody s_moved) (defScope s_moved) .none kVmoved dcmoved pmmoved anmoved cdmoved ctmoved), slmoved⟩)
    (cmoved : PySem.W.codeIn K cdmoved "_law_moved" = true)
    (kmoved : PySem.W.keepIn K (.ref fmoved) = true)
    (aalike : PySem.W.nsIn K mainGlobals "_law_alike" = some (some (.ref falike)))
    (lalike : K.lookup falike = some ⟨ocalike, odalike, .func (PySem.W.fnOf "_law_alike" "_law_alike" (defArgs s_alike) (defBody s_alike) (defScope s_alike) .none kValike dcalike pmalike analike cdalike ctalike), slalike⟩)
    (calike : PySem.W.codeIn K cdalike "_law_alike" = true)
    (kalike : PySem.W.keepIn K (.ref falike) = true)
    (acut : PySem.W.nsIn K mainGlobals "_law_cut" = some (some (.ref fcut)))
    (lcut : K.lookup fcut = some ⟨occut, odcut, .func (PySem.W.fnOf "_law_cut" "_law_cut" (defArgs s_cut) (defBody s_cut) (defScope s_cut) .none kVcut dccut pmcut ancut cdcut ctcut), slcut⟩)
    (ccut : PySem.W.codeIn K cdcut "_law_cut" = true)
    (kcut : PySem.W.keepIn K (.ref fcut) = true)
    (aparted : PySem.W.nsIn K mainGlobals "_law_parted" = some (some (.ref fparted)))
    (lparted : K.lookup fparted = some ⟨ocparted, odparted, .func (PySem.W.fnOf "_law_parted" "_law_parted" (defArgs s_parted) (defBody s_parted) (defScope s_parted) .none kVparted dcparted pmparted anparted cdparted ctparted), slparted⟩)
    (cparted : PySem.W.codeIn K cdparted "_law_parted" = true)
    (kparted : PySem.W.keepIn K (.ref fparted) = true)
    (alaw : PySem.W.nsIn K mainGlobals "law" = some (some (.ref flaw)))
    (llaw : K.lookup flaw = some ⟨oclaw, odlaw, .func (PySem.W.fnOf "law" "law" (defArgs s_law) (defBody s_law) (defScope s_law) .none kVlaw dclaw pmlaw anlaw cdlaw ctlaw), sllaw⟩)
    (claw : PySem.W.codeIn K cdlaw "law" = true)
    (klaw : PySem.W.keepIn K (.ref flaw) = true) :
    ∃ fd : FuncData, (∀ (s : Shared) (v : Value), BindsTo s fd ⟨[v], []⟩ [("_law_script", v)]) ∧ ∀ base : Heap, K.In base → base.Ns mainGlobals mg → FnOk l.prog w K mg base CX0 8 fa fd ["_law_script"] (spLaw K) := by
  have e := hfa.symm.trans (PySem.W.mg_of X G alaw)
  cases e
  have B : Blt mg := ⟨PySem.W.mg_none_of X G zlen, PySem.W.mg_none_of X G zint, PySem.W.mg_none_of X G zabs, PySem.W.mg_none_of X G zrange, PySem.W.mg_none_of X G zisinstance, PySem.W.mg_none_of X G zmax, PySem.W.mg_none_of X G zmin, PySem.W.mg_none_of X G zsum, PySem.W.mg_none_of X G zstr, PySem.W.mg_none_of X G zbool, PySem.W.mg_none_of X G zlist, PySem.W.mg_none_of X G zValueError⟩
  have hTup := PySem.W.mg_none_of X G ztuple
  have gRatio := PySem.W.mg_of X G aC
  have T : RatC K mg C := ⟨⟨pgC, hdC, poC, saC⟩, nTC, nUC, gRatio, haC, hnO, htO, hmC, kit_int hdC tyC siC⟩
  have FI : FunD K "__init__" "Ratio.__init__" (defArgs s_Ratio_init) (defBody s_Ratio_init) (defScope s_Ratio_init) [.int 1] [] fRatio_init _ := ⟨⟨_, _, _, _, _, _, _, _, _, _, rfl, lRatio_init, cRatio_init, .inr ⟨(by intro e; cases e), tD, _, [Value.int 1 tkD], nD, rfl, lD, rfl, .cons ⟨_, rfl⟩ .nil⟩, .inl rfl⟩, kRatio_init⟩
  have hgcd := PySem.W.mg_of X G aGcd
  have gLotError := PySem.W.mg_of X G aLE
  have gBadNumber := PySem.W.mg_of X G aBN
  have rBN : PySem.HandSPX.refsVE [.ref LE, .type "ValueError", .type "Exception", .type "BaseException", .type "object"] = true := (show PySem.HandSPX.refsVE [.type "ValueError", .type "Exception", .type "BaseException", .type "object"] = true by decide +kernel)
  have TB : BnC K mg BN := ⟨⟨⟨nmE, qE, NE, bsE, _, snE, subE, abE, colE, ddE, mE0, mE1, mE2, mE3, mE5, xBN, rBN⟩, saBN, beBN, teBN, keBN⟩, gBadNumber, fnBN, fvBN, ⟨geBN, ggBN, beBN, hdBN, hcBN, hnO, htO, hoBN⟩, seBN⟩
  have FB := fun_mk (st := s_BadNumber_init) lBadNumber_init cBadNumber_init kBadNumber_init
  have bB := FB.binds (ps := ["self", "name", "value"]) fun _ _ _ _ _ _ us hl => match us, hl with | [_, _, _], _ => rfl
  have gZeroUnder := PySem.W.mg_of X G aZU
  have TZU : ExC K mg "ZeroUnder" ZU := ⟨xZU, gZeroUnder, keZU, beZU, teZU, seZU, ⟨geZU, ggZU, beZU, hdZU, hcZU, hnO, htO, hoZU⟩⟩
  have gNoPlace := PySem.W.mg_of X G aNP
  have TNP : ExC K mg "NoPlace" NP := ⟨xNP, gNoPlace, keNP, beNP, teNP, seNP, ⟨geNP, ggNP, beNP, hdNP, hcNP, hnO, htO, hoNP⟩⟩
  have gRun := PySem.W.mg_of X G aD
  have TD : RunC K mg D := ⟨⟨pgD, hdD, poD, saD⟩, n1D, n2D, n3D, gRun, haD, hnO, htO, hmD⟩
  have gMS := PySem.W.mg_of X G aMS
  have FRun_init := fun_mk (st := s_Run_init) lRun_init cRun_init kRun_init
  have bRun_init := FRun_init.binds (ps := ["self", "first", "step", "count"]) fun _ _ _ _ _ _ us hl => match us, hl with | [_, _, _, _], _ => rfl
  have FRun_last := fun_mk (st := s_Run_last) lRun_last cRun_last kRun_last
  have bRun_last := FRun_last.binds (ps := ["self"]) fun _ _ _ _ _ _ us hl => match us, hl with | [_], _ => rfl
  have PRun_last : PropOf K D "last" pRun_last gRun_last := ⟨q1Run_last, q2Run_last, q3Run_last, _, q4Run_last⟩
  have FRun_mean := fun_mk (st := s_Run_mean) lRun_mean cRun_mean kRun_mean
  have bRun_mean := FRun_mean.binds (ps := ["self"]) fun _ _ _ _ _ _ us hl => match us, hl with | [_], _ => rfl
  have PRun_mean : PropOf K D "mean" pRun_mean gRun_mean := ⟨q1Run_mean, q2Run_mean, q3Run_mean, _, q4Run_mean⟩
  have CRD : ClX.CRead K D (.type "type") := ⟨rdD, gatD⟩
  have FRun_point := fun_mk (st := s_Run_point) lRun_point cRun_point kRun_point
  have bRun_point := FRun_point.binds (ps := ["cls", "k"]) fun _ _ _ _ _ _ us hl => match us, hl with | [_, _], _ => rfl
  have CMRun_point : ClX.CMet K D (.type "type") "point" pRun_point gRun_point := ⟨q1Run_point, ⟨_, q2Run_point⟩, q3Run_point⟩
  have FRun_odd := fun_mk (st := s_Run_odd) lRun_odd cRun_odd kRun_odd
  have bRun_odd := FRun_odd.binds (ps := ["cls", "m"]) fun _ _ _ _ _ _ us hl => match us, hl with | [_, _], _ => rfl
  have CMRun_odd : ClX.CMet K D (.type "type") "odd" pRun_odd gRun_odd := ⟨q1Run_odd, ⟨_, q2Run_odd⟩, q3Run_odd⟩
  have FRun_even := fun_mk (st := s_Run_even) lRun_even cRun_even kRun_even
  have bRun_even := FRun_even.binds (ps := ["cls", "m"]) fun _ _ _ _ _ _ us hl => match us, hl with | [_, _], _ => rfl
  have CMRun_even : ClX.CMet K D (.type "type") "even" pRun_even gRun_even := ⟨q1Run_even, ⟨_, q2Run_even⟩, q3Run_even⟩
  have FRun_between := fun_mk (st := s_Run_between) lRun_between cRun_between kRun_between
  have bRun_between := FRun_between.binds (ps := ["cls", "low", "high"]) fun _ _ _ _ _ _ us hl => match us, hl with | [_, _, _], _ => rfl
  have CMRun_between : ClX.CMet K D (.type "type") "between" pRun_between gRun_between := ⟨q1Run_between, ⟨_, q2Run_between⟩, q3Run_between⟩
  have FRun_add := fun_mk (st := s_Run_add) lRun_add cRun_add kRun_add
  have bRun_add := FRun_add.binds (ps := ["self", "other"]) fun _ _ _ _ _ _ us hl => match us, hl with | [_, _], _ => rfl
  have FRun_eq := fun_mk (st := s_Run_eq) lRun_eq cRun_eq kRun_eq
  have bRun_eq := FRun_eq.binds (ps := ["self", "other"]) fun _ _ _ _ _ _ us hl => match us, hl with | [_, _], _ => rfl
  have FRun_parted := fun_mk (st := s_Run_parted) lRun_parted cRun_parted kRun_parted
  have bRun_parted := FRun_parted.binds (ps := ["self", "n"]) fun _ _ _ _ _ _ us hl => match us, hl with | [_, _], _ => rfl
  have Fpool := fun_mk (st := s_pool) lpool cpool kpool
  have Dpool : Dfn K mg "_law_pool" "_law_pool" s_pool ["_law_script"] := ⟨fpool, _, Fpool, PySem.W.mg_of X G apool, Fpool.binds (ps := ["_law_script"]) fun _ _ _ _ _ _ us hl => match us, hl with | [_], _ => rfl⟩
  have Fmix := fun_mk (st := s_mix) lmix cmix kmix
  have Dmix : Dfn K mg "_law_mix" "_law_mix" s_mix ["_law_state", "_law_turn", "_law_many"] := ⟨fmix, _, Fmix, PySem.W.mg_of X G amix, Fmix.binds (ps := ["_law_state", "_law_turn", "_law_many"]) fun _ _ _ _ _ _ us hl => match us, hl with | [_, _, _], _ => rfl⟩
  have Fdraw := fun_mk (st := s_draw) ldraw cdraw kdraw
  have Ddraw : Dfn K mg "_law_draw" "_law_draw" s_draw ["_law_pool_here", "_law_many"] := ⟨fdraw, _, Fdraw, PySem.W.mg_of X G adraw, Fdraw.binds (ps := ["_law_pool_here", "_law_many"]) fun _ _ _ _ _ _ us hl => match us, hl with | [_, _], _ => rfl⟩
  have Fwide := fun_mk (st := s_wide) lwide cwide kwide
  have Dwide : Dfn K mg "_law_wide" "_law_wide" s_wide ["_law_pool_here"] := ⟨fwide, _, Fwide, PySem.W.mg_of X G awide, Fwide.binds (ps := ["_law_pool_here"]) fun _ _ _ _ _ _ us hl => match us, hl with | [_], _ => rfl⟩
  have Fsigned := fun_mk (st := s_signed) lsigned csigned ksigned
  have Dsigned : Dfn K mg "_law_signed" "_law_signed" s_signed ["_law_pool_here"] := ⟨fsigned, _, Fsigned, PySem.W.mg_of X G asigned, Fsigned.binds (ps := ["_law_pool_here"]) fun _ _ _ _ _ _ us hl => match us, hl with | [_], _ => rfl⟩
  have Fany := fun_mk (st := s_any) lany cany kany
  have Dany : Dfn K mg "_law_any" "_law_any" s_any ["_law_pool_here"] := ⟨fany, _, Fany, PySem.W.mg_of X G aany, Fany.binds (ps := ["_law_pool_here"]) fun _ _ _ _ _ _ us hl => match us, hl with | [_], _ => rfl⟩
  have Fwhole := fun_mk (st := s_whole) lwhole cwhole kwhole
  have Dwhole : Dfn K mg "_law_whole" "_law_whole" s_whole ["_law_actual"] := ⟨fwhole, _, Fwhole, PySem.W.mg_of X G awhole, Fwhole.binds (ps := ["_law_actual"]) fun _ _ _ _ _ _ us hl => match us, hl with | [_], _ => rfl⟩
  have Fratio := fun_mk (st := s_ratio) lratio cratio kratio
  have Dratio : Dfn K mg "_law_ratio" "_law_ratio" s_ratio ["_law_actual"] := ⟨fratio, _, Fratio, PySem.W.mg_of X G aratio, Fratio.binds (ps := ["_law_actual"]) fun _ _ _ _ _ _ us hl => match us, hl with | [_], _ => rfl⟩
  have Fsame := fun_mk (st := s_same) lsame csame ksame
  have Dsame : Dfn K mg "_law_same" "_law_same" s_same ["_law_actual", "_law_due_here"] := ⟨fsame, _, Fsame, PySem.W.mg_of X G asame, Fsame.binds (ps := ["_law_actual", "_law_due_here"]) fun _ _ _ _ _ _ us hl => match us, hl with | [_, _], _ => rfl⟩
  have Fgreat_run := fun_mk (st := s_great_run) lgreat_run cgreat_run kgreat_run
  have Dgreat_run : Dfn K mg "_law_great_run" "_law_great_run" s_great_run ["_law_pool_here"] := ⟨fgreat_run, _, Fgreat_run, PySem.W.mg_of X G agreat_run, Fgreat_run.binds (ps := ["_law_pool_here"]) fun _ _ _ _ _ _ us hl => match us, hl with | [_], _ => rfl⟩
  have Fheld := fun_mk (st := s_held) lheld cheld kheld
  have Dheld : Dfn K mg "_law_held" "_law_held" s_held ["_law_run", "_law_row"] := ⟨fheld, _, Fheld, PySem.W.mg_of X G aheld, Fheld.binds (ps := ["_law_run", "_law_row"]) fun _ _ _ _ _ _ us hl => match us, hl with | [_, _], _ => rfl⟩
  have Fplain := fun_mk (st := s_plain) lplain cplain kplain
  have Dplain : Dfn K mg "_law_plain" "_law_plain" s_plain ["_law_row"] := ⟨fplain, _, Fplain, PySem.W.mg_of X G aplain, Fplain.binds (ps := ["_law_row"]) fun _ _ _ _ _ _ us hl => match us, hl with | [_], _ => rfl⟩
  have Fdue := fun_mk (st := s_due) ldue cdue kdue
  have Ddue : Dfn K mg "_law_due" "_law_due" s_due ["_law_row"] := ⟨fdue, _, Fdue, PySem.W.mg_of X G adue, Fdue.binds (ps := ["_law_row"]) fun _ _ _ _ _ _ us hl => match us, hl with | [_], _ => rfl⟩
  have Fmeets := fun_mk (st := s_meets) lmeets cmeets kmeets
  have Dmeets : Dfn K mg "_law_meets" "_law_meets" s_meets ["_law_found", "_law_due_here"] := ⟨fmeets, _, Fmeets, PySem.W.mg_of X G ameets, Fmeets.binds (ps := ["_law_found", "_law_due_here"]) fun _ _ _ _ _ _ us hl => match us, hl with | [_, _], _ => rfl⟩
  have Fmade := fun_mk (st := s_made) lmade cmade kmade
  have Dmade : Dfn K mg "_law_made" "_law_made" s_made ["_law_way", "_law_m", "_law_high"] := ⟨fmade, _, Fmade, PySem.W.mg_of X G amade, Fmade.binds (ps := ["_law_way", "_law_m", "_law_high"]) fun _ _ _ _ _ _ us hl => match us, hl with | [_, _, _], _ => rfl⟩
  have Fnamed := fun_mk (st := s_named) lnamed cnamed knamed
  have Dnamed : Dfn K mg "_law_named" "_law_named" s_named ["_law_pool_here"] := ⟨fnamed, _, Fnamed, PySem.W.mg_of X G anamed, Fnamed.binds (ps := ["_law_pool_here"]) fun _ _ _ _ _ _ us hl => match us, hl with | [_], _ => rfl⟩
  have Fmoved := fun_mk (st := s_moved) lmoved cmoved kmoved
  have Dmoved : Dfn K mg "_law_moved" "_law_moved" s_moved ["_law_run", "_law_move"] := ⟨fmoved, _, Fmoved, PySem.W.mg_of X G amoved, Fmoved.binds (ps := ["_law_run", "_law_move"]) fun _ _ _ _ _ _ us hl => match us, hl with | [_, _], _ => rfl⟩
  have Falike := fun_mk (st := s_alike) lalike calike kalike
  have Dalike : Dfn K mg "_law_alike" "_law_alike" s_alike ["_law_run", "_law_row"] := ⟨falike, _, Falike, PySem.W.mg_of X G aalike, Falike.binds (ps := ["_law_run", "_law_row"]) fun _ _ _ _ _ _ us hl => match us, hl with | [_, _], _ => rfl⟩
  have Fcut := fun_mk (st := s_cut) lcut ccut kcut
  have Dcut : Dfn K mg "_law_cut" "_law_cut" s_cut ["_law_run", "_law_n"] := ⟨fcut, _, Fcut, PySem.W.mg_of X G acut, Fcut.binds (ps := ["_law_run", "_law_n"]) fun _ _ _ _ _ _ us hl => match us, hl with | [_, _], _ => rfl⟩
  have Fparted := fun_mk (st := s_parted) lparted cparted kparted
  have Dparted : Dfn K mg "_law_parted" "_law_parted" s_parted ["_law_pool_here", "_law_run", "_law_row"] := ⟨fparted, _, Fparted, PySem.W.mg_of X G aparted, Fparted.binds (ps := ["_law_pool_here", "_law_run", "_law_row"]) fun _ _ _ _ _ _ us hl => match us, hl with | [_, _, _], _ => rfl⟩
  have Flaw := fun_mk (st := s_law) llaw claw klaw
  refine ⟨PySem.W.fnOf "law" "law" (defArgs s_law) (defBody s_law) (defScope s_law) .none kVlaw dclaw pmlaw anlaw cdlaw ctlaw, fun s v => .of_eq rfl, fun base _ _ => ?_⟩
  have CE : CalE l.prog w K mg base 1 BN := ⟨_, _, aBadNumber_init, tBadNumber_init, ok_bn TB FB, bB⟩
  have ⟨M2, M1⟩ := mk_ratio (P := l.prog) (w := w) (base := base) B hgcd T TZU ⟨mkC, aRatio_init, iRatio_init, kcC⟩ FI
  have MR : CalRun l.prog w K mg base D BN := ⟨_, _, [], ⟨mkD, aRun_init, iRun_init, kcD⟩, ok_run_init B TD TB CE gMS FRun_init, gRun, bRun_init, .nil⟩
  have CL : CalP l.prog w K mg base 1 D "last" (spLast D) := ⟨_, _, _, PRun_last, ok_last TD FRun_last, bRun_last⟩
  have CMean : CalP l.prog w K mg base 3 D "mean" (spMean C D) := ⟨_, _, _, PRun_mean, ok_mean TD CL M2 FRun_mean, bRun_mean⟩
  have Cpoint : Bx.CalCM l.prog w K mg base 5 D "point" ["cls", "k"] (spPoint D BN) := ⟨_, _, _, _, CRD, CMRun_point, ok_point MR FRun_point, bRun_point⟩
  have Codd : Bx.CalCM l.prog w K mg base 5 D "odd" ["cls", "m"] (spOdd D BN) := ⟨_, _, _, _, CRD, CMRun_odd, ok_odd MR FRun_odd, bRun_odd⟩
  have Ceven : Bx.CalCM l.prog w K mg base 5 D "even" ["cls", "m"] (spEven D BN) := ⟨_, _, _, _, CRD, CMRun_even, ok_even MR FRun_even, bRun_even⟩
  have Cbetween : Bx.CalCM l.prog w K mg base 5 D "between" ["cls", "low", "high"] (spBetween D BN) := ⟨_, _, _, _, CRD, CMRun_between, ok_between MR FRun_between, bRun_between⟩
  have ADD : Bx.OwnX l.prog w K mg base 5 D (PySem.dunder (Operator.info .Add).2) ["self", "other"] (spAdd D BN) := ⟨_, _, (by rw [show PySem.dunder (Operator.info .Add).2 = ("__add__" : Str) from by decide +kernel]; exact aRun_add), iRun_add, kRun_add, ok_add B TD MR FRun_add, bRun_add⟩
  have rADD : PySem.W.findIn K (.ref D) (dunderR (Operator.info .Add).2) = some none := (by rw [show dunderR (Operator.info .Add).2 = ("__radd__" : Str) from by decide +kernel]; exact zrADD)
  have iADD : PySem.W.findIn K (.type "int") (PySem.dunder (Operator.info .Add).2) = some (some (.builtin "int.__add__")) := (by rw [show PySem.dunder (Operator.info .Add).2 = ("__add__" : Str) from by decide +kernel]; exact ziADD)
  have jADD : PySem.W.findIn K (.type "int") (dunderR (Operator.info .Add).2) = some (some (.builtin "int.__radd__")) := (by rw [show dunderR (Operator.info .Add).2 = ("__radd__" : Str) from by decide +kernel]; exact zjADD)
  have EQ : Bx.OpOwn l.prog w K mg base 1 D (cmpInfo .Eq).2.1 ["self", "other"] (spEq D) := ⟨_, _, aRun_eq, iRun_eq, ok_eq B TD FRun_eq, bRun_eq⟩
  have PART : Bx.OwnX l.prog w K mg base 5 D "parted" ["self", "n"] (spParted D NP) := ⟨_, _, aRun_parted, iRun_parted, kRun_parted, ok_parted TD TNP MR FRun_parted, bRun_parted⟩
  have cmix := ok_mix (P := l.prog) (w := w) (base := base) B Dmix
  have cdraw := ok_draw B Ddraw cmix
  have cwide := ok_wide B Dwide cdraw
  have cany := ok_any B Dany cdraw cwide
  have cpool := ok_pool (P := l.prog) (w := w) (base := base) B Dpool
  have cwhole := ok_whole (P := l.prog) (w := w) (base := base) B Dwhole
  have csigned := ok_signed B Dsigned cdraw cwide
  have kL := kit_own hdLE teLE sBNLE seBN
  have kV := kit_type kmV veBN
  have cratio := ok_ratio B T Dratio cwhole
  have csame := ok_same B T Dsame cratio
  have cgr := ok_great_run B Dgreat_run cdraw cany
  have cheld := ok_held B TD Dheld cwhole
  have cplain := ok_plain (P := l.prog) (w := w) (base := base) Dplain
  have cdue := ok_due cplain Ddue
  have cmeets := ok_meets B cheld Dmeets
  have cmade := ok_made B TD TB kL kV gLotError Cpoint Codd Ceven Cbetween Dmade
  have cmoved := ok_moved B TD TB kL kV gLotError ADD hSFD rADD (.inl rfl) iADD jADD siD Dmoved
  have calike := ok_alike B TD MR Cpoint EQ Dalike
  have cnamed := ok_named B cdraw cwide cany cmade cdue cmeets Dnamed
  have ccut := ok_cut B TD TNP gLotError gBadNumber (kit_own hdLE teLE sNPLE seNP) (kit_type kmV veNP) (kit_own hdBN teBN sNPBN seNP) PART Dcut
  have cparted := ok_partedL B hTup cwide cany ccut cplain cheld Dparted
  exact ok_law B TD Flaw MR CL CMean cpool cnamed cgr cheld cwhole csame csigned cmoved cdue cmeets calike cparted
end L

set_option Elab.async false

set_option pp.maxSteps 160
set_option pp.deepTerms false
open PySem PySem.W PyProof.Rows
set_option maxRecDepth 100000 in
set_option maxHeartbeats 0 in
theorem PySem.Challenge.cw_fieldlots_k08_named_runs_holds : PySem.Challenge.rw_fieldlots_k08_named_runs.Holds := by
  w_on; o_law; k_head; (case hw => w_witness2)
  k_fill
  refine L2.walk_of (l := PySem.Challenge.rw_fieldlots_k08_named_runs) (n := 63) (k := 8) (x := "_law_script") (CX := fun _ => L2.CX0) (sp := fun w => L.spLaw _) rfl (by decide) rfl ⟨rfl, by decide, by decide⟩ (fun w h Y => PySem.W.kIn_of Y) ?F (fun _ _ a ns hl _ hS => ⟨a, ns, rfl, hS, hl, fun _ => rfl⟩) (fun _ _ _ _ _ h => h)
  case F =>
    intro w mg fa h KX G hmg
    refine' L.all_mk KX G hmg ?zlen ?zint ?zabs ?zrange ?zisinstance ?zmax ?zmin ?zsum ?zstr ?zbool ?zlist ?zValueError ?ztuple ?aC ?pgC ?hdC ?poC ?saC ?mkC ?kcC ?nTC ?nUC ?haC ?hnO ?htO ?hmC ?siC ?tyC ?aRatio_init ?iRatio_init ?lRatio_init ?cRatio_init ?kRatio_init ?lD ?aGcd ?aLE ?hdLE ?teLE ?aBN ?xBN ?saBN ?keBN ?beBN ?teBN ?seBN ?geBN ?ggBN ?hdBN ?hcBN ?hoBN ?veBN ?fnBN ?fvBN ?aBadNumber_init ?tBadNumber_init ?lBadNumber_init ?cBadNumber_init ?kBadNumber_init ?sBNLE ?kmV ?aZU ?xZU ?keZU ?beZU ?teZU ?seZU ?geZU ?ggZU ?hdZU ?hcZU ?hoZU ?veZU ?aNP ?xNP ?keNP ?beNP ?teNP ?seNP ?geNP ?ggNP ?hdNP ?hcNP ?hoNP ?veNP ?sNPLE ?sNPBN ?aD ?pgD ?hdD ?poD ?saD ?mkD ?kcD ?n1D ?n2D ?n3D ?haD ?hmD ?aMS ?aRun_init ?iRun_init ?lRun_init ?cRun_init ?kRun_init ?q1Run_last ?q2Run_last ?q3Run_last ?q4Run_last ?lRun_last ?cRun_last ?kRun_last ?q1Run_mean ?q2Run_mean ?q3Run_mean ?q4Run_mean ?lRun_mean ?cRun_mean ?kRun_mean ?rdD ?gatD ?q1Run_point ?q2Run_point ?q3Run_point ?lRun_point ?cRun_point ?kRun_point ?q1Run_odd ?q2Run_odd ?q3Run_odd ?lRun_odd ?cRun_odd ?kRun_odd ?q1Run_even ?q2Run_even ?q3Run_even ?lRun_even ?cRun_even ?kRun_even ?q1Run_between ?q2Run_between ?q3Run_between ?lRun_between ?cRun_between ?kRun_between ?aRun_add ?iRun_add ?lRun_add ?cRun_add ?kRun_add ?aRun_eq ?iRun_eq ?lRun_eq ?cRun_eq ?kRun_eq ?aRun_parted ?iRun_parted ?lRun_parted ?cRun_parted ?kRun_parted ?hSFD ?zrADD ?ziADD ?zjADD ?siD ?apool ?lpool ?cpool ?kpool ?amix ?lmix ?cmix ?kmix ?adraw ?ldraw ?cdraw ?kdraw ?awide ?lwide ?cwide ?kwide ?asigned ?lsigned ?csigned ?ksigned ?aany ?lany ?cany ?kany ?awhole ?lwhole ?cwhole ?kwhole ?aratio ?lratio ?cratio ?kratio ?asame ?lsame ?csame ?ksame ?agreat_run ?lgreat_run ?cgreat_run ?kgreat_run ?aheld ?lheld ?cheld ?kheld ?aplain ?lplain ?cplain ?kplain ?adue ?ldue ?cdue ?kdue ?ameets ?lmeets ?cmeets ?kmeets ?amade ?lmade ?cmade ?kmade ?anamed ?lnamed ?cnamed ?knamed ?amoved ?lmoved ?cmoved ?kmoved ?aalike ?lalike ?calike ?kalike ?acut ?lcut ?ccut ?kcut ?aparted ?lparted ?cparted ?kparted ?alaw ?llaw ?claw ?klaw
    (case zlen => k_is)
    (case zint => k_is)
    (case zabs => k_is)
    (case zrange => k_is)
    (case zisinstance => k_is)
    (case zmax => k_is)
    (case zmin => k_is)
    (case zsum => k_is)
    (case zstr => k_is)
    (case zbool => k_is)
    (case zlist => k_is)
    (case zValueError => k_is)
    (case ztuple => k_is)
    (case aC => k_is)
    (case pgC => k_is)
    (case hdC => k_is)
    (case poC => k_is)
    (case saC => k_is)
    (case mkC => k_is)
    (case kcC => k_is)
    (case nTC => k_is)
    (case nUC => k_is)
    (case haC => k_is)
    (case hnO => k_is)
    (case htO => k_is)
    (case hmC => k_is)
    (case siC => k_is)
    (case tyC => k_is)
    (case aRatio_init => k_is)
    (case iRatio_init => k_is)
    (case lRatio_init => k_is)
    (case cRatio_init => k_is)
    (case kRatio_init => k_is)
    (case lD => k_is)
    (case aGcd => k_is)
    (case aLE => k_is)
    (case hdLE => k_is)
    (case teLE => k_is)
    (case aBN => k_is)
    (case xBN => k_is)
    (case saBN => k_is)
    (case keBN => k_is)
    (case beBN => k_is)
    (case teBN => k_is)
    (case seBN => k_is)
    (case geBN => k_is)
    (case ggBN => k_is)
    (case hdBN => k_is)
    (case hcBN => k_is)
    (case hoBN => k_is)
    (case veBN => k_is)
    (case fnBN => k_is)
    (case fvBN => k_is)
    (case aBadNumber_init => k_is)
    (case tBadNumber_init => k_is)
    (case lBadNumber_init => k_is)
    (case cBadNumber_init => k_is)
    (case kBadNumber_init => k_is)
    (case sBNLE => k_is)
    (case kmV => decide +kernel)
    (case aZU => k_is)
    (case xZU => k_exc)
    (case keZU => k_is)
    (case beZU => k_is)
    (case teZU => k_is)
    (case seZU => k_is)
    (case geZU => k_is)
    (case ggZU => k_is)
    (case hdZU => k_is)
    (case hcZU => k_is)
    (case hoZU => k_is)
    (case veZU => k_is)
    (case aNP => k_is)
    (case xNP => k_exc)
    (case keNP => k_is)
    (case beNP => k_is)
    (case teNP => k_is)
    (case seNP => k_is)
    (case geNP => k_is)
    (case ggNP => k_is)
    (case hdNP => k_is)
    (case hcNP => k_is)
    (case hoNP => k_is)
    (case veNP => k_is)
    (case sNPLE => k_is)
    (case sNPBN => k_is)
    (case aD => k_is)
    (case pgD => k_is)
    (case hdD => k_is)
    (case poD => k_is)
    (case saD => k_is)
    (case mkD => k_is)
    (case kcD => k_is)
    (case n1D => k_is)
    (case n2D => k_is)
    (case n3D => k_is)
    (case haD => k_is)
    (case hmD => k_is)
    (case aMS => k_is)
    (case aRun_init => k_is)
    (case iRun_init => k_is)
    (case lRun_init => k_is)
    (case cRun_init => k_is)
    (case kRun_init => k_is)
    (case q1Run_last => k_is)
    (case q2Run_last => k_is)
    (case q3Run_last => k_is)
    (case q4Run_last => k_is)
    (case lRun_last => k_is)
    (case cRun_last => k_is)
    (case kRun_last => k_is)
    (case q1Run_mean => k_is)
    (case q2Run_mean => k_is)
    (case q3Run_mean => k_is)
    (case q4Run_mean => k_is)
    (case lRun_mean => k_is)
    (case cRun_mean => k_is)
    (case kRun_mean => k_is)
    (case rdD => k_is)
    (case gatD => k_is)
    (case q1Run_point => k_is)
    (case q2Run_point => k_is)
    (case q3Run_point => k_is)
    (case lRun_point => k_is)
    (case cRun_point => k_is)
    (case kRun_point => k_is)
    (case q1Run_odd => k_is)
    (case q2Run_odd => k_is)
    (case q3Run_odd => k_is)
    (case lRun_odd => k_is)
    (case cRun_odd => k_is)
    (case kRun_odd => k_is)
    (case q1Run_even => k_is)
    (case q2Run_even => k_is)
    (case q3Run_even => k_is)
    (case lRun_even => k_is)
    (case cRun_even => k_is)
    (case kRun_even => k_is)
    (case q1Run_between => k_is)
    (case q2Run_between => k_is)
    (case q3Run_between => k_is)
    (case lRun_between => k_is)
    (case cRun_between => k_is)
    (case kRun_between => k_is)
    (case aRun_add => k_is)
    (case iRun_add => k_is)
    (case lRun_add => k_is)
    (case cRun_add => k_is)
    (case kRun_add => k_is)
    (case aRun_eq => k_is)
    (case iRun_eq => k_is)
    (case lRun_eq => k_is)
    (case cRun_eq => k_is)
    (case kRun_eq => k_is)
    (case aRun_parted => k_is)
    (case iRun_parted => k_is)
    (case lRun_parted => k_is)
    (case cRun_parted => k_is)
    (case kRun_parted => k_is)
    (case hSFD => k_is)
    (case zrADD => k_is)
    (case ziADD => k_is)
    (case zjADD => k_is)
    (case siD => k_is)
    (case apool => k_is)
    (case lpool => k_is)
    (case cpool => k_is)
    (case kpool => k_is)
    (case amix => k_is)
    (case lmix => k_is)
    (case cmix => k_is)
    (case kmix => k_is)
    (case adraw => k_is)
    (case ldraw => k_is)
    (case cdraw => k_is)
    (case kdraw => k_is)
    (case awide => k_is)
    (case lwide => k_is)
    (case cwide => k_is)
    (case kwide => k_is)
    (case asigned => k_is)
    (case lsigned => k_is)
    (case csigned => k_is)
    (case ksigned => k_is)
    (case aany => k_is)
    (case lany => k_is)
    (case cany => k_is)
    (case kany => k_is)
    (case awhole => k_is)
    (case lwhole => k_is)
    (case cwhole => k_is)
    (case kwhole => k_is)
    (case aratio => k_is)
    (case lratio => k_is)
    (case cratio => k_is)
    (case kratio => k_is)
    (case asame => k_is)
    (case lsame => k_is)
    (case csame => k_is)
    (case ksame => k_is)
    (case agreat_run => k_is)
    (case lgreat_run => k_is)
    (case cgreat_run => k_is)
    (case kgreat_run => k_is)
    (case aheld => k_is)
    (case lheld => k_is)
    (case cheld => k_is)
    (case kheld => k_is)
    (case aplain => k_is)
    (case lplain => k_is)
    (case cplain => k_is)
    (case kplain => k_is)
    (case adue => k_is)
    (case ldue => k_is)
    (case cdue => k_is)
    (case kdue => k_is)
    (case ameets => k_is)
    (case lmeets => k_is)
    (case cmeets => k_is)
    (case kmeets => k_is)
    (case amade => k_is)
    (case lmade => k_is)
    (case cmade => k_is)
    (case kmade => k_is)
    (case anamed => k_is)
    (case lnamed => k_is)
    (case cnamed => k_is)
    (case knamed => k_is)
    (case amoved => k_is)
    (case lmoved => k_is)
    (case cmoved => k_is)
    (case kmoved => k_is)
    (case aalike => k_is)
    (case lalike => k_is)
    (case calike => k_is)
    (case kalike => k_is)
    (case acut => k_is)
    (case lcut => k_is)
    (case ccut => k_is)
    (case kcut => k_is)
    (case aparted => k_is)
    (case lparted => k_is)
    (case cparted => k_is)
    (case kparted => k_is)
    (case alaw => k_is)
    (case llaw => k_is)
    (case claw => k_is)
    (case klaw => k_is)
