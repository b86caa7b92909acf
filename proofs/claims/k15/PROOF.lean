import PyProof.Rows.All
import Wide.All
import OpenK.AllK
import Wide.FinOn
import PyProof.NoPylong
import HandS.ForMost
import HandS.ForExc
import HandS.Wide
import HandS.Gcd
import HandS.IsInst
import HandS.ExcIs
import HandS.Property
import HandS.Defaults
import HandS.CallSlots
import HandS.ExcInit
import HandS.ExcField
import PyProof.ExcClass
import HandS.HeadHook1
import HandS.HeadHook2
import KE.KStateDown
import HandS.Head0
import HandS.Head1
import HandS.Head2
import KE.KOpsOwn
import HandS.ClsMeth
import HandS.Evl
import KE.KCallOwn
import KE.KFmtOwn
import HandS.FStr
import PyProof.Rows.Range3
import HandS.Zip
import HandS.IterVal
import HandS.Head3
import HandS.HeadEnd
import PySem.Challenge.RW_fieldlots_k15_meet_is_the_average
set_option Elab.async false
set_option linter.all false
set_option maxRecDepth 100000
namespace Fl
open PySem PySem.Spec PyProof.Rows L2
/-! ### calls by a promise that names no address -/
structure Cal (P : Program) (w : World) (K : PySem.W.Frag) (mg : Str → Option Value) (base : Heap) (k : Nat) (x : Str) (ps : List Str) (sp : Sp) : Prop where
  ex : ∃ (f : Addr) (fd : FuncData), FnOk P w K mg base CX0 k f fd ps sp ∧ mg x = some (.ref f) ∧ PySem.W.keepIn K (.ref f) = true ∧ Binds K fd ps []
structure Dfn (K : PySem.W.Frag) (mg : Str → Option Value) (x qual : Str) (st : Stmt) (ps : List Str) : Prop where
  ex : ∃ (f : Addr) (fd : FuncData), Fun K x qual st f fd ∧ mg x = some (.ref f) ∧ Binds K fd ps []
section
variable {P : Program} {w : World} {K : PySem.W.Frag} {mg : Str → Option Value} {base : Heap}
theorem Dfn.cal {x qual : Str} {st : Stmt} {N ps : List Str} {k : Nat} {sp : Sp} (D : Dfn K mg x qual st ps) (S : FnScope N ps (defScope st)) (len : ∀ vs H Q E, sp vs H Q E → vs.length = ps.length)
    (hbody : ∀ (f : Addr) (cdv : Value) (A : Around) (outer : List Env) (s : Shared) (H : Hp) (vs : List V) (Q : VK) (E : XK), Room k (A.deeper (envOfC qual (defScope st) s.heap.objs.size f cdv)) → sp vs H Q E →
      ∃ t, PSs (cxOf CX0 P w K mg base N qual (defScope st) f cdv A outer s H E).nox (defBody st) t ∧ t { nx := fun _ H' => Q .non H', rt := Q } (start N vs) H) : Cal P w K mg base (k + 1) x ps sp := by
  obtain ⟨f, fd, F, m, b⟩ := D.ex
  exact ⟨f, fd, F.ok S len (hbody f), m, F.kp, b⟩
theorem Cal.mono {j k : Nat} {x : Str} {ps : List Str} {sp : Sp} (C : Cal P w K mg base j x ps sp) (h : j ≤ k) : Cal P w K mg base k x ps sp := by
  obtain ⟨f, fd, F, m, kp, b⟩ := C.ex
  exact ⟨f, fd, F.mono h, m, kp, b⟩
end
theorem pe_cal {X : Cx} {k : Nat} {x : Str} {ps : List Str} {sp : Sp} {p pos : Pos} {e : Expr} {es : List Expr} {t : TA} (C : Cal X.prog X.w X.K X.mg X.base k x ps sp) (hr : Room k X.A) (ha : PA X (e :: es) t) (hg : Gl X x := by rfl)
    (hdb : (x == ("__debug__" : Str)) = false := by decide) (he : starEach (e :: es) X.env = (false, eval e X.env) :: starEach es X.env := by rfl) (hpl : (backTo pos (starEach es X.env)).any (·.1) = false := by rfl) :
    PE X (.Call (.Name x p) (e :: es) [] pos) (tCall sp [] E0 t) := by
  obtain ⟨f, fd, F, m, kp, b⟩ := C.ex
  exact pe_call F hr hg m kp b .nil pass0 ha hdb he hpl
/-- the built-in names that the text leaves alone -/
structure Blt (mg : Str → Option Value) : Prop where
  len : mg "len" = none
  int : mg "int" = none
  abs : mg "abs" = none
  range : mg "range" = none
  isinstance : mg "isinstance" = none
  max : mg "max" = none
  min : mg "min" = none
  sum : mg "sum" = none
  str : mg "str" = none
  bool : mg "bool" = none
  list : mg "list" = none
  ve : mg "ValueError" = none
/-! ### great numbers -/
def CDivA (_ j : Int) : Prop := j ≠ 0 ∧ j.natAbs.log2 < 9000
theorem op_fdivA {X : Cx} : OpR X (binaryOp .FloorDiv) (rI CDivA fun i j => .int (i.fdiv j)) := opI fun i j _ _ _ _ _ hc q => floordiv_int hc.1 q (.inl (PyProof.noPylong_of_log2 hc.2))
theorem divA {i j : Int} {b : Nat} (h : j ≠ 0) (hb : j.natAbs < 2 ^ b) (h0 : 0 < b) (h9 : b ≤ 9000) : CDivA i j := ⟨h, Nat.lt_of_lt_of_le (PySem.Flt.log2_lt_of h0 hb) h9⟩
/-! ### heaps -/
/-- all that was tracked is as it was, but for p -/
def Keeps (H H' : Hp) (p : Addr) : Prop := ∀ b o, H b = some o → b ≠ p → H' b = some o
theorem Keeps.refl (H : Hp) (p : Addr) : Keeps H H p := fun _ _ h _ => h
theorem Keeps.trans {H H1 H2 : Hp} {p : Addr} (a : Keeps H H1 p) (b : Keeps H1 H2 p) : Keeps H H2 p := fun c o h n => b c o (a c o h n) n
theorem Keeps.upd {H : Hp} {p : Addr} {o : HO} : Keeps H (upd H p o) p := fun b u h n => by rw [upd_ne n]; exact h
theorem same_keeps {H H' : Hp} {p : Addr} (h : Same H H') : Keeps H H' p := fun b o e _ => h b o e
theorem same_upd {H : Hp} {p : Addr} {o : HO} (h : H p = none) : Same H (upd H p o) := fun b u e => by rw [upd_ne (ne_of_none e h)]; exact e
theorem Keeps.free {H H' : Hp} {p l : Addr} (k : Keeps H H' p) (h : H' l = none) (n : l ≠ p) : H l = none := by
  cases q : H l with
  | none => rfl
  | some o =>
    rw [k l o q n] at h
    cases h
theorem ints_at {ns : List Int} {j : Nat} (h : j < ns.length) : (ns.map V.int)[j]? = some (V.int ns[j]) := by
  rw [List.getElem?_map, List.getElem?_eq_getElem h]
  rfl
theorem int_of_map {ns : List Int} {i : Nat} {y : V} (h : (ns.map V.int)[i]? = some y) : ∃ z, ns[i]? = some z ∧ y = V.int z := by
  rw [List.getElem?_map] at h
  cases e : ns[i]? with
  | none => rw [e] at h; cases h
  | some z => rw [e] at h; exact ⟨z, rfl, (Option.some.inj h).symm⟩
/-- where the pool stands: its own list, the script's numbers -/
structure Pla where
  p : Addr
  q : Addr
instance : Coe Pla Addr := ⟨Pla.p⟩
/-- the pool: the script's numbers, how many are taken, what is left of one, a state, the draws -/
def Pool (H : Hp) (p : Pla) : Prop := ∃ (ns : List Int) (i b c d : Int), H p = some (.lst [.ref p.q, .int i, .int b, .int c, .int d]) ∧ H p.q = some (.lst (ns.map V.int)) ∧ 0 ≤ i ∧ p.q ≠ p
theorem Pool.same {H H' : Hp} {p : Pla} (h : Pool H p) (s : Same H H') : Pool H' p := by
  obtain ⟨ns, i, b, c, d, h1, h2, h3, h4⟩ := h
  exact ⟨ns, i, b, c, d, s _ _ h1, s _ _ h2, h3, h4⟩
theorem Pool.upd {H : Hp} {p : Pla} {x : Addr} {o : HO} (h : Pool H p) (hx : H x = none) : Pool (upd H x o) p := h.same (same_upd hx)
theorem Pool.store {H : Hp} {p : Pla} {x : Addr} {o : HO} (h : Pool H p) (hp : x ≠ p) (hq : x ≠ p.q) : Pool (L2.upd H x o) p := by
  obtain ⟨ns, i, b, c, d, h1, h2, h3, h4⟩ := h
  exact ⟨ns, i, b, c, d, by rw [upd_ne (Ne.symm hp)]; exact h1, by rw [upd_ne (Ne.symm hq)]; exact h2, h3, h4⟩
theorem Pool.apart {H : Hp} {p : Pla} {x : Addr} (h : Pool H p) (hx : H x = none) : x ≠ p ∧ x ≠ p.q := by
  obtain ⟨ns, i, b, c, d, h1, h2, _⟩ := h
  exact ⟨Ne.symm (ne_of_none h1 hx), Ne.symm (ne_of_none h2 hx)⟩
/-! ### tests -/
theorem ifD {p : Prop} [Decidable p] {A B : Prop} (h1 : p → A) (h2 : ¬ p → B) : if decide p = true then A else B := by
  by_cases h : p
  · rw [decide_eq_true h]; exact iteT (h1 h)
  · rw [decide_eq_false h]; exact iteF (h2 h)
theorem ifE {a b : Int} {A B : Prop} (h1 : a = b → A) (h2 : a ≠ b → B) : if decide (V.int a = V.int b) = true then A else B :=
  ifD (fun h => h1 (V.int.inj h)) fun h => h2 fun e => h (by rw [e])
theorem ifNE {a b : Int} {A B : Prop} (h1 : a ≠ b → A) (h2 : a = b → B) : if (!decide (V.int a = V.int b)) = true then A else B := by
  by_cases h : a = b
  · rw [decide_eq_true (show V.int a = V.int b by rw [h])]; exact iteF (h2 h)
  · rw [decide_eq_false (show ¬ V.int a = V.int b from fun e => h (V.int.inj e))]; exact iteT (h1 h)
theorem ifN {p : Prop} [Decidable p] {A B : Prop} (h1 : ¬ p → A) (h2 : p → B) : if (!decide p) = true then A else B := by
  by_cases h : p
  · rw [decide_eq_true h]; exact iteF (h2 h)
  · rw [decide_eq_false h]; exact iteT (h1 h)
theorem ifB {c : Bool} {A B : Prop} (h1 : c = true → A) (h2 : c = false → B) : if c = true then A else B := by
  cases c
  · exact iteF (h2 rfl)
  · exact iteT (h1 rfl)
theorem fm (a : Int) {b : Int} (h : 0 < b) : 0 ≤ a.fmod b ∧ a.fmod b < b := ⟨Int.fmod_nonneg_of_pos a h, Int.fmod_lt_of_pos a h⟩
/-! ### Euclid's steps -/
def fibp : Nat → Nat × Nat
  | 0 => (0, 1)
  | n + 1 => match fibp n with | (a, b) => (b, a + b)
def Eu : Nat → Nat → Nat → Prop
  | 0, _, y => y = 0
  | n + 1, x, y => y = 0 ∨ Eu n y (x % y)
theorem eu_mono : ∀ {n x y : Nat}, Eu n x y → Eu (n + 1) x y
  | 0, _, _, h => .inl h
  | _ + 1, _, _, .inl h => .inl h
  | n + 1, _, _, .inr h => .inr (eu_mono (n := n) h)
theorem fibp_step (n : Nat) : (fibp (n + 1)).1 = (fibp n).2 ∧ (fibp (n + 1)).2 = (fibp n).1 + (fibp n).2 := by
  show (match fibp n with | (a, b) => (b, a + b)).1 = _ ∧ (match fibp n with | (a, b) => (b, a + b)).2 = _
  cases fibp n
  exact ⟨rfl, rfl⟩
theorem eu_fib : ∀ (n x y : Nat), (y < (fibp n).2 → Eu n x y) ∧ (y < (fibp (n + 1)).2 → Eu (n + 1) x y) := by
  intro n
  induction n with
  | zero =>
    intro x y
    refine ⟨fun h => ?_, fun h => .inl ?_⟩
    · have h' : y < 1 := h
      show y = 0
      omega
    · have h' : y < 1 := h
      omega
  | succ n ih =>
    intro x y
    refine ⟨(ih x y).2, fun h => ?_⟩
    rw [(fibp_step (n + 1)).2, (fibp_step n).1] at h
    by_cases hy : y = 0
    · exact .inl hy
    refine .inr ?_
    have hr : x % y < y := Nat.mod_lt _ (by omega)
    by_cases hc : x % y < (fibp (n + 1)).2
    · exact (ih y (x % y)).2 hc
    · by_cases h0 : x % y = 0
      · exact .inl h0
      refine .inr ?_
      refine (ih (x % y) (y % (x % y))).1 ?_
      have e : y % (x % y) ≤ y - x % y := by
        rw [Nat.mod_eq_sub_mod (Nat.le_of_lt hr)]
        exact Nat.mod_le _ _
      omega
theorem fib_big : 10 ^ 124 ≤ (fibp 599).2 := by decide +kernel
theorem eu_all {x y : Nat} (h : y < 10 ^ 124) : Eu 599 x y := (eu_fib 599 x y).1 (Nat.lt_of_lt_of_le h fib_big)
end Fl

set_option Elab.async false
set_option linter.all false
set_option maxRecDepth 100000
set_option maxHeartbeats 4000000
namespace Fl
section
open PySem PySem.W PySem.Spec PySem.Calls PyProof.Rows
variable {prog : Program} {w : World} {A : Around} {E : Value → Shared → Prop} {s : Shared} {K : Frag} {x D : Addr} {ox : Obj} {od : Option Obj}
theorem findObj_dataE {C : Addr} {name : Str} {a g : Value} (hc : (clsIn K C).isSome = true) (ha : findIn K (.ref C) name = some (some a)) (hg : specialIn K a "__get__" = some (some g)) (ht : takesIn K a = some true) : findObj K C od name = some (.bind g a) := by
  obtain ⟨cd, hc⟩ := Option.isSome_iff_exists.mp hc
  unfold findObj
  rw [hc, Option.bind_some, ha, Option.bind_some]
  simp [hg, ht]
/-- __class__ of an exception of an own class, with or without a dict of its own -/
theorem kin_classX {Q : Option Value → Shared → Prop} (gAt : findIn K (.ref D) "__getattribute__" = some (some (.builtin "BaseException.__getattribute__"))) (gGt : findIn K (.ref D) "__getattr__" = some none) (sBe : subIn K (.ref D) (.type "BaseException") = some true)
    (dDc : hasDictIn K D = true) (ha : findIn K (.ref D) "__class__" = some (some (.builtin "object.__class__")))
    (hn : specialIn K (.builtin "object.__class__") "__get__" = some (some (.builtin "getset_descriptor.__get__"))) (tTk : takesIn K (.builtin "object.__class__") = some true) (hm : mroIn K D (.type "object") = some true)
    (X : K.In s.heap) (I : InstAt s.heap x ox D od) (h : Q (some (.ref D)) { s with toks := s.toks + 1 }) : wpAny (model prog w) A (getAttr? (.ref x) "__class__") Q E s := by
  have fnd : findObj K D od "__class__" = some (.bind (.builtin "getset_descriptor.__get__") (.builtin "object.__class__")) := findObj_dataE (by obtain ⟨cd, hc, _⟩ := any_some dDc; rw [hc]; rfl) ha hn tTk
  obtain ⟨heap0, g, d, t, os⟩ := s
  have lkT := I.type (M := model prog w)
  have lkG := looks_findIn (M := model prog w) X gAt
  have lkA := looks_findIn (M := model prog w) X gGt
  have lkF := looks_find (M := model prog w) X I fnd
  have isBe : Looks (model prog w) heap0 (isInstance (.ref x) (.type "BaseException")) true := lkT.andThen (looks_subIn X sBe)
  have nb0 : (false && onTheHeap (Value.builtin "BaseException.__getattribute__")) = false := rfl
  have nb2 : (Value.builtin "BaseException.__getattribute__" == Value.builtin "object.__getattribute__") = false := by decide +kernel
  have nb1 : (onTheHeap (Value.ref D) && Value.builtin "BaseException.__getattribute__" == Value.builtin "object.__getattribute__") = false := by rw [nb2]; rfl
  unfold getAttr? getAttrBy? getAttrBy
  refine wpAny_bind (wpAny_mkText (wpAny_bind (wpAny_attempt (wpAny_holding (wpAny_bind (lkT.at (wpAny_bind (lkG.at ?_))))))))
  show wpAny _ _ (if (onTheHeap (Value.ref D) && Value.builtin "BaseException.__getattribute__" == Value.builtin "object.__getattribute__") = true then _ else _) _ _ _
  rw [nb1, if_neg Bool.false_ne_true]
  unfold getAttrByItsOwn hookBefore
  refine wpAny_bind ?_
  rw [if_pos (show onTheHeap (Value.ref D) = true from rfl)]
  refine lkA.at ?_
  refine wpAny_bind (wpAny_attempt (wpAny_holding ?_))
  unfold callGetattribute
  rw [nb0, if_neg Bool.false_ne_true]
  unfold boundAndCalled
  rw [PySem.F.excAttr_ValueError.ga.bind (.ref x)]
  refine wpAny_bind (wpAny_pure ?_)
  show wpAny _ _ (call (.builtin "BaseException.__getattribute__") [.ref x, .str "__class__" t]) _ _ _
  refine wpAny_call (codeAny_call_builtin PySem.F.excAttr_ValueError.ga.plain PySem.F.entry_bexc_ga ?_)
  refine @check_slot (model prog w) _ _ ⟨heap0, g, d, t + 1, os⟩ "BaseException.__getattribute__" "BaseException" "__getattribute__" (.ref x) [.str "__class__" t] [] _ (by decide +kernel) (by decide +kernel) isBe (PySem.F.args_bexc_ga (.ref x) (.str "__class__" t)) ?_
  unfold Builtin.«object.__getattribute__»
  refine wpAny_bind (wpAny_of_eq (a := ((Value.ref x : Value), [Value.str "__class__" t])) (by first | rfl | (simp only [slotArgs]; rfl)) ?_)
  refine wpAny_bind (wpAny_pure (wpAny_bind (lkT.at (wpAny_bind (lkF.at ?_)))))
  show wpAny _ _ (holding [Value.builtin "object.__class__"] (call (.builtin "getset_descriptor.__get__") [.builtin "object.__class__", .ref x, .ref D]) >>= ret) _ _ _
  refine wpAny_bind (wpAny_holding (wpAny_call (class_get (s := ⟨heap0, g, d, t + 1, os⟩) (ox := ox) (od := od) X I hm ?_)))
  refine wpAny_pure ?_
  show wpAny _ _ (handedOut (.ref D)) _ _ _
  rw [handedOut_of (v := .ref D) rfl]
  first
    | exact wpAny_pure (wpAny_pure h)
    | exact wpAny_pure h
    | exact wpAny_pure (wpAny_bind (wpAny_pure (wpAny_pure h)))
theorem kitx_excX (gAt : findIn K (.ref D) "__getattribute__" = some (some (.builtin "BaseException.__getattribute__"))) (gGt : findIn K (.ref D) "__getattr__" = some none) (sBe : subIn K (.ref D) (.type "BaseException") = some true) (dDc : hasDictIn K D = true) (ha : findIn K (.ref D) "__class__" = some (some (.builtin "object.__class__")))
    (hn : specialIn K (.builtin "object.__class__") "__get__" = some (some (.builtin "getset_descriptor.__get__"))) (tTk : takesIn K (.builtin "object.__class__") = some true) (hm : mroIn K D (.type "object") = some true) :
    KitX K (.ref x) (.ref D) (fun h => InstAt h x ox D od) where
  ty := fun _ _ _ I => I.type
  it := fun _ _ X _ => by
    obtain ⟨cdE, hcE, _⟩ := any_some dDc
    unfold clsIn at hcE
    split at hcE
    · rename_i c' d' cd' sl' ho
      intro A' Q' E' s' k q
      unfold isType loadHead
      exact wpAny_bind (wpAny_loadPart (k _ _ (X _ _ ho)) (wpAny_pure q))
    · cases hcE
  ne := fun h tp dd its n sl X htp => by
    obtain ⟨cdE, hcE, _⟩ := any_some dDc
    refine Bool.eq_false_iff.mpr fun q => ?_
    have e : D = tp := Value.ref.inj (beq_iff_eq.mp q)
    subst e
    unfold clsIn at hcE
    split at hcE
    · rename_i c' d' cd' sl' ho
      have z := (X _ _ ho).symm.trans htp
      cases z
    · cases hcE
  ca := fun X I k => kin_classX gAt gGt sBe dDc ha hn tTk hm X I k
end
section
open PySem PySem.Spec PyProof.Rows L2
/-- the caught error at a: of the class D, its dict d -/
def Err (H : Hp) (d : Option Addr) : Prop := d = none ∨ ∃ dd fs, d = some dd ∧ H dd = some (.xd fs)
theorem exc_inst {X : Cx} {a D : Addr} {oe : Obj} {pn pins : List (Addr × Obj)} {d : Option Addr} {σ : L2.St} {H : Hp} {s : Shared} (hz : Zc (.ref D) d oe) (hf : ∃ vs, oe.data = .fields vs) (I : Inv (X.suite a ((a, oe) :: pn)) pins σ H s) (he : Err H d) :
    ∃ od, PySem.W.InstAt s.heap a oe D od := by
  obtain ⟨hget, _⟩ := I.pin (a, oe) (List.mem_append.mpr (.inl List.mem_cons_self))
  obtain ⟨vs, hv⟩ := hf
  obtain ⟨oc, oda, odt, osl⟩ := oe
  obtain ⟨h1, h2⟩ := hz
  dsimp only at h1 h2 hv
  subst h1 h2 hv
  rcases he with rfl | ⟨dd, fs, rfl, hd⟩
  · exact ⟨none, hget, rfl, rfl, trivial⟩
  · have hx : ObjOk X.prog X.w H s.heap dd (.xd fs) := I.hok dd _ hd
    obtain ⟨mA, hns, hr⟩ := hx
    obtain ⟨od, ho, hl⟩ := lookIn_ns hns
    exact ⟨some od, hget, rfl, rfl, ho⟩
def rIsX (K : PySem.W.Frag) (D a : Addr) (cls : Value) (d : Option Addr) : List V → Hp → VK → Prop := fun xs H Q => cls = .ref D ∧ Err H d ∧ ∃ (c : V) (cv : Value) (b : Bool), xs = [.ref a, c] ∧ ClsV c cv ∧ PySem.W.kitOne K (.ref D) cv = some b ∧ Q (.bl b) H
def rIsXT (K : PySem.W.Frag) (D a : Addr) (cls : Value) (d : Option Addr) : List V → Hp → VK → Prop := fun xs H Q => cls = .ref D ∧ Err H d ∧ ∃ (tp : Addr) (cs : List V) (us : List Value) (b : Bool), xs = [.ref a, .ref tp] ∧ H tp = some (.tup cs) ∧ Paired ClsV cs us ∧ PySem.W.kitAny K (.ref D) us = some b ∧ Q (.bl b) H
theorem call_isX {X : Cx} {a D : Addr} {cls : Value} {d : Option Addr} {oe : Obj} {pn : List (Addr × Obj)} (C : ExcC X.K D) (hz : Zc cls d oe) (hf : ∃ vs, oe.data = .fields vs) : CallR (X.suite a ((a, oe) :: pn)) (.builtin "isinstance") (rIsX X.K D a cls d) := by
  intro pins s σ H xs us Q I r h
  obtain ⟨rfl, he, c, cv, b, rfl, hcv, e, q⟩ := h
  obtain ⟨od, J⟩ := exc_inst hz hf I he
  obtain ⟨u1, u2, rfl, r1, r2⟩ := vals2 r
  have ec := hcv.eq r2
  subst ec
  cases (show u1 = Value.ref a from r1)
  exact PySem.W.kia_one (kitx_excX C.hg C.hk C.hs C.hd C.ha C.hn C.ht C.hm) I.kIn J e (fun z => nomatch z) fun tk => ⟨.bl b, H, I.kept (t' := tk) fun _ _ z => z, rfl, q⟩
theorem call_isXT {X : Cx} {a D : Addr} {cls : Value} {d : Option Addr} {oe : Obj} {pn : List (Addr × Obj)} (C : ExcC X.K D) (hz : Zc cls d oe) (hf : ∃ vs, oe.data = .fields vs) : CallR (X.suite a ((a, oe) :: pn)) (.builtin "isinstance") (rIsXT X.K D a cls d) := by
  intro pins s σ H xs us Q I r h
  obtain ⟨rfl, he, tp, cs, ws, b, rfl, hT, k, e, q⟩ := h
  obtain ⟨od, J⟩ := exc_inst hz hf I he
  obtain ⟨u1, u2, rfl, r1, r2⟩ := vals2 r
  cases (show u1 = Value.ref a from r1)
  cases (show u2 = Value.ref tp from r2)
  obtain ⟨_, its, rv, o, h1, h2, n, h3⟩ := (show ObjOk X.prog X.w H s.heap tp (.tup cs) from I.hok tp _ hT)
  have e3 := ClsV.all k rv
  subst e3
  obtain ⟨oc, od', dt, sl⟩ := o
  simp only at h2 h3
  subst h2 h3
  exact PySem.W.kia_tup (kitx_excX C.hg C.hk C.hs C.hd C.ha C.hn C.ht C.hm) I.kIn J h1 e (fun z => nomatch z) fun tk => ⟨.bl b, H, I.kept (t' := tk) fun _ _ z => z, rfl, q⟩
/-! ### making an instance where what is raised is wished for at the caller's slots -/
def tMakeS (C : Addr) (sp : Sp) (dvs : List V) (E : L2.St → XK) (t : TA) : TE := fun σ H Q => t σ H fun vs H1 => ∀ x dx, H1 x = none → H1 dx = none → dx ≠ x →
  sp (.ref x :: (vs ++ dvs)) (upd (upd H1 dx (.own x)) x (.ins C dx [])) (fun v H2 => v = .non ∧ Q (.ref x) H2) (E σ)
section
variable {X : Cx} {CX : CXT} {k : Nat} {f C : Addr} {fd : FuncData} {ps : List Str} {sp : Sp} {dvs : List V} {ds : List Value} {E : L2.St → XK} {x m : Str} {p pos apos : Pos} {e o : Expr} {es : List Expr} {ta : TE} {t : TA}
theorem run_makeS {pins : List (Addr × Obj)} {σ : L2.St} {H : Hp} {s : Shared} {Q : VK} {us : List Value} {vs : List V} (M : Mk X.K C f) (F : FnOk X.prog X.w X.K X.mg X.base CX k f fd ps sp) (hr : Room (k + 1) X.A) (hb : Binds X.K fd ps ds) (hd : Vals dvs ds)
    (hx : PassesAt CX X σ (E σ)) (I : Inv X pins σ H s) (r : Vals vs us)
    (h : ∀ x dx, H x = none → H dx = none → dx ≠ x → sp (.ref x :: (vs ++ dvs)) (upd (upd H dx (.own x)) x (.ins C dx [])) (fun v H2 => v = .non ∧ Q (.ref x) H2) (E σ)) :
    wpAny (model X.prog X.w) X.A (call (.ref C) us) (EP X pins σ Q) X.xe s := by
  have hnew := h (s.heap.objs.size + 1) s.heap.objs.size (I.hok.fresh (Nat.le_succ _)) (I.hok.fresh (Nat.le_refl _)) (Nat.ne_of_lt (Nat.lt_succ_self _))
  have Inew := Inv.made (C := C) I
  have rAll : Vals (V.ref (s.heap.objs.size + 1) :: (vs ++ dvs)) (Value.ref (s.heap.objs.size + 1) :: (us ++ ds)) := .cons rfl (r.append hd)
  have hlen : (Value.ref (s.heap.objs.size + 1) :: us ++ ds).length = ps.length := by
    have e := rAll.length
    rw [F.len _ _ _ _ hnew] at e
    exact e.symm
  refine wpAny_call (make_map (f := f) I.kIn M.makes M.init (beq_iff_eq.mp M.fn) (codeAny_mono (F.run _ X.stack _ _ ⟨Value.ref (s.heap.objs.size + 1) :: us, []⟩ (Value.ref (s.heap.objs.size + 1) :: (us ++ ds)) _ _ (E σ) (hr.make C us [])
    (Inew.env0.make C us []) (hb _ (Value.ref (s.heap.objs.size + 1) :: us) Inew.kIn hlen) rAll hnew) fun r s' hend => ?_))
  cases r with
  | error e => exact hx pins _ _ e s' Inew hend
  | ok fl =>
    cases fl with
    | ret u =>
      obtain ⟨v, H', Iend, rVal, ev, qEnd⟩ := Inew.after hend
      subst ev
      exact ⟨rVal, ⟨V.ref (s.heap.objs.size + 1), H', Iend, rfl, qEnd⟩⟩
    | next => exact False.elim hend
    | brk => exact False.elim hend
    | cont => exact False.elim hend
theorem pe_makeS (M : Mk X.K C f) (F : FnOk X.prog X.w X.K X.mg X.base CX k f fd ps sp) (hr : Room (k + 1) X.A) (hg : Gl X x) (hm : X.mg x = some (.ref C)) (hb : Binds X.K fd ps ds) (hd : Vals dvs ds) (hx : ∀ σ, PassesAt CX X σ (E σ))
    (ha : PA X (e :: es) t) (hdb : (x == ("__debug__" : Str)) = false := by decide) (he : starEach (e :: es) X.env = (false, eval e X.env) :: starEach es X.env := by rfl) (hpl : (backTo pos (starEach es X.env)).any (·.1) = false := by rfl) :
    PE X (.Call (.Name x p) (e :: es) [] pos) (tMakeS C sp dvs E t) := by
  refine ⟨fun pins s σ H Q I h => ?_⟩
  refine wpAny_Call_Name_kw (ld_glob I hg hm ?_ hdb)
  refine PySem.W.callWith_K (h₀ := X.base) I.ok.mod.kin M.kp (thn (ha.run pos pins s σ H _ I h) fun us s1 ⟨vs, H1, I1, r, q⟩ => ⟨I1.kIn, ?_⟩) he hpl
  exact run_makeS M F hr hb hd (hx σ) I1 r q
end
/-- a class that is called: C(..), the promise of its __init__; dvs the defaults that fill up -/
structure CalC (P : Program) (w : World) (K : PySem.W.Frag) (mg : Str → Option Value) (base : Heap) (CX : CXT) (k : Nat) (C : Addr) (x : Str) (ps : List Str) (dvs : List V) (sp : Sp) : Prop where
  ex : ∃ (f : Addr) (fd : FuncData) (ds : List Value), Mk K C f ∧ FnOk P w K mg base CX k f fd ps sp ∧ mg x = some (.ref C) ∧ Binds K fd ps ds ∧ Vals dvs ds
theorem pe_mk {X : Cx} {k : Nat} {C : Addr} {x : Str} {ps : List Str} {dvs : List V} {sp : Sp} {p pos : Pos} {e : Expr} {es : List Expr} {t : TA} (M : CalC X.prog X.w X.K X.mg X.base (L2.CX X.prog X.w) k C x ps dvs sp) (hr : Room (k + 1) X.A) (ha : PA X (e :: es) t) (hg : Gl X x := by rfl)
    (hdb : (x == ("__debug__" : Str)) = false := by decide) (he : starEach (e :: es) X.env = (false, eval e X.env) :: starEach es X.env := by rfl) (hpl : (backTo pos (starEach es X.env)).any (·.1) = false := by rfl) :
    PE X (.Call (.Name x p) (e :: es) [] pos) (tMake C sp dvs E0 t) := by
  obtain ⟨f, fd, ds, M, F, m, b, d⟩ := M.ex
  exact pe_make M F hr hg m b d passL ha hdb he hpl
theorem pe_mkS {X : Cx} {W : WX} {k : Nat} {C : Addr} {x : Str} {ps : List Str} {dvs : List V} {sp : Sp} {p pos : Pos} {e : Expr} {es : List Expr} {t : TA} (M : CalC X.prog X.w X.K X.mg X.base (L2.CX X.prog X.w) k C x ps dvs sp) (tk : Takes X W) (hr : Room (k + 1) X.A) (ha : PA X (e :: es) t) (hg : Gl X x := by rfl)
    (hdb : (x == ("__debug__" : Str)) = false := by decide) (he : starEach (e :: es) X.env = (false, eval e X.env) :: starEach es X.env := by rfl) (hpl : (backTo pos (starEach es X.env)).any (·.1) = false := by rfl) :
    PE X (.Call (.Name x p) (e :: es) [] pos) (tMakeS C sp dvs (WE W) t) := by
  obtain ⟨f, fd, ds, M, F, m, b, d⟩ := M.ex
  exact pe_makeS M F hr hg m b d (fun σ => passAt tk σ) ha hdb he hpl
/-! ### a def that may raise -/
structure CalX (P : Program) (w : World) (K : PySem.W.Frag) (mg : Str → Option Value) (base : Heap) (k : Nat) (x : Str) (ps : List Str) (sp : Sp) : Prop where
  ex : ∃ (f : Addr) (fd : FuncData), FnOk P w K mg base (L2.CX P w) k f fd ps sp ∧ mg x = some (.ref f) ∧ PySem.W.keepIn K (.ref f) = true ∧ Binds K fd ps []
theorem Dfn.calX {P : Program} {w : World} {K : PySem.W.Frag} {mg : Str → Option Value} {base : Heap} {x qual : Str} {st : Stmt} {N ps : List Str} {k : Nat} {sp : Sp} (D : Dfn K mg x qual st ps) (S : FnScope N ps (defScope st)) (len : ∀ vs H Q E, sp vs H Q E → vs.length = ps.length)
    (hbody : ∀ (f : Addr) (cdv : Value) (A : Around) (outer : List Env) (s : Shared) (H : Hp) (vs : List V) (Q : VK) (E : XK), Room k (A.deeper (envOfC qual (defScope st) s.heap.objs.size f cdv)) → sp vs H Q E →
      ∃ t, PSs (cxOf (L2.CX P w) P w K mg base N qual (defScope st) f cdv A outer s H E) (defBody st) t ∧ t { nx := fun _ H' => Q .non H', rt := Q } (start N vs) H) : CalX P w K mg base (k + 1) x ps sp := by
  obtain ⟨f, fd, F, m, b⟩ := D.ex
  exact ⟨f, fd, F.okX S len (hbody f), m, F.kp, b⟩
theorem pe_calX {X : Cx} {k : Nat} {x : Str} {ps : List Str} {sp : Sp} {p pos : Pos} {e : Expr} {es : List Expr} {t : TA} (C : CalX X.prog X.w X.K X.mg X.base k x ps sp) (hr : Room k X.A) (ha : PA X (e :: es) t) (hg : Gl X x := by rfl)
    (hdb : (x == ("__debug__" : Str)) = false := by decide) (he : starEach (e :: es) X.env = (false, eval e X.env) :: starEach es X.env := by rfl) (hpl : (backTo pos (starEach es X.env)).any (·.1) = false := by rfl) :
    PE X (.Call (.Name x p) (e :: es) [] pos) (tCall sp [] E0 t) := by
  obtain ⟨f, fd, F, m, kp, b⟩ := C.ex
  exact pe_call F hr hg m kp b .nil passL ha hdb he hpl
theorem pe_calS {X : Cx} {W : WX} {k : Nat} {x : Str} {ps : List Str} {sp : Sp} {p pos : Pos} {e : Expr} {es : List Expr} {t : TA} (C : CalX X.prog X.w X.K X.mg X.base k x ps sp) (tk : Takes X W) (hr : Room k X.A) (ha : PA X (e :: es) t) (hg : Gl X x := by rfl)
    (hdb : (x == ("__debug__" : Str)) = false := by decide) (he : starEach (e :: es) X.env = (false, eval e X.env) :: starEach es X.env := by rfl) (hpl : (backTo pos (starEach es X.env)).any (·.1) = false := by rfl) :
    PE X (.Call (.Name x p) (e :: es) [] pos) (tCallS sp (WE W) t) := by
  obtain ⟨f, fd, F, m, kp, b⟩ := C.ex
  exact pe_callS F hr hg m kp b (fun σ => passAt tk σ) ha hdb he hpl
theorem exm_self {K : PySem.W.Frag} {S : Addr} (h1 : PySem.W.subIn K (.ref S) (.type "BaseException") = some true) (h2 : PySem.W.hasDictIn K S = true) (h3 : PySem.W.typeIn K (.ref S) = some (.type "type")) (h4 : PySem.W.subIn K (.ref S) (.ref S) = some true) :
    PySem.W.exmOne K (.ref S) (.ref S) = some true := PySem.W.exm_ref h1 h2 h3 h4
end
end Fl

set_option Elab.async false
set_option linter.all false
set_option maxRecDepth 100000
set_option maxHeartbeats 4000000
namespace Fl
open PySem PySem.Spec PyProof.Rows L2
/-! ### lowest terms -/
def sh (t u : Int) : Int := if u < 0 then -(Nat.gcd t.natAbs u.natAbs : Nat) else (Nat.gcd t.natAbs u.natAbs : Nat)
def nT (t u : Int) : Int := t.fdiv (sh t u)
def nU (t u : Int) : Int := u.fdiv (sh t u)
theorem sh_abs (t u : Int) : (sh t u).natAbs = Nat.gcd t.natAbs u.natAbs := by
  unfold sh
  split <;> omega
theorem sh_ne {t u : Int} (h : u ≠ 0) : sh t u ≠ 0 := by
  have h1 : 0 < Nat.gcd t.natAbs u.natAbs := Nat.gcd_pos_of_pos_right _ (by omega)
  have := sh_abs t u
  omega
theorem sh_dvd_t (t u : Int) : sh t u ∣ t := Int.natAbs_dvd_natAbs.mp (by rw [sh_abs]; exact Nat.gcd_dvd_left _ _)
theorem sh_dvd_u (t u : Int) : sh t u ∣ u := Int.natAbs_dvd_natAbs.mp (by rw [sh_abs]; exact Nat.gcd_dvd_right _ _)
theorem nT_mul (t u : Int) : nT t u * sh t u = t := by
  unfold nT
  exact Int.fdiv_mul_cancel (sh_dvd_t t u)
theorem nU_mul (t u : Int) : nU t u * sh t u = u := by
  unfold nU
  exact Int.fdiv_mul_cancel (sh_dvd_u t u)
theorem nU_pos {t u : Int} (h : u ≠ 0) : 0 < nU t u := by
  have h1 : 0 < Nat.gcd t.natAbs u.natAbs := Nat.gcd_pos_of_pos_right _ (by omega)
  have e := nU_mul t u
  by_cases hn : u < 0
  · have hs : sh t u < 0 := by
      unfold sh
      rw [if_pos hn]
      omega
    rcases Int.lt_trichotomy (nU t u) 0 with hc | hc | hc
    · have := Int.mul_pos_of_neg_of_neg hc hs
      omega
    · rw [hc] at e
      omega
    · exact hc
  · have hs : 0 < sh t u := by
      unfold sh
      rw [if_neg hn]
      omega
    rcases Int.lt_trichotomy (nU t u) 0 with hc | hc | hc
    · have := Int.mul_neg_of_neg_of_pos hc hs
      omega
    · rw [hc] at e
      omega
    · exact hc
theorem n_cross (t u : Int) : nT t u * u = t * nU t u := by
  have e1 := nT_mul t u
  have e2 := nU_mul t u
  calc nT t u * u = nT t u * (nU t u * sh t u) := by rw [e2]
    _ = nT t u * sh t u * nU t u := by rw [Int.mul_comm (nU t u), Int.mul_assoc]
    _ = t * nU t u := by rw [e1]
theorem n_gcd {t u : Int} (h : u ≠ 0) : Nat.gcd (nT t u).natAbs (nU t u).natAbs = 1 := by
  have h1 : 0 < Nat.gcd t.natAbs u.natAbs := Nat.gcd_pos_of_pos_right _ (by omega)
  have e1 : (nT t u).natAbs * Nat.gcd t.natAbs u.natAbs = t.natAbs := by rw [← sh_abs, ← Int.natAbs_mul, nT_mul]
  have e2 : (nU t u).natAbs * Nat.gcd t.natAbs u.natAbs = u.natAbs := by rw [← sh_abs, ← Int.natAbs_mul, nU_mul]
  have e3 : Nat.gcd ((nT t u).natAbs * Nat.gcd t.natAbs u.natAbs) ((nU t u).natAbs * Nat.gcd t.natAbs u.natAbs) = Nat.gcd t.natAbs u.natAbs := by
    rw [e1, e2]
  rw [Nat.gcd_mul_right] at e3
  exact Nat.eq_of_mul_eq_mul_right h1 (by rw [e3, Nat.one_mul])
theorem nU_le {t u : Int} (h : u ≠ 0) : (nU t u).natAbs ≤ u.natAbs := by
  have h1 : 0 < Nat.gcd t.natAbs u.natAbs := Nat.gcd_pos_of_pos_right _ (by omega)
  have e2 : (nU t u).natAbs * Nat.gcd t.natAbs u.natAbs = u.natAbs := by rw [← sh_abs, ← Int.natAbs_mul, nU_mul]
  rw [← e2]
  exact Nat.le_mul_of_pos_right _ h1
theorem nT_le {t u : Int} (h : u ≠ 0) : (nT t u).natAbs ≤ t.natAbs := by
  have h1 : 0 < Nat.gcd t.natAbs u.natAbs := Nat.gcd_pos_of_pos_right _ (by omega)
  have e2 : (nT t u).natAbs * Nat.gcd t.natAbs u.natAbs = t.natAbs := by rw [← sh_abs, ← Int.natAbs_mul, nT_mul]
  rw [← e2]
  exact Nat.le_mul_of_pos_right _ h1
/-- a fraction has one form in lowest terms -/
theorem low_one {a b c d : Int} (hb : 0 < b) (hd : 0 < d) (g1 : Nat.gcd a.natAbs b.natAbs = 1) (g2 : Nat.gcd c.natAbs d.natAbs = 1) (e : a * d = c * b) : a = c ∧ b = d := by
  have en : a.natAbs * d.natAbs = c.natAbs * b.natAbs := by rw [← Int.natAbs_mul, ← Int.natAbs_mul, e]
  have d1 : b.natAbs ∣ d.natAbs := (Nat.Coprime.dvd_of_dvd_mul_left (k := b.natAbs) (m := a.natAbs) (n := d.natAbs) (by rw [Nat.Coprime, Nat.gcd_comm]; exact g1) (by rw [en]; exact Nat.dvd_mul_left _ _))
  have d2 : d.natAbs ∣ b.natAbs := (Nat.Coprime.dvd_of_dvd_mul_left (k := d.natAbs) (m := c.natAbs) (n := b.natAbs) (by rw [Nat.Coprime, Nat.gcd_comm]; exact g2) (by rw [← en]; exact Nat.dvd_mul_left _ _))
  have e3 : b.natAbs = d.natAbs := Nat.dvd_antisymm d1 d2
  have e4 : b = d := by omega
  subst e4
  exact ⟨Int.eq_of_mul_eq_mul_right (by omega) e, rfl⟩
theorem n_uniq {a b t u : Int} (hu : u ≠ 0) (hb : 0 < b) (g : Nat.gcd a.natAbs b.natAbs = 1) (e : a * u = t * b) : a = nT t u ∧ b = nU t u := by
  refine low_one hb (nU_pos hu) g (n_gcd hu) ?_
  have e1 := n_cross t u
  refine Int.eq_of_mul_eq_mul_right hu ?_
  calc a * nU t u * u = a * u * nU t u := by rw [Int.mul_assoc, Int.mul_comm (nU t u), ← Int.mul_assoc]
    _ = t * b * nU t u := by rw [e]
    _ = t * nU t u * b := by rw [Int.mul_assoc, Int.mul_comm b, ← Int.mul_assoc]
    _ = nT t u * u * b := by rw [e1]
    _ = nT t u * b * u := by rw [Int.mul_assoc, Int.mul_comm u, ← Int.mul_assoc]
theorem n_self {a b : Int} (hb : 0 < b) (g : Nat.gcd a.natAbs b.natAbs = 1) : nT a b = a ∧ nU a b = b := by
  obtain ⟨h1, h2⟩ := n_uniq (a := a) (b := b) (t := a) (u := b) (by omega) hb g rfl
  exact ⟨h1.symm, h2.symm⟩
theorem n_one (t : Int) : nT t 1 = t ∧ nU t 1 = 1 := n_self (by decide) (by simp)
theorem n_scale {t u f : Int} (hu : u ≠ 0) (hf : f ≠ 0) : nT (t * f) (u * f) = nT t u ∧ nU (t * f) (u * f) = nU t u := by
  have hne : u * f ≠ 0 := Int.mul_ne_zero hu hf
  obtain ⟨h1, h2⟩ := n_uniq (a := nT t u) (b := nU t u) (t := t * f) (u := u * f) hne (nU_pos hu) (n_gcd hu) (by
    have e1 := n_cross t u
    calc nT t u * (u * f) = nT t u * u * f := by rw [Int.mul_assoc]
      _ = t * nU t u * f := by rw [e1]
      _ = t * f * nU t u := by rw [Int.mul_assoc, Int.mul_comm (nU t u), ← Int.mul_assoc])
  exact ⟨h1.symm, h2.symm⟩
/-! ### instances of Ratio -/
def rf (t u : Int) : List (Str × V) := putF "under" (.int u) (putF "top" (.int t) [])
theorem tu : ¬ (("top" : Str) = "under") := by decide +kernel
theorem ut : ¬ (("under" : Str) = "top") := by decide +kernel
theorem rf_top (t u : Int) : (rf t u).lookup ("top" : Str) = some (.int t) := by
  unfold rf
  rw [lookup_putF, if_neg tu, lookup_putF, if_pos rfl]
theorem rf_under (t u : Int) : (rf t u).lookup ("under" : Str) = some (.int u) := by
  unfold rf
  rw [lookup_putF, if_pos rfl]
theorem rf_no (t u : Int) {m : Str} (h1 : ¬ m = "under") (h2 : ¬ m = "top") : (rf t u).lookup m = none := by
  unfold rf
  rw [lookup_putF, if_neg h1, lookup_putF, if_neg h2]
  rfl
/-- a Ratio t / u stands at x -/
def RatAt (C : Addr) (H : Hp) (x : Addr) (t u : Int) : Prop := ∃ dx, H x = some (.ins C dx (rf t u))
theorem RatAt.keep {C p : Addr} {H H' : Hp} {x : Addr} {t u : Int} (h : RatAt C H x t u) (k : Keeps H H' p) (hp : x ≠ p) : RatAt C H' x t u := by
  obtain ⟨dx, h⟩ := h
  exact ⟨dx, k _ _ h hp⟩
theorem RatAt.same {C : Addr} {H H' : Hp} {x : Addr} {t u : Int} (h : RatAt C H x t u) (k : Same H H') : RatAt C H' x t u := by
  obtain ⟨dx, h⟩ := h
  exact ⟨dx, k _ _ h⟩
theorem RatAt.ne_pool {C : Addr} {p : Pla} {H : Hp} {x : Addr} {t u : Int} (h : RatAt C H x t u) (hp : Pool H p) : x ≠ p := by
  obtain ⟨dx, h⟩ := h
  obtain ⟨ns, i, b, c, d, h1, _⟩ := hp
  exact ne_of h h1 (by intro z; cases z)
/-- the class Ratio as the top has left it -/
structure RatC (K : PySem.W.Frag) (mg : Str → Option Value) (C : Addr) : Prop where
  cl : Cls K C
  nT : NoAttr K C "top"
  nU : NoAttr K C "under"
  g : mg "Ratio" = some (.ref C)
  ha : PySem.W.findIn K (.ref C) "__class__" = some (some (.builtin "object.__class__"))
  hn : PySem.W.specialIn K (.builtin "object.__class__") "__get__" = some (some (.builtin "getset_descriptor.__get__"))
  htk : PySem.W.takesIn K (.builtin "object.__class__") = some true
  hm : PySem.W.mroIn K C (.type "object") = some true
  ki : PySem.W.kitOne K (.type "int") (.ref C) = some false
theorem RatC.tyX {K : PySem.W.Frag} {mg : Str → Option Value} {C : Addr} (T : RatC K mg C) {H : Hp} {x dx : Addr} {fs : List (Str × V)} (h : H x = some (.ins C dx fs)) : TyX K H (.ref x) (.ref C) := .base (.ins h T.cl T.ha T.hn T.htk T.hm)
theorem kit_self {K : PySem.W.Frag} (v : Value) : PySem.W.kitOne K v v = some true := by
  unfold PySem.W.kitOne
  rw [if_pos (beq_self_eq_true v)]
/-- an error class of the program without __init__ -/
structure ExC (K : PySem.W.Frag) (mg : Str → Option Value) (nm : Str) (C : Addr) : Prop where
  x : PySem.W.excIn K C [.type "ValueError", .type "Exception", .type "BaseException", .type "object"] "ValueError.__new__" = true
  g : mg nm = some (.ref C)
  k : PySem.W.keepIn K (.ref C) = true
  b : PySem.W.subIn K (.ref C) (.type "BaseException") = some true
  t : PySem.W.typeIn K (.ref C) = some (.type "type")
  s : PySem.W.subIn K (.ref C) (.ref C) = some true
  e : ExcC K C
theorem ExC.exm {K : PySem.W.Frag} {mg : Str → Option Value} {x : Str} {C : Addr} (T : ExC K mg x C) : PySem.W.exmOne K (.ref C) (.ref C) = some true := exm_self T.b T.e.hd T.t T.s
theorem beq_ref_ne {a b : Addr} (h : a ≠ b) : (Value.ref a == Value.ref b) = false := by
  rw [beq_eq_false_iff_ne]
  intro e
  injection e with e
  exact h e
end Fl

set_option Elab.async false
set_option linter.all false
set_option maxRecDepth 100000
set_option maxHeartbeats 4000000
namespace Fl
open PySem PySem.Spec PyProof.Rows L2
/-! ### the error with a name and a value -/
structure BnC (K : PySem.W.Frag) (mg : Str → Option Value) (C : Addr) : Prop where
  o : OexC K C
  g : mg "BadNumber" = some (.ref C)
  nN : PySem.W.findIn K (.ref C) "name" = some none
  nV : PySem.W.findIn K (.ref C) "value" = some none
  e : ExcC K C
  s : PySem.W.subIn K (.ref C) (.ref C) = some true
theorem BnC.exm {K : PySem.W.Frag} {mg : Str → Option Value} {C : Addr} (T : BnC K mg C) : PySem.W.exmOne K (.ref C) (.ref C) = some true := exm_self T.o.exC T.e.hd T.o.tyC T.s
theorem BnC.xf {K : PySem.W.Frag} {mg : Str → Option Value} {C : Addr} (T : BnC K mg C) : XfC K C := ⟨T.e.hg, T.e.hk, T.e.hs, T.e.hd⟩
def bnf (n v : V) : List (Str × V) := [("value", v), ("name", n)]
theorem nv : ¬ (("name" : Str) = "value") := by decide +kernel
theorem look_ne {f g : Str} {v : V} {fs : List (Str × V)} (h : ¬ f = g) : List.lookup f ((g, v) :: fs) = List.lookup f fs := by
  have e : (f == g) = false := by simpa using h
  rw [List.lookup_cons, e]
theorem look_eq {f : Str} {v : V} {fs : List (Str × V)} : List.lookup f ((f, v) :: fs) = some v := by
  rw [List.lookup_cons, beq_self_eq_true]
theorem bnf_name (n v : V) : (bnf n v).lookup ("name" : Str) = some n := by
  unfold bnf
  rw [look_ne nv, look_eq]
theorem bnf_value (n v : V) : (bnf n v).lookup ("value" : Str) = some v := look_eq
def spBN (C : Addr) : Sp := fun vs H Q _ => ∃ (a : Addr) (n v : V), vs = [.ref a, n, v] ∧ H a = some (exo a C none) ∧ ∀ (dx : Addr), H dx = none → dx ≠ a → Q .non (upd (upd (upd H dx (exd dx [("name", n)])) a (exo a C (some dx))) dx (exd dx (bnf n v)))
structure CalE (P : Program) (w : World) (K : PySem.W.Frag) (mg : Str → Option Value) (base : Heap) (k : Nat) (C : Addr) : Prop where
  ex : ∃ (fI : Addr) (fd : FuncData), PySem.W.findIn K (.ref C) "__init__" = some (some (.ref fI)) ∧ PySem.W.typeIn K (.ref fI) = some (.type "function") ∧ FnOk P w K mg base CX0 k fI fd ["self", "name", "value"] (spBN C) ∧ Binds K fd ["self", "name", "value"] []
theorem pmk_bn {X : Cx} {k : Nat} {C : Addr} {p pos : Pos} {e : Expr} {es : List Expr} {ta : TA} (T : BnC X.K X.mg C) (B : CalE X.prog X.w X.K X.mg X.base k C) (hr : Room (k + 1) X.A) (ha : PA X (e :: es) ta) (hg : Gl X "BadNumber" := by rfl)
    (he : starEach (e :: es) X.env = (false, eval e X.env) :: starEach es X.env := by rfl) (hpl : (backTo pos (starEach es X.env)).any (·.1) = false := by rfl) : PMk X (.Call (.Name "BadNumber" p) (e :: es) [] pos) (tMkO C (spBN C) [] ta) := by
  obtain ⟨fI, fd, iC, tI, F, b⟩ := B.ex
  exact pmk_oex T.o iC tI F hr b .nil (fun _ _ _ _ _ _ _ h => h.elim) hg T.g ha (by decide +kernel) he hpl
/-- what is wished where BadNumber(n, v) leaves -/
def Ref (E : XK) (C : Addr) (H : Hp) (n : Str) (v : Int) : Prop := ∀ (d : Addr) (H' : Hp), Same H H' → H d = none → H' d = some (.xd (bnf (.str n) (.int v))) → E (.ref C) (some d) H'
theorem Ref.same {E : XK} {C : Addr} {H H1 : Hp} {n : Str} {v : Int} (h : Ref E C H n v) (s : Same H H1) : Ref E C H1 n v := fun d H' s' hd he => h d H' (s.trans s') (s.free hd) he
theorem bn_made {C : Addr} {n : Str} {v : Int} {H : Hp} {Q : XK} (k : Ref Q C H n v) : [V.str n, V.int v].length ≤ 1000 ∧ ∀ a, H a = none → spBN C (.ref a :: ([V.str n, V.int v] ++ [])) (upd H a (exo a C none))
    (fun z H2 => z = .non ∧ ∃ (d : Addr) (fs : List (Str × V)), H2 a = some (exo a C (some d)) ∧ H2 d = some (exd d fs) ∧ H d = none ∧ Q (.ref C) (some d) (upd (del H2 a) d (.xd fs))) (fun _ _ _ => False) := by
  refine ⟨(show 2 ≤ 1000 by decide), fun a ha => ⟨a, .str n, .int v, rfl, upd_same, fun dx hdx hne => ⟨rfl, dx, bnf (.str n) (.int v), ?_, upd_same, ?_, ?_⟩⟩⟩
  · rw [upd_ne (Ne.symm hne), upd_same]
  · rw [upd_ne hne] at hdx
    exact hdx
  · rw [upd_ne hne] at hdx
    refine k dx _ (fun b o e => ?_) hdx upd_same
    have h1 : b ≠ a := ne_of_none e ha
    have h2 : b ≠ dx := ne_of_none e hdx
    rw [upd_ne h2, del_ne h1, upd_ne h2, upd_ne h1, upd_ne h2, upd_ne h1]
    exact e
end Fl

set_option Elab.async false
set_option linter.all false
set_option maxRecDepth 100000
set_option maxHeartbeats 4000000
/-! the facts of a head by a hook of one's own: Bool tests on a part of the heap, defs by address -/
namespace Kh
open PySem PySem.Spec PyProof.Rows L2
structure Fd where
  at_ : PySem.W.Frag → Addr
  name : Str
  qual : Str
  ps : Arguments
  body : List Stmt
  scope : Scope
  dv : List V := []
  kw : List (Str × V) := []
def fw (K : PySem.W.Frag) (a : Addr) : He.FnW := match K.lookup a with
  | some ⟨_, _, .func d, _⟩ => some (d.name, d.qualname, d.params, d.body, d.scope, d.globals, d.closure, d.builtins)
  | _ => none
def Fd.val (d : Fd) : He.FnW := some (d.name, d.qual, d.ps, .stmts d.body, d.scope, mainGlobals, [], builtinsNs)
def Fd.ok (K : PySem.W.Frag) (d : Fd) : Bool := PySem.W.keepIn K (.ref (d.at_ K)) && (match K.lookup (d.at_ K) with
  | some ⟨_, _, .func z, _⟩ => PySem.W.codeIn K z.code d.qual && (He.dflB K z.defaults d.dv && He.kwdB K z.kwdefaults d.kw)
  | _ => false)
theorem Fd.get {K : PySem.W.Frag} {d : Fd} (e : fw K (d.at_ K) = d.val) (c : d.ok K = true) : ∃ (oc : Value) (od : Option Addr) (dV kV dc pm : Value) (an : Option Addr) (cd ct : Value) (sl : Array (Option Value)),
    K.lookup (d.at_ K) = some ⟨oc, od, .func (PySem.W.fnOf d.name d.qual d.ps d.body d.scope dV kV dc pm an cd ct), sl⟩ ∧ PySem.W.codeIn K cd d.qual = true ∧ PySem.W.keepIn K (.ref (d.at_ K)) = true ∧ DflV K dV d.dv ∧ KwdV K kV d.kw := by
  obtain ⟨kp, c2⟩ := He.ba c
  unfold fw at e
  cases q : K.lookup (d.at_ K) with
  | none => rw [q] at c2; cases c2
  | some o =>
    obtain ⟨oc, od, dt, osl⟩ := o
    rw [q] at c2 e
    cases dt with
    | func z =>
      obtain ⟨n1, n2, n3, n4, n5, n6, n7, n8, n9, n10, n11, n12, n13, n14, n15⟩ := z
      have e2 : (some (n1, n2, n3, n4, n5, n6, n7, n15) : He.FnW) = some (d.name, d.qual, d.ps, .stmts d.body, d.scope, mainGlobals, [], builtinsNs) := e
      simp only [Option.some.injEq, Prod.mk.injEq] at e2
      obtain ⟨h1, h2, h3, h4, h5, h6, h7, h8⟩ := e2
      subst h1 h2 h3 h4 h5 h6 h7 h8
      have c3 : (PySem.W.codeIn K n13 d.qual && (He.dflB K n8 d.dv && He.kwdB K n9 d.kw)) = true := c2
      obtain ⟨k1, k2⟩ := He.ba c3
      obtain ⟨k3, k4⟩ := He.ba k2
      exact ⟨oc, od, n8, n9, n10, n11, n12, n13, n14, osl, rfl, k1, kp, He.dflB_ok k3, He.kwdB_ok k4⟩
    | _ => cases c2
theorem dfl_nil {K : PySem.W.Frag} {dV : Value} (h : DflV K dV []) : dV = .none := by
  rcases h with h | h
  · exact h.2
  · exact absurd rfl h.1
theorem dfl_one {K : PySem.W.Frag} {dV : Value} (h : DflV K dV [.int 1]) : ∃ (T : Addr) (oc : Value) (od : Option Addr) (tk : Tok) (n : Nat) (sl : Array (Option Value)), dV = .ref T ∧ K.lookup T = some ⟨oc, od, .seq #[.int 1 tk] n, sl⟩ := by
  rcases h with h | ⟨_, T, o, its, n, e, hk, hd, r⟩
  · cases h.1
  · obtain ⟨u, rfl, ru⟩ := vals1 r
    obtain ⟨tk, rfl⟩ := ru
    obtain ⟨oc, od, dt, sl⟩ := o
    have hd : dt = _ := hd
    subst hd
    exact ⟨T, oc, od, tk, n, sl, e, hk⟩
theorem kwd_ties {K : PySem.W.Frag} {kV : Value} (h : KwdV K kV [("ties", .int 0)]) : ∃ (D : Addr) (tk : Tok), kV = .ref D ∧ PySem.W.nsIn K D "ties" = some (some (.int 0 tk)) := by
  rcases h with h | ⟨D, e, h⟩
  · cases h
  · obtain ⟨u, hu, tk, r⟩ := h _ (List.mem_singleton.mpr rfl)
    exact ⟨D, tk, e, by rw [hu, r]⟩
def intB (x : Option (Option Value)) (i : Int) : Bool := match x with
  | some (some (.int j _)) => decide (j = i)
  | _ => false
theorem intB_ok {x : Option (Option Value)} {i : Int} (h : intB x i = true) : ∃ t, x = some (some (.int i t)) := by
  cases x with
  | none => cases h
  | some y =>
    cases y with
    | none => cases h
    | some v =>
      cases v with
      | int j t =>
        have e : j = i := of_decide_eq_true h
        exact ⟨t, by rw [e]⟩
      | _ => cases h
def clsB (x : Option (PySem.W.CFound)) (i : Int) : Bool := match x with
  | some (.val (.int j _)) => decide (j = i)
  | _ => false
theorem clsB_ok {x : Option (PySem.W.CFound)} {i : Int} (h : clsB x i = true) : ∃ t, x = some (.val (.int i t)) := by
  cases x with
  | none => cases h
  | some y =>
    cases y with
    | get _ _ _ _ => cases h
    | val v =>
      cases v with
      | int j t =>
        have e : j = i := of_decide_eq_true h
        exact ⟨t, by rw [e]⟩
      | _ => cases h
def r1 (K : PySem.W.Frag) (p : Addr) (s : String) : Addr := match PySem.W.recIn K p s with
  | some (.ref g :: _) => g
  | _ => 0
def r2 (K : PySem.W.Frag) (p : Addr) (s : String) : List Value := match PySem.W.recIn K p s with
  | some (_ :: r) => r
  | _ => []
def bltB (x : Option Value) (n : String) : Bool := match x with
  | some (.builtin m) => decide (m = n)
  | _ => false
theorem bltB_ok {x : Option Value} {n : String} (h : bltB x n = true) : x = some (.builtin n) := by
  cases x with
  | none => cases h
  | some v =>
    cases v with
    | builtin m => rw [show m = n from of_decide_eq_true h]
    | _ => cases h
def slB (sl : Array (Option Value)) (n : String) : Bool := match sl.toList with
  | [_, _, _, _, x, _] => bltB x n
  | _ => false
theorem slB_ok {sl : Array (Option Value)} {n : String} (h : slB sl n = true) : ∃ k0 k1 k2 k3 k5, sl = #[k0, k1, k2, k3, some (.builtin n), k5] := by
  obtain ⟨l⟩ := sl
  cases l with
  | nil => cases h
  | cons k0 l => cases l with
    | nil => cases h
    | cons k1 l => cases l with
      | nil => cases h
      | cons k2 l => cases l with
        | nil => cases h
        | cons k3 l => cases l with
          | nil => cases h
          | cons x l => cases l with
            | nil => cases h
            | cons k5 l => cases l with
              | cons _ _ => cases h
              | nil => exact ⟨k0, k1, k2, k3, k5, by rw [bltB_ok (show bltB x n = true from h)]⟩
def pxB (K : PySem.W.Frag) (C : Addr) (bm : List Value) (n : String) : Bool := match K.lookup C with
  | some ⟨.type c, _, .cls z, sl⟩ => decide (c = "type") && (decide (z.mro = .ref C :: bm) && (z.hasDict && (!z.hasDel && slB sl n)))
  | _ => false
theorem pxB_ok {K : PySem.W.Frag} {C : Addr} {bm : List Value} {n : String} (h : pxB K C bm n = true) : ∃ nm q N bs sn sub ab col dd k0 k1 k2 k3 k5, K.lookup C = some (excClassObj nm q C N bs bm true sn sub ab col dd k0 k1 k2 k3 k5 n) := by
  unfold pxB at h
  cases q : K.lookup C with
  | none => rw [q] at h; cases h
  | some o =>
    obtain ⟨oc, od, dt, sl⟩ := o
    rw [q] at h
    cases oc with
    | type c =>
      cases dt with
      | cls z =>
        have h : (decide (c = "type") && (decide (z.mro = .ref C :: bm) && (z.hasDict && (!z.hasDel && slB sl n)))) = true := h
        obtain ⟨h1, h⟩ := He.ba h
        obtain ⟨h2, h⟩ := He.ba h
        obtain ⟨h3, h⟩ := He.ba h
        obtain ⟨h4, h5⟩ := He.ba h
        obtain ⟨k0, k1, k2, k3, k5, e⟩ := slB_ok h5
        have h1 : c = "type" := of_decide_eq_true h1
        have h2 : z.mro = .ref C :: bm := of_decide_eq_true h2
        have hdel : z.hasDel = false := by
          cases e9 : z.hasDel with
          | false => rfl
          | true => rw [e9] at h4; cases h4
        clear h4
        obtain ⟨z1, z2, z3, z4, z5, z6, z7, z8, z9, z10, z11⟩ := z
        simp only at h2 h3 hdel
        subst h1 h2 h3 hdel e
        exact ⟨_, _, _, _, _, _, _, _, _, _, _, _, _, _, rfl⟩
      | _ => cases h
    | _ => cases dt <;> cases h
/-! ### the hook -/
abbrev Ob : Type := Bool × List He.FnW
def obsK (ts : PySem.W.Frag → List Bool) (fn : List Fd) (K : PySem.W.Frag) : Ob := ((ts K).all id && fn.all fun d => d.ok K, fn.map fun d => fw K (d.at_ K))
def valK (fn : List Fd) : Ob := (true, fn.map Fd.val)
def SaysK (ts : PySem.W.Frag → List Bool) (fn : List Fd) (K : PySem.W.Frag) : Prop := obsK ts fn K = valK fn
/-- the part: the module's names, the last objects that were laid -/
def asN (cnt n : Nat) : List Addr := mainGlobals :: (List.range cnt).map fun i => n - 1 - i
def obN (cnt : Nat) (ts : PySem.W.Frag → List Bool) (fn : List Fd) (n : Nat) (g : Addr → Option Obj) : Ob := obsK ts fn (He.frG g (asN cnt n))
def hookK (cnt : Nat) (ts : PySem.W.Frag → List Bool) (fn : List Fd) : PySem.W.Hook where
  α := Ob
  obs := fun s => obN cnt ts fn s.heap.objs.size s.heap.get?
  val := fun _ => valK fn
  says := fun _ h => ∃ K : PySem.W.Frag, K.In h ∧ SaysK ts fn K
  of := fun _ _ e => ⟨_, He.frG_in, e⟩
  keeps := fun _ _ _ ⟨K, hK, c⟩ k => ⟨K, PySem.W.Frag.In.keeps hK k, c⟩
/-! ### the same, the part laid out first -/
def frL {α : Type} (as : List Addr) (g : Addr → Option Obj) (k : PySem.W.Frag → α) : α := match as with
  | [] => k []
  | a :: r => HandSHeadRun.frNat a fun a => match g a with
    | some ⟨c, d, dt, sl⟩ => frL r g fun l => k ((a, ⟨c, d, dt, sl⟩) :: l)
    | none => frL r g k
theorem frL_eq {α : Type} {g : Addr → Option Obj} : ∀ (as : List Addr) (k : PySem.W.Frag → α), frL as g k = k (He.frG g as)
  | [], k => rfl
  | a :: r, k => by
    unfold frL
    rw [HandSHeadRun.frNat_eq]
    cases e : g a with
    | none =>
      show frL r g k = _
      rw [frL_eq r k]
      congr 1
      unfold He.frG
      rw [List.filterMap_cons, e]
      rfl
    | some o =>
      obtain ⟨c, d, dt, sl⟩ := o
      show (frL r g fun l => k ((a, ⟨c, d, dt, sl⟩) :: l)) = _
      rw [frL_eq r]
      congr 1
      unfold He.frG
      rw [List.filterMap_cons, e]
      rfl
def obF (cnt : Nat) (ts : PySem.W.Frag → List Bool) (fn : List Fd) (s : PySem.W.SharedT) : Ob := frL (asN cnt s.n) (HandSHeadRun.getT s) fun K => obsK ts fn K
theorem obF_eq {cnt : Nat} {ts : PySem.W.Frag → List Bool} {fn : List Fd} (s : PySem.W.SharedT) : obF cnt ts fn s = (hookK cnt ts fn).obs s.abs := by
  unfold obF
  rw [frL_eq]
  have e1 : s.abs.heap.objs.size = s.n := PySem.W.absHeap_size s.tree s.n s.life
  have e2 : HandSHeadRun.getT s = s.abs.heap.get? := funext fun a => HandSHeadRun.getT_eq s a
  show _ = obN cnt ts fn s.abs.heap.objs.size s.abs.heap.get?
  rw [e1, e2]
  rfl
theorem SaysK.test {ts : PySem.W.Frag → List Bool} {fn : List Fd} {K : PySem.W.Frag} (c : SaysK ts fn K) {b : Bool} (i : Nat) (h : (ts K)[i]? = some b) : b = true := by
  have c1 := (He.ba (show ((ts K).all id && fn.all fun d => d.ok K) = true from congrArg (fun z : Ob => z.1) c)).1
  exact List.all_eq_true.mp c1 b (List.mem_of_getElem? h)
theorem SaysK.def_ {ts : PySem.W.Frag → List Bool} {fn : List Fd} {K : PySem.W.Frag} (c : SaysK ts fn K) (i : Nat) {d : Fd} (h : fn[i]? = some d) : fw K (d.at_ K) = d.val ∧ d.ok K = true := by
  have c2 := (He.ba (show ((ts K).all id && fn.all fun d => d.ok K) = true from congrArg (fun z : Ob => z.1) c)).2
  have e : fn.map (fun d => fw K (d.at_ K)) = fn.map Fd.val := congrArg (fun z : Ob => z.2) c
  have e2 : (fn.map fun d => fw K (d.at_ K))[i]? = (fn.map Fd.val)[i]? := by rw [e]
  rw [List.getElem?_map, List.getElem?_map, h] at e2
  exact ⟨Option.some.inj e2, List.all_eq_true.mp c2 d (List.mem_of_getElem? h)⟩
end Kh

set_option Elab.async false
set_option linter.all false
namespace Kh
open PySem PySem.Spec PyProof.Rows L2
/-- the class method p of the class C -/
def cmB (x : Option PySem.W.CFound) (C p : Addr) : Bool := match x with
  | some (.get a b c d) => decide (a = .builtin "classmethod.__get__") && (decide (b = .ref p) && (decide (c = .none) && decide (d = .ref C)))
  | _ => false
theorem cmB_ok {x : Option PySem.W.CFound} {C p : Addr} (h : cmB x C p = true) : x = some (.get (.builtin "classmethod.__get__") (.ref p) .none (.ref C)) := by
  cases x with
  | none => cases h
  | some y =>
    cases y with
    | val v => cases h
    | get a b c d =>
      have h : (decide (a = .builtin "classmethod.__get__") && (decide (b = .ref p) && (decide (c = .none) && decide (d = .ref C)))) = true := h
      obtain ⟨h1, h⟩ := He.ba h
      obtain ⟨h2, h⟩ := He.ba h
      obtain ⟨h3, h4⟩ := He.ba h
      rw [of_decide_eq_true h1, of_decide_eq_true h2, of_decide_eq_true h3, of_decide_eq_true h4]
end Kh

set_option Elab.async false
set_option linter.all false
set_option maxRecDepth 100000
set_option maxHeartbeats 4000000
namespace Fl
/-! ### the sum of the whole parts of (a i + b) / m, i below n -/
def fs (m a b : Nat) : Nat → Nat
  | 0 => 0
  | n + 1 => fs m a b n + (a * n + b) / m
theorem tri_succ (n : Nat) : (n + 1) * n / 2 = n * (n - 1) / 2 + n := by
  cases n with
  | zero => rfl
  | succ k =>
    have e : (k + 1 + 1) * (k + 1) = (k + 1) * (k + 1 - 1) + 2 * (k + 1) := by
      rw [Nat.add_sub_cancel, show k + 1 + 1 = k + 2 from rfl, Nat.add_mul, Nat.mul_comm k (k + 1)]
    rw [e, Nat.add_mul_div_left _ _ (by decide)]
theorem fs_split {m : Nat} (hm : 0 < m) (a b : Nat) : ∀ n : Nat, fs m a b n = n * (n - 1) / 2 * (a / m) + n * (b / m) + fs m (a % m) (b % m) n
  | 0 => by simp [fs]
  | n + 1 => by
    have ih := fs_split hm a b n
    have e : (a * n + b) / m = n * (a / m) + b / m + ((a % m) * n + b % m) / m := by
      have e1 : a * n + b = (a % m * n + b % m) + m * (n * (a / m) + b / m) := by
        have h1 := Nat.mod_add_div a m
        have h2 := Nat.mod_add_div b m
        calc a * n + b = (a % m + m * (a / m)) * n + (b % m + m * (b / m)) := by rw [h1, h2]
          _ = (a % m * n + b % m) + m * (n * (a / m) + b / m) := by
            rw [Nat.add_mul, Nat.mul_add, Nat.mul_assoc, Nat.mul_comm (a / m) n]
            omega
      rw [e1, Nat.add_mul_div_left _ _ hm]
      omega
    show fs m a b n + (a * n + b) / m = (n + 1) * (n + 1 - 1) / 2 * (a / m) + (n + 1) * (b / m) + (fs m (a % m) (b % m) n + (a % m * n + b % m) / m)
    rw [Nat.add_sub_cancel, tri_succ, ih, e, Nat.add_mul, Nat.add_mul]
    omega
theorem fs_up {a m r : Nat} (ha : 0 < a) : ∀ k : Nat, fs a m (r + a) k = fs a m r k + k
  | 0 => rfl
  | k + 1 => by
    have ih := fs_up (m := m) (r := r) ha k
    show fs a m (r + a) k + (m * k + (r + a)) / a = fs a m r k + (m * k + r) / a + (k + 1)
    rw [ih, ← Nat.add_assoc, Nat.add_div_right _ ha]
    omega
theorem fs_shift {a m r : Nat} : ∀ k : Nat, fs a m r (k + 1) = r / a + fs a m (r + m) k
  | 0 => by
    show 0 + (m * 0 + r) / a = r / a + 0
    rw [Nat.mul_zero, Nat.zero_add, Nat.zero_add, Nat.add_zero]
  | k + 1 => by
    have ih := fs_shift (a := a) (m := m) (r := r) k
    show fs a m r (k + 1) + (m * (k + 1) + r) / a = r / a + (fs a m (r + m) k + (m * k + (r + m)) / a)
    rw [ih, Nat.mul_add, Nat.mul_one, Nat.add_assoc (m * k), Nat.add_comm m r]
    omega
theorem fs_swap {m a b : Nat} (ham : a < m) (hbm : b < m) (ha : 0 < a) : ∀ n : Nat, fs m a b n = fs a m ((a * n + b) % m) ((a * n + b) / m)
  | 0 => by
    have e : (a * 0 + b) / m = 0 := by
      rw [Nat.mul_zero, Nat.zero_add]
      exact Nat.div_eq_of_lt hbm
    rw [e]
    rfl
  | n + 1 => by
    have hm : 0 < m := by omega
    have ih := fs_swap ham hbm ha n
    show fs m a b n + (a * n + b) / m = _
    rw [ih]
    have hr := Nat.mod_lt (a * n + b) hm
    have hd := Nat.mod_add_div (a * n + b) m
    generalize hR : (a * n + b) % m = r at *
    generalize hK : (a * n + b) / m = K at *
    have e : a * (n + 1) + b = m * K + (r + a) := by
      rw [Nat.mul_add, Nat.mul_one]
      omega
    rw [e, Nat.mul_add_mod, Nat.mul_add_div hm]
    by_cases hc : r + a < m
    · rw [Nat.mod_eq_of_lt hc, Nat.div_eq_of_lt hc, Nat.add_zero, fs_up ha]
    · have h1 : (r + a) / m = 1 := by
        rw [Nat.div_eq_sub_div hm (by omega), Nat.div_eq_of_lt (by omega)]
      have h2 : (r + a) % m = r + a - m := by
        rw [Nat.mod_eq_sub_mod (by omega), Nat.mod_eq_of_lt (by omega)]
      rw [h1, h2, fs_shift, Nat.div_eq_of_lt (by omega : r + a - m < a), show r + a - m + m = r + a by omega, fs_up ha]
      omega
theorem fs_zero {m b : Nat} (hbm : b < m) : ∀ n : Nat, fs m 0 b n = 0
  | 0 => rfl
  | n + 1 => by
    show fs m 0 b n + (0 * n + b) / m = 0
    rw [fs_zero hbm n, Nat.zero_mul, Nat.zero_add, Nat.zero_add, Nat.div_eq_of_lt hbm]
/-- one turn of Euclid's rule -/
theorem fs_turn {m : Nat} (hm : 0 < m) (a b n : Nat) : fs m a b n = n * (n - 1) / 2 * (a / m) + n * (b / m) + fs (a % m) m ((a % m * n + b % m) % m) ((a % m * n + b % m) / m) := by
  rw [fs_split hm]
  have h1 := Nat.mod_lt a hm
  have h2 := Nat.mod_lt b hm
  by_cases h0 : a % m = 0
  · rw [h0, Nat.zero_mul, Nat.zero_add, fs_zero h2, Nat.div_eq_of_lt h2]
    rfl
  · rw [fs_swap h1 h2 (by omega)]
theorem fs_tot {n m a b tot : Nat} (hn : 0 < n) : (tot : Int) + (n : Int) * ((n : Int) - 1) / 2 * ((a : Int) / (m : Int)) + (n : Int) * ((b : Int) / (m : Int)) = ((tot + n * (n - 1) / 2 * (a / m) + n * (b / m) : Nat) : Int) := by
  have e : (n : Int) - 1 = ((n - 1 : Nat) : Int) := by omega
  rw [e]
  simp only [Int.natCast_add, Int.natCast_mul, Int.natCast_ediv]
  rfl
theorem fs_many_le {n m a b : Nat} (hm : 0 < m) (hn : 0 < n) : (a % m * n + b % m) / m ≤ n := by
  have h1 := Nat.mod_lt a hm
  have h2 := Nat.mod_lt b hm
  have h3 : a % m * n ≤ (m - 1) * n := Nat.mul_le_mul_right n (by omega)
  have h4 : (m - 1) * n = m * n - n := by rw [Nat.sub_mul, Nat.one_mul]
  have h5 : n ≤ m * n := Nat.le_mul_of_pos_left n hm
  refine Nat.le_of_lt_succ (Nat.div_lt_of_lt_mul ?_)
  rw [Nat.mul_succ]
  omega
end Fl

set_option Elab.async false
set_option linter.all false
set_option maxRecDepth 100000
set_option maxHeartbeats 4000000
namespace Bx
open PySem PySem.Spec PyProof.Rows L2 Fl
theorem int_add_own (a : Int) (t : Tok) (x C dx : Addr) : Meets (Builtin.«int.__add__» ⟨[.int a t, .ref x], []⟩) (fun _ R s => s.heap.get? x = some (PySem.W.instObj C dx) ∧ R (.ok (.ret Value.notImplemented)) s) :=
  .of_wp fun prog w A R s h => by obtain ⟨hp, g, d, tk, os⟩ := s; obtain ⟨hl, h⟩ := h; unfold PySem.W.instObj at hl; wp_walk; exact ⟨_, rfl, h⟩
theorem int_sub_own (a : Int) (t : Tok) (x C dx : Addr) : Meets (Builtin.«int.__sub__» ⟨[.int a t, .ref x], []⟩) (fun _ R s => s.heap.get? x = some (PySem.W.instObj C dx) ∧ R (.ok (.ret Value.notImplemented)) s) :=
  .of_wp fun prog w A R s h => by obtain ⟨hp, g, d, tk, os⟩ := s; obtain ⟨hl, h⟩ := h; unfold PySem.W.instObj at hl; wp_walk; exact ⟨_, rfl, h⟩
theorem int_mul_own (a : Int) (t : Tok) (x C dx : Addr) : Meets (Builtin.«int.__mul__» ⟨[.int a t, .ref x], []⟩) (fun _ R s => s.heap.get? x = some (PySem.W.instObj C dx) ∧ R (.ok (.ret Value.notImplemented)) s) :=
  .of_wp fun prog w A R s h => by obtain ⟨hp, g, d, tk, os⟩ := s; obtain ⟨hl, h⟩ := h; unfold PySem.W.instObj at hl; wp_walk; exact ⟨_, rfl, h⟩
section
open PySem.W PySem.Calls
variable {prog : Program} {w : World} {A : Around} {E : Value → Shared → Prop} {s : Shared} {K : Frag} {x C L f g dx : Addr} {h₀ : Heap} {m : Str → Option Value} {od : Option Obj}
theorem bin_refl {op : Operator} {n : Int} {t : Tok} {id : String} {B : Builtin} {Q : Value → Shared → Prop} (F : Fr h₀ L s.heap m) (X₀ : K.In h₀) (I : PySem.W.InstAt s.heap x (PySem.W.instObj C dx) C od) (hc : selfFirst K C = true)
    (hs : findIn K (.ref C) (PySem.dunder op.info.2) = some (some (.ref f))) (hr : findIn K (.ref C) (dunderR op.info.2) = some (some (.ref g))) (hg : isFn K (.ref g) = true)
    (hsub : subIn K (.ref C) (.type "int") = some false) (fills : fillsNumberSlot (.type "int") op.info.2 = pure true) (slot : Slot "int" (PySem.dunder op.info.2) id) (entry : entryFor table id = some B) (args : argsOk id ⟨[.int n t, .ref x], []⟩)
    (mt : Meets (B ⟨[.int n t, .ref x], []⟩) (fun _ R s => s.heap.get? x = some (PySem.W.instObj C dx) ∧ R (.ok (.ret Value.notImplemented)) s))
    (h : wpAny (model prog w) A (call (.ref g) [.ref x, .int n t]) (PySem.W.CmpBack Q) E s) : wpAny (model prog w) A (binaryOp op (.int n t) (.ref x)) Q E s := by
  have X := X₀.keeps F.keep
  obtain ⟨cd, rest, hcd, hm⟩ := ksp_first hc
  rcases hi : op.info with ⟨sym, nm'⟩
  rw [hi] at hs hr fills slot
  dsimp only at hs hr fills slot
  have one := ksp_try X I hr hg h
  simp only [binaryOp, hi]
  refine wpAny_holding (wpAny_bind ?_)
  simp only [binaryOp1]
  refine wpAny_bind (wpAny_typeOf (typeIs_int s n t) (wpAny_bind (I.type.here (wpAny_bind (wpAny_of_eq fills ?_)))))
  have hne : (Value.type "int" == Value.ref C) = false := Bool.eq_false_iff.mpr fun q => by cases beq_iff_eq.mp q
  simp only [hne, Bool.false_eq_true, if_false]
  refine wpAny_bind ((fills_K X hcd hm hs).here ?_)
  simp only [Bool.and_self, if_true]
  refine wpAny_bind ((looks_subIn X hsub).here ?_)
  have hpy : numberSlotInPython (.type "int") nm' = pure false := rfl
  simp only [Bool.false_eq_true, if_false, pure_bind, Bool.not_false, Bool.and_self, if_true, hpy]
  refine wpAny_bind (wpAny_tryMethod_declines (typeIs_int s n t) slot (call_meets slot (typeIs_int s n t) entry args mt ⟨I.at_, ?_⟩))
  refine ⟨rfl, ?_⟩
  refine wpAny_bind (wpAny_mono one (fun r s' hr' => ?_) fun _ _ e => e)
  obtain ⟨v, rfl, hq⟩ := hr'
  exact wpAny_bind (wpAny_rule (wpAny_pure (wpAny_pure hq)))
end

section
open PySem.W PySem.Calls
variable {prog : Program} {w : World} {A : Around} {E : Value → Shared → Prop} {s : Shared} {K : Frag} {x C f : Addr} {ox : Obj} {od : Option Obj}
theorem call_abs_own {Q : Value → Shared → Prop} (X : K.In s.heap) (I : PySem.W.InstAt s.heap x ox C od) (hs : findIn K (.ref C) "__abs__" = some (some (.ref f))) (hf : isFn K (.ref f) = true)
    (h : wpAny (model prog w) A.in1 (call (.ref f) [.ref x]) Q E s) : wpAny (model prog w) A (call (.builtin "abs") [.ref x]) Q E s := by
  refine call_function_entry kind_abs plain_abs entry_abs (args_abs _) ?_
  unfold Builtin.«abs»
  refine wpAny_bind (wpAny_pure ?_)
  refine wpAny_bind (m := callSpecial? (.ref x) (Str.ofString "__abs__")) (special_fn X I hs (beq_iff_eq.mp hf) (wpAny_mono h (fun v s' hv => ?_) fun _ _ z => ?_))
  · exact wpAny_pure ⟨_, rfl, hv⟩
  · exact z
end
section
/-- the def that an operator's special name of the class C finds -/
structure OpOwn (P : Program) (w : World) (K : PySem.W.Frag) (mg : Str → Option Value) (base : Heap) (k : Nat) (C : Addr) (nm : Str) (ps : List Str) (sp : Sp) : Prop where
  ex : ∃ (f : Addr) (fd : FuncData), PySem.W.findIn K (.ref C) nm = some (some (.ref f)) ∧ PySem.W.isFn K (.ref f) = true ∧ FnOk P w K mg base CX0 k f fd ps sp ∧ Binds K fd ps []
def oR (Q : VK) : VK := fun v H2 => ∃ z, v = .ref z ∧ Q (.ref z) H2
def rOO (C : Addr) (sp : Sp) : R2 := fun x y H Q => ∃ (a dx : Addr) (gs : List (Str × V)) (b dy : Addr) (hs : List (Str × V)), x = .ref a ∧ H a = some (.ins C dx gs) ∧ y = .ref b ∧ H b = some (.ins C dy hs) ∧ sp [.ref a, .ref b] H (oR Q) E0
def rOI (C : Addr) (sp : Sp) : R2 := fun x y H Q => ∃ (a dx : Addr) (gs : List (Str × V)) (n : Int), x = .ref a ∧ H a = some (.ins C dx gs) ∧ y = .int n ∧ sp [.ref a, .int n] H (oR Q) E0
def rIO (C : Addr) (sp : Sp) : R2 := fun x y H Q => ∃ (a dx : Addr) (gs : List (Str × V)) (n : Int), y = .ref a ∧ H a = some (.ins C dx gs) ∧ x = .int n ∧ sp [.ref a, .int n] H (oR Q) E0
variable {X : Cx} {k : Nat} {C : Addr} {ps : List Str} {sp : Sp} {op : Operator}
theorem op_oo (M : OpOwn X.prog X.w X.K X.mg X.base k C (PySem.dunder op.info.2) ps sp) (hc : PySem.W.selfFirst X.K C = true) (hr : Room k X.A) : OpR X (binaryOp op) (rOO C sp) := by
  obtain ⟨f, fd, hs, hf, F, b⟩ := M.ex
  intro pins s σ H x y v u Q I rx ry h
  obtain ⟨a, dx, gs, b', dy, gs', rfl, ea, rfl, eb, q⟩ := h
  cases rx
  cases ry
  obtain ⟨mA, J, _⟩ := ins_get I.hok ea
  obtain ⟨od, J, _⟩ := J.look
  obtain ⟨mB, J', _⟩ := ins_get I.hok eb
  obtain ⟨od', J', _⟩ := J'.look
  obtain ⟨m, hF⟩ := I.fr
  refine PySem.W.binop_K hF I.ok.mod.kin J J'.type hc hs hf (wpAny_mono (run_fn F hr b (dvs := []) .nil pass0 I (.cons (show RelV (.ref a) (.ref a) from rfl) (.cons (show RelV (.ref b') (.ref b') from rfl) .nil)) q) (fun r s' hr => ?_) fun _ _ z => z)
  obtain ⟨z, H2, I2, rz, c, rfl, q2⟩ := hr
  cases rz
  exact ⟨V.ref c, H2, I2, rfl, q2⟩
theorem op_oi {rc : Option Value} {fo ro : Option Value} (M : OpOwn X.prog X.w X.K X.mg X.base k C (PySem.dunder op.info.2) ps sp) (hc : PySem.W.selfFirst X.K C = true) (hR : PySem.W.findIn X.K (.ref C) (dunderR op.info.2) = some rc) (hp : rc = none ∨ ∃ g : Addr, rc = some (.ref g))
    (h1 : PySem.W.findIn X.K (.type "int") (PySem.dunder op.info.2) = some fo) (h2 : PySem.W.findIn X.K (.type "int") (dunderR op.info.2) = some ro) (hsub : PySem.W.subIn X.K (.type "int") (.ref C) = some false) (hr : Room k X.A) : OpR X (binaryOp op) (rOI C sp) := by
  obtain ⟨f, fd, hs, hf, F, b⟩ := M.ex
  intro pins s σ H x y v u Q I rx ry h
  obtain ⟨a, dx, gs, n, rfl, ea, rfl, q⟩ := h
  cases rx
  obtain ⟨t, rfl⟩ := ry
  obtain ⟨mA, J, _⟩ := ins_get I.hok ea
  obtain ⟨od, J, _⟩ := J.look
  obtain ⟨m, hF⟩ := I.fr
  refine PySem.W.ksp_binT hF I.ok.mod.kin J (T := "int") rfl hc hs hf hR hp h1 h2 hsub (wpAny_mono (run_fn F hr b (dvs := []) .nil pass0 I (.cons (show RelV (.ref a) (.ref a) from rfl) (.cons (show RelV (.int n) (.int n t) from ⟨_, rfl⟩) .nil)) q) (fun r s' hr => ?_) fun _ _ z => z)
  obtain ⟨z, H2, I2, rz, c, rfl, q2⟩ := hr
  cases rz
  exact ⟨V.ref c, H2, I2, rfl, q2⟩
theorem op_io {f0 : Addr} {id : String} {B : Builtin} (M : OpOwn X.prog X.w X.K X.mg X.base k C (dunderR op.info.2) ps sp) (hc : PySem.W.selfFirst X.K C = true) (hs0 : PySem.W.findIn X.K (.ref C) (PySem.dunder op.info.2) = some (some (.ref f0))) (hsub : PySem.W.subIn X.K (.ref C) (.type "int") = some false)
    (fills : fillsNumberSlot (.type "int") op.info.2 = pure true) (slot : Slot "int" (PySem.dunder op.info.2) id) (entry : entryFor table id = some B) (args : ∀ a b, argsOk id ⟨[a, b], []⟩)
    (mt : ∀ (n : Int) (t : Tok) (x C dx : Addr), Meets (B ⟨[.int n t, .ref x], []⟩) (fun _ R s => s.heap.get? x = some (PySem.W.instObj C dx) ∧ R (.ok (.ret Value.notImplemented)) s)) (hr : Room k X.A) : OpR X (binaryOp op) (rIO C sp) := by
  obtain ⟨f, fd, hs, hf, F, b⟩ := M.ex
  intro pins s σ H x y v u Q I rx ry h
  obtain ⟨a, dx, gs, n, rfl, ea, rfl, q⟩ := h
  cases ry
  obtain ⟨t, rfl⟩ := rx
  obtain ⟨mA, J, _⟩ := ins_get I.hok ea
  obtain ⟨od, J, _⟩ := J.look
  obtain ⟨m, hF⟩ := I.fr
  refine bin_refl hF I.ok.mod.kin J hc hs0 hs hf hsub fills slot entry (args _ _) (mt n t a C dx) (wpAny_mono (run_fn F hr b (dvs := []) .nil pass0 I (.cons (show RelV (.ref a) (.ref a) from rfl) (.cons (show RelV (.int n) (.int n t) from ⟨_, rfl⟩) .nil)) q) (fun r s' hr => ?_) fun _ _ z => z)
  obtain ⟨z, H2, I2, rz, c, rfl, q2⟩ := hr
  cases rz
  exact ⟨V.ref c, H2, I2, rfl, q2⟩
def rNegO (C : Addr) (sp : Sp) : V → Hp → VK → Prop := fun x H Q => ∃ (a dx : Addr) (gs : List (Str × V)), x = .ref a ∧ H a = some (.ins C dx gs) ∧ sp [.ref a] H Q E0
theorem un_negO (M : OpOwn X.prog X.w X.K X.mg X.base k C "__neg__" ps sp) (hr : Room k X.A) : UnR X (unaryOp .USub) (rNegO C sp) := by
  obtain ⟨f, fd, hs, hf, F, b⟩ := M.ex
  intro pins s σ H x v Q I rx h
  obtain ⟨a, dx, gs, rfl, ea, q⟩ := h
  cases rx
  obtain ⟨mA, J, _⟩ := ins_get I.hok ea
  obtain ⟨od, J, _⟩ := J.look
  obtain ⟨m, hF⟩ := I.fr
  exact PySem.W.ksp_neg hF I.ok.mod.kin J hs hf (run_fn F hr b (dvs := []) .nil pass0 I (.cons (show RelV (.ref a) (.ref a) from rfl) .nil) q)
def rAbsO (C : Addr) (sp : Sp) : List V → Hp → VK → Prop := fun xs H Q => ∃ (a dx : Addr) (gs : List (Str × V)), xs = [.ref a] ∧ H a = some (.ins C dx gs) ∧ sp [.ref a] H Q E0
theorem call_absO (M : OpOwn X.prog X.w X.K X.mg X.base k C "__abs__" ps sp) (hr : Room (k + 1) X.A) : CallR X (.builtin "abs") (rAbsO C sp) := by
  obtain ⟨f, fd, hs, hf, F, b⟩ := M.ex
  intro pins s σ H xs us Q I r h
  obtain ⟨a, dx, gs, rfl, ea, q⟩ := h
  obtain ⟨u, rfl, rx⟩ := vals1 r
  cases rx
  obtain ⟨mA, J, _⟩ := ins_get I.hok ea
  obtain ⟨od, J, _⟩ := J.look
  have hl := F.len _ _ _ _ q
  have r2 : Vals [V.ref a] [Value.ref a] := .cons (show RelV (.ref a) (.ref a) from rfl) .nil
  have bb := b s [.ref a] I.kIn (by simpa using hl)
  rw [List.append_nil] at bb
  refine call_abs_own I.kIn J hs hf (wpAny_call (codeAny_mono (F.run X.A.in1 X.stack s H ⟨[.ref a], []⟩ [.ref a] [.ref a] Q E0 hr.in1 I.env0.in1 bb r2 q) fun r s' hq => ?_))
  cases r with
  | error e => exact (pass0 pins σ H s e s' I hq)
  | ok fl =>
    cases fl with
    | ret z => exact I.after hq
    | next => exact False.elim hq
    | brk => exact False.elim hq
    | cont => exact False.elim hq
end
end Bx

set_option Elab.async false
set_option linter.all false
set_option maxRecDepth 100000
set_option maxHeartbeats 4000000
namespace Bx
open PySem PySem.Spec PyProof.Rows L2 Fl
section
/-- a def of the class that may raise what its spec says -/
structure OwnX (P : Program) (w : World) (K : PySem.W.Frag) (mg : Str → Option Value) (base : Heap) (k : Nat) (C : Addr) (nm : Str) (ps : List Str) (sp : Sp) : Prop where
  ex : ∃ (f : Addr) (fd : FuncData), PySem.W.findIn K (.ref C) nm = some (some (.ref f)) ∧ PySem.W.isFn K (.ref f) = true ∧ PySem.W.keepIn K (.ref f) = true ∧ FnOk P w K mg base (L2.CX P w) k f fd ps sp ∧ Binds K fd ps []
variable {X : Cx} {k : Nat} {C : Addr} {ps : List Str} {sp : Sp} {op : Operator} {E : L2.St → XK}
def tMethX (C : Addr) (m : Str) (sp : Sp) (E : L2.St → XK) (ta : TE) (t : TA) : TE := fun σ H Q => ta σ H fun x H1 => ∃ a dx fs, x = .ref a ∧ H1 a = some (.ins C dx fs) ∧ fs.lookup m = none ∧ t σ H1 fun vs H2 => sp (x :: vs) H2 Q (E σ)
theorem pe_methX {pl : Sem Bool} {m : Str} {o e : Expr} {es : List Expr} {apos pos : Pos} {ta : TE} {t : TA} (M : OwnX X.prog X.w X.K X.mg X.base k C m ps sp) (c : Cls X.K C) (hx : ∀ σ, PassesAt (L2.CX X.prog X.w) X σ (E σ)) (hr : Room k X.A) (he : PE X o ta) (ha : PA X (e :: es) t)
    (hst : starEach (e :: es) X.env = (false, eval e X.env) :: starEach es X.env := by rfl) (hpl : (backTo pos (starEach es X.env)).any (·.1) = false := by rfl)
    (ht : eval (.Call (.Attribute o m apos) (e :: es) [] pos) X.env = (do
      let ov ← eval o X.env
      standAt apos.atName
      let (f, first) ← holding [ov] (getMethod ov m pl)
      callWith pos f first (backTo pos (starEach (e :: es) X.env)) (backToKw pos (keywordEach [] X.env))) := by rfl) :
    PE X (.Call (.Attribute o m apos) (e :: es) [] pos) (tMethX C m sp E ta t) := by
  obtain ⟨f, fd, h1, h2, h3, F, b⟩ := M.ex
  refine ⟨fun pins s σ H Q I h => ?_⟩
  refine PySem.W.methodCall_KW (pl := pl) (thn (he.run pins s σ H _ I h) fun u s1 ⟨x, H1, I1, rx, a, dx, fs, ex, ea, l, q⟩ => ?_) ht
  subst ex
  obtain rfl : u = Value.ref a := rx
  refine getmeth_ok I1 ea c ⟨h1, h2, h3⟩ l ?_
  refine PySem.W.callWith_K (first := [.ref a]) (h₀ := X.base) I.ok.mod.kin h3 (thn (ha.run pos pins s1 σ H1 _ I1 q) fun us s2 ⟨vs, H2, I2, r, q2⟩ => ⟨I2.kIn, ?_⟩) hst hpl
  exact run_fnS (us := .ref a :: us) (vs := .ref a :: vs) (E := E) F hr b (hx σ) I2 (.cons rfl r) q2
/-- what comes back: a reference or a whole number -/
def oA (Q : VK) : VK := fun v H2 => ((∃ z, v = .ref z) ∨ ∃ i, v = .int i) ∧ Q v H2
def rOwnX (C : Addr) (sp : Sp) (E : L2.St → XK) : L2.St → R2 := fun σ x y H Q => ∃ (a dx : Addr) (gs : List (Str × V)), x = .ref a ∧ H a = some (.ins C dx gs) ∧ ((∃ (b dy : Addr) (hs : List (Str × V)), y = .ref b ∧ H b = some (.ins C dy hs)) ∨ ∃ n : Int, y = .int n) ∧ sp [x, y] H (oA Q) (E σ)
def tOpS (R : L2.St → R2) (ta tb : TE) : TE := fun σ H Q => ta σ H fun x H1 => tb σ H1 fun y H2 => R σ x y H2 Q
theorem back {pins : List (Addr × Obj)} {σ : L2.St} {Q : VK} {r : Value} {s' : Shared} (h : EP X pins σ (oA Q) r s') : PySem.W.CmpBack (EP X pins σ Q) r s' := by
  obtain ⟨z, H2, I2, rz, c, q2⟩ := h
  rcases c with ⟨c, rfl⟩ | ⟨i, rfl⟩
  · cases rz
    exact ⟨V.ref c, H2, I2, rfl, q2⟩
  · obtain ⟨t, rfl⟩ := rz
    exact ⟨V.int i, H2, I2, ⟨t, rfl⟩, q2⟩
theorem pe_ownX {rc fo ro : Option Value} {a b : Expr} {ta tb : TE} {pos : Pos} (M : OwnX X.prog X.w X.K X.mg X.base k C (PySem.dunder op.info.2) ps sp) (hx : ∀ σ, PassesAt (L2.CX X.prog X.w) X σ (E σ)) (hc : PySem.W.selfFirst X.K C = true)
    (hR : PySem.W.findIn X.K (.ref C) (dunderR op.info.2) = some rc) (hp : rc = none ∨ ∃ g : Addr, rc = some (.ref g)) (h1 : PySem.W.findIn X.K (.type "int") (PySem.dunder op.info.2) = some fo) (h2 : PySem.W.findIn X.K (.type "int") (dunderR op.info.2) = some ro)
    (hsub : PySem.W.subIn X.K (.type "int") (.ref C) = some false) (hr : Room k X.A) (ha : PE X a ta) (hb : PE X b tb) : PE X (.BinOp a op b pos) (tOpS (rOwnX C sp E) ta tb) := by
  obtain ⟨f, fd, hs, hf, hk, F, bd⟩ := M.ex
  refine ⟨fun pins s σ H Q I h => ?_⟩
  refine wpAny_BinOp (binT ha hb I h fun v u s2 x y H2 I2 rx ry q => ?_)
  obtain ⟨a', dx, gs, rfl, ea, hy, q⟩ := q
  cases rx
  obtain ⟨mA, J, _⟩ := ins_get I2.hok ea
  obtain ⟨od, J, _⟩ := J.look
  obtain ⟨m, hF⟩ := I2.fr
  have run := run_fnS (E := E) F hr bd (hx σ) I2 (.cons (show RelV (.ref a') (.ref a') from rfl) (.cons ry .nil)) q
  rcases hy with ⟨b', dy, gs', rfl, eb⟩ | ⟨n, rfl⟩
  · cases ry
    obtain ⟨mB, J', _⟩ := ins_get I2.hok eb
    obtain ⟨od', J', _⟩ := J'.look
    exact PySem.W.binop_K hF I2.ok.mod.kin J J'.type hc hs hf (wpAny_mono run (fun r s' hr => back hr) fun _ _ z => z)
  · obtain ⟨t, rfl⟩ := ry
    exact PySem.W.ksp_binT hF I2.ok.mod.kin J (T := "int") rfl hc hs hf hR hp h1 h2 hsub (wpAny_mono run (fun r s' hr => back hr) fun _ _ z => z)
theorem op_or {f : Value → Value → Sem Value} {r1 r2 : R2} (h1 : OpR X f r1) (h2 : OpR X f r2) : OpR X f (fun x y H Q => r1 x y H Q ∨ r2 x y H Q) := fun pins s σ H x y v u Q I rx ry h => h.elim (h1 pins s σ H x y v u Q I rx ry) (h2 pins s σ H x y v u Q I rx ry)
end
end Bx

set_option Elab.async false
set_option linter.all false
set_option maxRecDepth 100000
set_option maxHeartbeats 4000000
namespace Bx
open PySem PySem.Spec PyProof.Rows L2 Fl
theorem int_lt_own (a : Int) (t : Tok) (x C dx : Addr) : Meets (Builtin.«int.__lt__» ⟨[.int a t, .ref x], []⟩) (fun _ R s => s.heap.get? x = some (PySem.W.instObj C dx) ∧ R (.ok (.ret Value.notImplemented)) s) :=
  .of_wp fun prog w A R s h => by obtain ⟨hp, g, d, tk, os⟩ := s; obtain ⟨hl, h⟩ := h; unfold PySem.W.instObj at hl; wp_walk; exact ⟨_, rfl, h⟩
theorem int_le_own (a : Int) (t : Tok) (x C dx : Addr) : Meets (Builtin.«int.__le__» ⟨[.int a t, .ref x], []⟩) (fun _ R s => s.heap.get? x = some (PySem.W.instObj C dx) ∧ R (.ok (.ret Value.notImplemented)) s) :=
  .of_wp fun prog w A R s h => by obtain ⟨hp, g, d, tk, os⟩ := s; obtain ⟨hl, h⟩ := h; unfold PySem.W.instObj at hl; wp_walk; exact ⟨_, rfl, h⟩
theorem int_gt_own (a : Int) (t : Tok) (x C dx : Addr) : Meets (Builtin.«int.__gt__» ⟨[.int a t, .ref x], []⟩) (fun _ R s => s.heap.get? x = some (PySem.W.instObj C dx) ∧ R (.ok (.ret Value.notImplemented)) s) :=
  .of_wp fun prog w A R s h => by obtain ⟨hp, g, d, tk, os⟩ := s; obtain ⟨hl, h⟩ := h; unfold PySem.W.instObj at hl; wp_walk; exact ⟨_, rfl, h⟩
theorem int_ge_own (a : Int) (t : Tok) (x C dx : Addr) : Meets (Builtin.«int.__ge__» ⟨[.int a t, .ref x], []⟩) (fun _ R s => s.heap.get? x = some (PySem.W.instObj C dx) ∧ R (.ok (.ret Value.notImplemented)) s) :=
  .of_wp fun prog w A R s h => by obtain ⟨hp, g, d, tk, os⟩ := s; obtain ⟨hl, h⟩ := h; unfold PySem.W.instObj at hl; wp_walk; exact ⟨_, rfl, h⟩
theorem int_eq_own (a : Int) (t : Tok) (x C dx : Addr) : Meets (Builtin.«int.__eq__» ⟨[.int a t, .ref x], []⟩) (fun _ R s => s.heap.get? x = some (PySem.W.instObj C dx) ∧ R (.ok (.ret Value.notImplemented)) s) :=
  .of_wp fun prog w A R s h => by obtain ⟨hp, g, d, tk, os⟩ := s; obtain ⟨hl, h⟩ := h; unfold PySem.W.instObj at hl; wp_walk; exact ⟨_, rfl, h⟩
theorem int_ne_own (a : Int) (t : Tok) (x C dx : Addr) : Meets (Builtin.«int.__ne__» ⟨[.int a t, .ref x], []⟩) (fun _ R s => s.heap.get? x = some (PySem.W.instObj C dx) ∧ R (.ok (.ret Value.notImplemented)) s) :=
  .of_wp fun prog w A R s h => by obtain ⟨hp, g, d, tk, os⟩ := s; obtain ⟨hl, h⟩ := h; unfold PySem.W.instObj at hl; wp_walk; exact ⟨_, rfl, h⟩
section
open PySem.W PySem.Calls
variable {prog : Program} {w : World} {A : Around} {E : Value → Shared → Prop} {s : Shared} {K : Frag} {x C L f g dx : Addr} {h₀ : Heap} {m : Str → Option Value} {od : Option Obj}
theorem cmp_refl {op : CmpOp} {n : Int} {t : Tok} {id : String} {B : Builtin} {Q : Value → Shared → Prop} (hu : A.units < cLine) (F : Fr h₀ L s.heap m) (X₀ : K.In h₀) (I : PySem.W.InstAt s.heap x (PySem.W.instObj C dx) C od)
    (hr : findIn K (.ref C) (cmpInfo op).2.2 = some (some (.ref g))) (hg : isFn K (.ref g) = true)
    (hsub : subIn K (.ref C) (.type "int") = some false) (slot : Slot "int" (cmpInfo op).2.1 id) (entry : entryFor table id = some B) (args : argsOk id ⟨[.int n t, .ref x], []⟩)
    (mt : Meets (B ⟨[.int n t, .ref x], []⟩) (fun _ R s => s.heap.get? x = some (PySem.W.instObj C dx) ∧ R (.ok (.ret Value.notImplemented)) s))
    (h : wpAny (model prog w) A (call (.ref g) [.ref x, .int n t]) (PySem.W.CmpBack Q) E s) : wpAny (model prog w) A (richCompare op (.int n t) (.ref x)) Q E s := by
  have X := X₀.keeps F.keep
  have one : wpAny (model prog w) A (tryCompare (.ref x) (cmpInfo op).2.2 (.int n t)) (fun r s' => ∃ v, r = some v ∧ Q v s') E s := by
    unfold tryCompare
    refine wpAny_bind (ifBound_K X I hr hg (wpAny_mono h (fun v s' hv => ?_) fun _ _ e => e))
    cases v <;> first | exact hv.elim | exact wpAny_pure ⟨_, rfl, hv⟩
  have ot : oneThing? op (.int n t) (.ref x) = none := rfl
  unfold richCompare
  simp only [ot]
  refine wpAny_holding (wpAny_bind (wpAny_cRoomFor hu ?_))
  refine wpAny_bind (wpAny_typeOf (typeIs_int s n t) (wpAny_bind (I.type.here ?_)))
  have hne : (Value.type "int" != Value.ref C) = true := by
    rw [bne_iff_ne]
    intro q
    cases q
  simp only [hne, if_true]
  refine wpAny_bind ((looks_subIn X hsub).here ?_)
  simp only [Bool.false_eq_true, if_false, Bool.not_false, if_true]
  refine wpAny_bind (wpAny_tryCompare_declines (typeIs_int s n t) slot (call_meets slot (typeIs_int s n t) entry args mt ⟨I.at_, ?_⟩))
  refine ⟨rfl, ?_⟩
  refine wpAny_bind (wpAny_mono one (fun r s' hr' => ?_) fun _ _ e => e)
  obtain ⟨v, rfl, hq⟩ := hr'
  exact wpAny_pure hq
end
section
variable {X : Cx} {k : Nat} {C : Addr} {ps : List Str} {sp : Sp} {op : CmpOp}
def oB (Q : VK) : VK := fun v H2 => ∃ b, v = .bl b ∧ Q (.bl b) H2
/-- own op y: y of the same class -/
def cOO (C : Addr) (sp : Sp) : R2 := fun x y H Q => ∃ (a dx : Addr) (gs : List (Str × V)) (b dy : Addr) (hs : List (Str × V)), x = .ref a ∧ H a = some (.ins C dx gs) ∧ y = .ref b ∧ H b = some (.ins C dy hs) ∧ sp [.ref a, .ref b] H (oB Q) E0
def cOI (C : Addr) (sp : Sp) : R2 := fun x y H Q => ∃ (a dx : Addr) (gs : List (Str × V)) (n : Int), x = .ref a ∧ H a = some (.ins C dx gs) ∧ y = .int n ∧ sp [.ref a, .int n] H (oB Q) E0
def cIO (C : Addr) (sp : Sp) : R2 := fun x y H Q => ∃ (a dx : Addr) (gs : List (Str × V)) (n : Int), y = .ref a ∧ H a = some (.ins C dx gs) ∧ x = .int n ∧ sp [.ref a, .int n] H (oB Q) E0
theorem backB {pins : List (Addr × Obj)} {σ : L2.St} {Q : VK} {r : Value} {s' : Shared} (h : EP X pins σ (oB Q) r s') : PySem.W.CmpBack (EP X pins σ Q) r s' := by
  obtain ⟨z, H2, I2, rz, c, rfl, q2⟩ := h
  cases rz
  exact ⟨V.bl c, H2, I2, rfl, q2⟩
theorem cmp_oo (hop : ∀ a b, compareOp op a b = richCompare op a b) (M : OpOwn X.prog X.w X.K X.mg X.base k C (cmpInfo op).2.1 ps sp) (hu : X.A.units < cLine) (hr : Room k X.A) : OpR X (compareOp op) (cOO C sp) := by
  obtain ⟨f, fd, hs, hf, F, b⟩ := M.ex
  intro pins s σ H x y v u Q I rx ry h
  obtain ⟨a, dx, gs, b', dy, gs', rfl, ea, rfl, eb, q⟩ := h
  cases rx
  cases ry
  obtain ⟨mA, J, _⟩ := ins_get I.hok ea
  obtain ⟨od, J, _⟩ := J.look
  obtain ⟨mB, J', _⟩ := ins_get I.hok eb
  obtain ⟨od', J', _⟩ := J'.look
  obtain ⟨m, hF⟩ := I.fr
  rw [hop]
  refine PySem.W.cmp_K hu hF I.ok.mod.kin J J'.type (by unfold PySem.W.notFirst; simp) hs hf (wpAny_mono (run_fn F hr b (dvs := []) .nil pass0 I (.cons (show RelV (.ref a) (.ref a) from rfl) (.cons (show RelV (.ref b') (.ref b') from rfl) .nil)) q) (fun r s' hr => backB hr) fun _ _ z => z)
theorem cmp_oi (hop : ∀ a b, compareOp op a b = richCompare op a b) (M : OpOwn X.prog X.w X.K X.mg X.base k C (cmpInfo op).2.1 ps sp) (hsub : PySem.W.subIn X.K (.type "int") (.ref C) = some false) (hu : X.A.units < cLine) (hr : Room k X.A) : OpR X (compareOp op) (cOI C sp) := by
  obtain ⟨f, fd, hs, hf, F, b⟩ := M.ex
  intro pins s σ H x y v u Q I rx ry h
  obtain ⟨a, dx, gs, n, rfl, ea, rfl, q⟩ := h
  cases rx
  obtain ⟨t, rfl⟩ := ry
  obtain ⟨mA, J, _⟩ := ins_get I.hok ea
  obtain ⟨od, J, _⟩ := J.look
  obtain ⟨m, hF⟩ := I.fr
  rw [hop]
  refine PySem.W.cmp_K (tb := .type "int") hu hF I.ok.mod.kin J (PySem.W.Looks.of_pure rfl) (by unfold PySem.W.notFirst; rw [hsub]; simp) hs hf (wpAny_mono (run_fn F hr b (dvs := []) .nil pass0 I (.cons (show RelV (.ref a) (.ref a) from rfl) (.cons (show RelV (.int n) (.int n t) from ⟨_, rfl⟩) .nil)) q) (fun r s' hr => backB hr) fun _ _ z => z)
theorem cmp_io {id : String} {B : Builtin} (hop : ∀ a b, compareOp op a b = richCompare op a b) (M : OpOwn X.prog X.w X.K X.mg X.base k C (cmpInfo op).2.2 ps sp) (hsub : PySem.W.subIn X.K (.ref C) (.type "int") = some false) (slot : Slot "int" (cmpInfo op).2.1 id) (entry : entryFor table id = some B) (args : ∀ a b, argsOk id ⟨[a, b], []⟩)
    (mt : ∀ (n : Int) (t : Tok) (x C dx : Addr), Meets (B ⟨[.int n t, .ref x], []⟩) (fun _ R s => s.heap.get? x = some (PySem.W.instObj C dx) ∧ R (.ok (.ret Value.notImplemented)) s)) (hu : X.A.units < cLine) (hr : Room k X.A) : OpR X (compareOp op) (cIO C sp) := by
  obtain ⟨f, fd, hs, hf, F, b⟩ := M.ex
  intro pins s σ H x y v u Q I rx ry h
  obtain ⟨a, dx, gs, n, rfl, ea, rfl, q⟩ := h
  cases ry
  obtain ⟨t, rfl⟩ := rx
  obtain ⟨mA, J, _⟩ := ins_get I.hok ea
  obtain ⟨od, J, _⟩ := J.look
  obtain ⟨m, hF⟩ := I.fr
  rw [hop]
  refine cmp_refl hu hF I.ok.mod.kin J hs hf hsub slot entry (args _ _) (mt n t a C dx) (wpAny_mono (run_fn F hr b (dvs := []) .nil pass0 I (.cons (show RelV (.ref a) (.ref a) from rfl) (.cons (show RelV (.int n) (.int n t) from ⟨_, rfl⟩) .nil)) q) (fun r s' hr => backB hr) fun _ _ z => z)
end
end Bx

set_option Elab.async false
set_option linter.all false
set_option maxRecDepth 100000
set_option maxHeartbeats 4000000
namespace Bx
open PySem PySem.Spec PyProof.Rows L2 Fl
section
variable {X : Cx} {k : Nat} {C : Addr} {x m : Str} {ps : List Str} {dvs : List V} {sp : Sp} {E : L2.St → XK} {p pos apos : Pos} {e o : Expr} {es : List Expr} {t : TA} {tv ta : TE}
/-- v(e, ..), v a local that holds the class at C -/
def tMakeV (C : Addr) (sp : Sp) (dvs : List V) (E : L2.St → XK) (tv : TE) (t : TA) : TE := fun σ H Q => tv σ H fun v H1 => v = .ref C ∧ t σ H1 fun vs H2 => ∀ x dx, H2 x = none → H2 dx = none → dx ≠ x →
  sp (.ref x :: (vs ++ dvs)) (upd (upd H2 dx (.own x)) x (.ins C dx [])) (fun v H2 => v = .non ∧ Q (.ref x) H2) (E σ)
theorem pe_mkV (M : CalC X.prog X.w X.K X.mg X.base (L2.CX X.prog X.w) k C x ps dvs sp) (hx : ∀ σ, PassesAt (L2.CX X.prog X.w) X σ (E σ)) (hr : Room (k + 1) X.A) {y : Str} (hv : PE X (.Name y p) tv) (ha : PA X (e :: es) t)
    (he : starEach (e :: es) X.env = (false, eval e X.env) :: starEach es X.env := by rfl) (hpl : (backTo pos (starEach es X.env)).any (·.1) = false := by rfl) :
    PE X (.Call (.Name y p) (e :: es) [] pos) (tMakeV C sp dvs E tv t) := by
  obtain ⟨f, fd, ds, M, F, hm, hb, hd⟩ := M.ex
  refine ⟨fun pins s σ H Q I h => ?_⟩
  refine wpAny_Call_Name_kw (thn (hv.run pins s σ H _ I h) fun u s1 ⟨v, H1, I1, rv, ev, q⟩ => ?_)
  subst ev
  cases rv
  refine PySem.W.callWith_K (h₀ := X.base) I1.ok.mod.kin M.kp (thn (ha.run pos pins s1 σ H1 _ I1 q) fun us s2 ⟨vs, H2, I2, r, q2⟩ => ⟨I2.kIn, ?_⟩) he hpl
  exact run_makeS (E := E) M F hr hb hd (hx σ) I2 r q2
/-- a classmethod of C by the name m -/
structure CalCM (P : Program) (w : World) (K : PySem.W.Frag) (mg : Str → Option Value) (base : Heap) (k : Nat) (C : Addr) (m : Str) (ps : List Str) (sp : Sp) : Prop where
  ex : ∃ (mc : Value) (p g : Addr) (fd : FuncData), ClX.CRead K C mc ∧ ClX.CMet K C mc m p g ∧ FnOk P w K mg base (L2.CX P w) k g fd ps sp ∧ Binds K fd ps []
def tCMethS (C : Addr) (sp : Sp) (E : L2.St → XK) (ta : TE) (t : TA) : TE := fun σ H Q => ta σ H fun x H1 => x = .ref C ∧ t σ H1 fun vs H2 => sp (.ref C :: vs) H2 Q (E σ)
theorem pe_cm {pl : Sem Bool} (M : CalCM X.prog X.w X.K X.mg X.base k C m ps sp) (hx : ∀ σ, PassesAt (L2.CX X.prog X.w) X σ (E σ)) (hr : Room k X.A) (he : PE X o ta) (ha : PA X (e :: es) t)
    (hst : starEach (e :: es) X.env = (false, eval e X.env) :: starEach es X.env := by rfl) (hpl : (backTo pos (starEach es X.env)).any (·.1) = false := by rfl)
    (ht : eval (.Call (.Attribute o m apos) (e :: es) [] pos) X.env = (do
      let ov ← eval o X.env
      standAt apos.atName
      let (f, first) ← holding [ov] (getMethod ov m pl)
      callWith pos f first (backTo pos (starEach (e :: es) X.env)) (backToKw pos (keywordEach [] X.env))) := by rfl) :
    PE X (.Call (.Attribute o m apos) (e :: es) [] pos) (tCMethS C sp E ta t) := by
  obtain ⟨mc, pp, g, fd, r, c, F, b⟩ := M.ex
  refine ⟨fun pins s σ H Q I h => ?_⟩
  refine PySem.W.methodCall_KW (pl := pl) (thn (he.run pins s σ H _ I h) fun u s1 ⟨x, H1, I1, rx, ex, q⟩ => ?_) ht
  subst ex
  obtain rfl : u = Value.ref C := rx
  refine ClX.getmethcm_ok I1 r c fun s2 I2 => ?_
  refine ClX.callwith_cm I2 (ClX.base_none I1 (Nat.le_refl _)) c.fi (thn (ha.run pos _ s2 σ H1 _ I2 q) fun us s3 ⟨vs, H2, I3, rv, q2⟩ => ⟨⟨ClX.pin_at I3, I3.kIn⟩, ?_⟩) hst hpl
  have hl := F.len _ _ _ _ q2
  have r2 : Vals (V.ref C :: vs) (Value.ref C :: us) := .cons (show RelV (.ref C) (.ref C) from rfl) rv
  have bb := b s3 (Value.ref C :: us) I3.kIn (by rw [List.append_nil, ← r2.length]; exact hl)
  rw [List.append_nil] at bb
  have z : wpAny (model X.prog X.w) X.A (call (.ref s1.heap.objs.size) us) (EP X ((s1.heap.objs.size, PySem.W.methodObj (.ref g) (.ref C)) :: pins) σ Q) X.xe s3 := by
    refine wpAny_call (PySem.W.method_call (ClX.pin_at I3) (codeAny_mono (F.run X.A X.stack s3 H2 ⟨Value.ref C :: us, []⟩ (Value.ref C :: us) (V.ref C :: vs) Q (E σ) hr I3.env0 bb r2 q2) fun r s' hq => ?_))
    cases r with
    | error e => exact hx σ _ H2 s3 e s' I3 hq
    | ok fl =>
      cases fl with
      | ret u => exact I3.after hq
      | next => exact False.elim hq
      | brk => exact False.elim hq
      | cont => exact False.elim hq
  exact thn z fun _ _ y => ClX.unpinE y
end
end Bx

set_option Elab.async false
set_option linter.all false
set_option maxRecDepth 100000
set_option maxHeartbeats 4000000
namespace Fl
open PySem PySem.Spec PyProof.Rows L2
/-! ### what stands in a heap, as a list of places and objects -/
def Al (fs : List (Addr × HO)) (H : Hp) : Prop := ∀ a o, (a, o) ∈ fs → H a = some o
theorem Al.nil {H : Hp} : Al [] H := fun _ _ h => nomatch h
theorem Al.at {fs : List (Addr × HO)} {H : Hp} {a : Addr} {o : HO} (W : Al fs H) (h : (a, o) ∈ fs) : H a = some o := W a o h
theorem Al.same {fs : List (Addr × HO)} {H H' : Hp} (W : Al fs H) (s : Same H H') : Al fs H' := fun a o h => s a o (W a o h)
theorem Al.got {fs : List (Addr × HO)} {H : Hp} {a : Addr} {o : HO} (W : Al fs H) (h : H a = some o) : Al ((a, o) :: fs) H := fun b u hm => by
  rcases List.mem_cons.mp hm with e | e
  · cases e
    exact h
  · exact W b u e
theorem Al.new {fs : List (Addr × HO)} {H : Hp} {a : Addr} {o : HO} (W : Al fs H) (h : H a = none) : Al ((a, o) :: fs) (upd H a o) := (W.same (same_upd h)).got upd_same
structure Wd (p : Pla) (fs : List (Addr × HO)) (H : Hp) : Prop where
  P : Pool H p
  W : Al fs H
  n : ∀ a o, (a, o) ∈ fs → a ≠ p.p
theorem Wd.nil {p : Pla} {H : Hp} (h : Pool H p) : Wd p [] H := ⟨h, Al.nil, fun _ _ h => nomatch h⟩
theorem Wd.at {p : Pla} {fs : List (Addr × HO)} {H : Hp} {a : Addr} {o : HO} (W : Wd p fs H) (h : (a, o) ∈ fs) : H a = some o := W.W a o h
theorem Wd.same {p : Pla} {fs : List (Addr × HO)} {H H' : Hp} (W : Wd p fs H) (s : Same H H') : Wd p fs H' := ⟨W.P.same s, W.W.same s, W.n⟩
theorem Wd.keep {p : Pla} {fs : List (Addr × HO)} {H H' : Hp} (W : Wd p fs H) (hP : Pool H' p) (k : Keeps H H' p.p) : Wd p fs H' := ⟨hP, fun a o h => k a o (W.W a o h) (W.n a o h), W.n⟩
theorem Wd.got {p : Pla} {fs : List (Addr × HO)} {H : Hp} {a : Addr} {o : HO} (W : Wd p fs H) (h : H a = some o) (ne : ∀ xs, o ≠ .lst xs) : Wd p ((a, o) :: fs) H := ⟨W.P, W.W.got h, fun b u hm => by
  rcases List.mem_cons.mp hm with e | e
  · cases e
    obtain ⟨ns, i, b, c, d, h1, _⟩ := W.P
    exact ne_of h h1 (ne _)
  · exact W.n b u e⟩
theorem Wd.new {p : Pla} {fs : List (Addr × HO)} {H : Hp} {a : Addr} {o : HO} (W : Wd p fs H) (h : H a = none) : Wd p ((a, o) :: fs) (upd H a o) := ⟨W.P.upd h, W.W.new h, fun b u hm => by
  rcases List.mem_cons.mp hm with e | e
  · cases e
    exact (W.P.apart h).1
  · exact W.n b u e⟩
/-! ### tests whose answer is known -/
theorem itT {p : Prop} [Decidable p] {A B : Prop} (h : p) (a : A) : if decide p = true then A else B := by rw [decide_eq_true h]; exact iteT a
theorem itF {p : Prop} [Decidable p] {A B : Prop} (h : ¬ p) (b : B) : if decide p = true then A else B := by rw [decide_eq_false h]; exact iteF b
theorem niT {p : Prop} [Decidable p] {A B : Prop} (h : p) (b : B) : if (!decide p) = true then A else B := by rw [decide_eq_true h]; exact iteF b
theorem niF {p : Prop} [Decidable p] {A B : Prop} (h : ¬ p) (a : A) : if (!decide p) = true then A else B := by rw [decide_eq_false h]; exact iteT a
theorem ieT {a b : Int} {A B : Prop} (h : a = b) (x : A) : if decide (V.int a = V.int b) = true then A else B := itT (by rw [h]) x
theorem ieF {a b : Int} {A B : Prop} (h : a ≠ b) (x : B) : if decide (V.int a = V.int b) = true then A else B := itF (fun e => h (V.int.inj e)) x
theorem jeT {a b : Int} {A B : Prop} (h : a = b) (x : B) : if (!decide (V.int a = V.int b)) = true then A else B := niT (by rw [h]) x
theorem jeF {a b : Int} {A B : Prop} (h : a ≠ b) (x : A) : if (!decide (V.int a = V.int b)) = true then A else B := niF (fun e => h (V.int.inj e)) x
/-! ### values that are known -/
theorem vT {Q : VK} {H : Hp} {p : Prop} [Decidable p] (h : p) (q : Q (.bl true) H) : Q (.bl (decide p)) H := by rw [decide_eq_true h]; exact q
theorem vF {Q : VK} {H : Hp} {p : Prop} [Decidable p] (h : ¬ p) (q : Q (.bl false) H) : Q (.bl (decide p)) H := by rw [decide_eq_false h]; exact q
theorem veT {Q : VK} {H : Hp} {a b : Int} (h : a = b) (q : Q (.bl true) H) : Q (.bl (decide (V.int a = V.int b))) H := vT (by rw [h]) q
theorem veF {Q : VK} {H : Hp} {a b : Int} (h : a ≠ b) (q : Q (.bl false) H) : Q (.bl (decide (V.int a = V.int b))) H := vF (fun e => h (V.int.inj e)) q
/-! ### bounds -/
theorem ba {i j : Int} {a : Nat} (h1 : i.natAbs < 2 ^ a) (h2 : j.natAbs < 2 ^ a) : (i + j).natAbs < 2 ^ (a + 1) := by
  rw [Nat.pow_succ]
  generalize 2 ^ a = z at *
  omega
theorem bs {i j : Int} {a : Nat} (h1 : i.natAbs < 2 ^ a) (h2 : j.natAbs < 2 ^ a) : (i - j).natAbs < 2 ^ (a + 1) := by
  rw [Nat.pow_succ]
  generalize 2 ^ a = z at *
  omega
theorem bn {i : Int} {a : Nat} (h1 : i.natAbs < 2 ^ a) : (-i).natAbs < 2 ^ a := by
  rw [Int.natAbs_neg]
  exact h1
theorem ub {n : Int} {a b : Nat} (h : n.natAbs < 2 ^ a) (k : a ≤ b) : n.natAbs < 2 ^ b := Nat.lt_of_lt_of_le h (Nat.pow_le_pow_right (by decide) k)
end Fl
namespace Fl
open PySem PySem.Spec PyProof.Rows L2
theorem Al.drop {x : Addr × HO} {fs : List (Addr × HO)} {H : Hp} (W : Al (x :: fs) H) : Al fs H := fun a o h => W a o (List.mem_cons_of_mem _ h)
theorem Wd.drop {p : Pla} {x : Addr × HO} {fs : List (Addr × HO)} {H : Hp} (W : Wd p (x :: fs) H) : Wd p fs H := ⟨W.P, W.W.drop, fun a o h => W.n a o (List.mem_cons_of_mem _ h)⟩
end Fl

set_option Elab.async false
set_option linter.all false
set_option maxRecDepth 100000
set_option maxHeartbeats 4000000
namespace Bx
open PySem PySem.Spec PyProof.Rows L2 Fl
section
open PySem.W PySem.Calls
variable {prog : Program} {w : World} {A : Around} {E : Value → Shared → Prop} {s : Shared} {K : Frag} {x C L f dx : Addr} {h₀ : Heap} {m : Str → Option Value} {od : Option Obj} {ox : Obj} {b tb : Value}
open Builtin in
theorem obj_ne {Q : Value → Shared → Prop} (hu : A.in1.units < cLine) (X : K.In s.heap) (I : PySem.W.InstAt s.heap x ox C od) (hm : mroIn K C (.type "object") = some true) (hs : findIn K (.ref C) "__eq__" = some (some (.ref f))) (hf : isFn K (.ref f) = true)
    (h : wpAny (model prog w) A.in1 (call (.ref f) [.ref x, b]) (fun v s' => ∃ c, v = .bool c ∧ Q (.bool (!c)) s') E s) : wpAny (model prog w) A (call (.builtin "object.__ne__") [.ref x, b]) Q E s := by
  refine wpAny_call (codeAny_call_builtin PySem.F.slot_object_ne.plain PySem.F.entry_object_ne (check_slot (i := "object.__ne__") (owner := "object") (n := "__ne__") (by decide +kernel) (by decide +kernel) (I.type.andThen (looks_mroIn X hm)) (PySem.F.args_object_ne_2 _ _) ?_))
  unfold Builtin.«object.__ne__»
  refine wpAny_bind (m := slotArgs "__ne__" 1 _) (wpAny_pure ?_)
  refine wpAny_bind (m := cRoomFor _ _) (wpAny_cRoomFor hu ?_)
  refine wpAny_bind (m := callSpecialIfBound? (.ref x) (Str.ofString "__eq__") _) (ifBound_K X I hs hf (wpAny_mono h (fun r s' hq => ?_) fun _ _ y => y))
  obtain ⟨c, rfl, hq⟩ := hq
  exact wpAny_bind (m := truthy (.bool _)) (wpAny_truthy_bool (wpAny_pure hq))
theorem try_ne {Q : Value → Shared → Prop} (hu : A.in1.units < cLine) (X : K.In s.heap) (I : PySem.W.InstAt s.heap x ox C od) (hm : mroIn K C (.type "object") = some true) (hN : findIn K (.ref C) "__ne__" = some (some (.builtin "object.__ne__"))) (hs : findIn K (.ref C) "__eq__" = some (some (.ref f))) (hf : isFn K (.ref f) = true)
    (h : wpAny (model prog w) A.in1 (call (.ref f) [.ref x, b]) (fun v s' => ∃ c, v = .bool c ∧ Q (.bool (!c)) s') E s) : wpAny (model prog w) A (tryCompare (.ref x) "__ne__" b) (fun r s' => ∃ v, r = some v ∧ Q v s') E s := by
  have fin : wpAny (model prog w) A (call (.builtin "object.__ne__") [.ref x, b] >>= fun v => pure (some v)) (fun r s' => ∃ c, r = some (.bool c) ∧ Q (.bool c) s') E s :=
    wpAny_bind (wpAny_mono (obj_ne (Q := fun v s' => ∃ c, v = .bool c ∧ Q (.bool c) s') hu X I hm hs hf (wpAny_mono h (fun v s' ⟨c, e, q⟩ => ⟨c, e, _, rfl, q⟩) fun _ _ e => e)) (fun v s' ⟨c, e, q⟩ => wpAny_pure ⟨c, by rw [e], q⟩) fun _ _ e => e)
  unfold tryCompare
  refine wpAny_bind (wpAny_mono (Q := fun r s' => ∃ c, r = some (.bool c) ∧ Q (.bool c) s') ?_ (fun r s' ⟨c, e, q⟩ => ?_) fun _ _ e => e)
  · simp only [callSpecialIfBound?, bindSpecialIfBound?]
    refine wpAny_holding (wpAny_bind (wpAny_bind (wpAny_bind (I.type.here ((looks_findIn X hN).here ?_)))))
    refine wpAny_bind (wpAny_askSetting (wpAny_ite ?_))
    split
    · exact wpAny_bind ((Looks.of_pure (PySem.F.slot_object_ne.bind _)).here (wpAny_pure (by exact fin)))
    · exact wpAny_tryCatch (wpAny_bind ((Looks.of_pure (PySem.F.slot_object_ne.bind _)).here (wpAny_pure (by exact fin))))
  · subst e
    exact wpAny_pure ⟨_, rfl, q⟩
theorem ne_K {Q : Value → Shared → Prop} (hu : A.in1.units < cLine) (hu0 : A.units < cLine) (F : Fr h₀ L s.heap m) (X₀ : K.In h₀) (I : PySem.W.InstAt s.heap x ox C od) (hb : Looks (model prog w) s.heap (typeOf b) tb) (hn : notFirst K C tb = true) (hm : mroIn K C (.type "object") = some true)
    (hN : findIn K (.ref C) "__ne__" = some (some (.builtin "object.__ne__"))) (hs : findIn K (.ref C) "__eq__" = some (some (.ref f))) (hf : isFn K (.ref f) = true)
    (h : wpAny (model prog w) A.in1 (call (.ref f) [.ref x, b]) (fun v s' => ∃ c, v = .bool c ∧ Q (.bool (!c)) s') E s) : wpAny (model prog w) A (richCompare .NotEq (.ref x) b) Q E s := by
  have X := X₀.keeps F.keep
  have one := try_ne (Q := Q) hu X I hm hN hs hf h
  unfold richCompare
  simp only [oneThing_ref]
  refine wpAny_holding (wpAny_bind (wpAny_cRoomFor hu0 ?_))
  refine wpAny_bind (I.type.here (wpAny_bind (hb.here ?_)))
  unfold notFirst at hn
  by_cases hne : (Value.ref C != tb) = true
  · simp only [hne, if_true]
    by_cases h0 : subIn K tb (.ref C) = some false
    · refine wpAny_bind ((looks_subIn X h0).here ?_)
      simp only [Bool.false_eq_true, if_false]
      refine wpAny_bind (wpAny_mono one (fun r s' hr' => ?_) fun _ _ e => e)
      obtain ⟨v, rfl, hq⟩ := hr'
      exact wpAny_pure hq
    · exfalso
      have e : (tb == Value.ref C) = false := by
        rw [beq_eq_false_iff_ne]
        intro q
        rw [q] at hne
        simp at hne
      simp [e, h0] at hn
  · simp only [hne, Bool.false_eq_true, if_false]
    refine wpAny_bind (wpAny_pure ?_)
    simp only [Bool.false_eq_true, if_false]
    refine wpAny_bind (wpAny_mono one (fun r s' hr' => ?_) fun _ _ e => e)
    obtain ⟨v, rfl, hq⟩ := hr'
    exact wpAny_pure hq
theorem ne_refl {n : Int} {t : Tok} {Q : Value → Shared → Prop} (hu : A.in1.units < cLine) (hu0 : A.units < cLine) (F : Fr h₀ L s.heap m) (X₀ : K.In h₀) (I : PySem.W.InstAt s.heap x (PySem.W.instObj C dx) C od) (hm : mroIn K C (.type "object") = some true)
    (hN : findIn K (.ref C) "__ne__" = some (some (.builtin "object.__ne__"))) (hs : findIn K (.ref C) "__eq__" = some (some (.ref f))) (hf : isFn K (.ref f) = true) (hsub : subIn K (.ref C) (.type "int") = some false)
    (h : wpAny (model prog w) A.in1 (call (.ref f) [.ref x, .int n t]) (fun v s' => ∃ c, v = .bool c ∧ Q (.bool (!c)) s') E s) : wpAny (model prog w) A (richCompare .NotEq (.int n t) (.ref x)) Q E s := by
  have X := X₀.keeps F.keep
  have one := try_ne (Q := Q) hu X I hm hN hs hf h
  have ot : oneThing? .NotEq (.int n t) (.ref x) = none := rfl
  unfold richCompare
  simp only [ot]
  refine wpAny_holding (wpAny_bind (wpAny_cRoomFor hu0 ?_))
  refine wpAny_bind (wpAny_typeOf (typeIs_int s n t) (wpAny_bind (I.type.here ?_)))
  have hne : (Value.type "int" != Value.ref C) = true := by
    rw [bne_iff_ne]
    intro q
    cases q
  simp only [hne, if_true]
  refine wpAny_bind ((looks_subIn X hsub).here ?_)
  simp only [Bool.false_eq_true, if_false, Bool.not_false, if_true]
  refine wpAny_bind (wpAny_tryCompare_declines (typeIs_int s n t) PySem.F.slot_int_ne (call_meets PySem.F.slot_int_ne (typeIs_int s n t) PySem.F.entry_int_ne (PySem.F.args_int_ne_2 _ _) (int_ne_own n t x C dx) ⟨I.at_, ?_⟩))
  refine ⟨rfl, ?_⟩
  refine wpAny_bind (wpAny_mono one (fun r s' hr' => ?_) fun _ _ e => e)
  obtain ⟨v, rfl, hq⟩ := hr'
  exact wpAny_pure hq
end
end Bx

set_option Elab.async false
set_option linter.all false
set_option maxRecDepth 100000
set_option maxHeartbeats 4000000
namespace Bx
open PySem PySem.Spec PyProof.Rows L2 Fl
section
open PySem.W PySem.Calls
variable {prog : Program} {w : World} {A : Around} {E : Value → Shared → Prop} {s : Shared}
theorem bool_in (x : Value) : MeetsIn prog w (Builtin.«bool.__new__» ⟨[.type "bool", x], []⟩) (fun A R s => wpAny (model prog w) A.in1 (truthy x) (fun c s' => R (.ok (.ret (.bool c))) s') (fun e s' => R (.error e) s') s) :=
  .of_wp fun A R s h => by
    have f1 := F.conv_sub_bool
    obtain ⟨hp, g, d, tk, os⟩ := s
    repeat (any_goals (first | assumption | (with_reducible refine wpAny_mono h (fun c s' q => ?_) fun _ _ z => z) | wp_step))
    all_goals first | exact ⟨_, rfl, q⟩ | exact q | skip
theorem call_bool_own {x : Value} {Q : Value → Shared → Prop} (h : wpAny (model prog w) A.in1.in1 (truthy x) (fun c s' => Q (.bool c) s') E s) : wpAny (model prog w) A (call (.type "bool") [x]) Q E s :=
  callType_newIn F.called_bool F.newNe_bool (F.typeCall_bool_1 x) (F.newCall_bool_1 x) (fun obj => F.args_object_init_2 obj x) F.entry_bool_new (bool_in x) (wpAny_mono h (fun c s' q => ⟨rfl, q⟩) fun _ _ z => z)
end
end Bx
namespace Bx
open PySem PySem.Spec PyProof.Rows L2 Fl
section
variable {X : Cx} {k : Nat} {C : Addr} {ps : List Str} {sp : Sp}
/-- a def of one's own run one frame in -/
theorem run_in1 {pins : List (Addr × Obj)} {s : Shared} {σ : L2.St} {H : Hp} {f : Addr} {fd : FuncData} {us : List Value} {vs : List V} {Q : VK} (F : FnOk X.prog X.w X.K X.mg X.base CX0 k f fd ps sp) (bd : Binds X.K fd ps []) (hr : Room (k + 1) X.A) (I : Inv X pins σ H s) (r : Vals vs us) (q : sp vs H Q E0) :
    wpAny (model X.prog X.w) X.A.in1 (call (.ref f) us) (EP X pins σ Q) X.xe s := by
  have hl := F.len _ _ _ _ q
  have bb := bd s us I.kIn (by rw [List.append_nil]; rw [← r.length]; exact hl)
  rw [List.append_nil] at bb
  refine wpAny_call (codeAny_mono (F.run X.A.in1 X.stack s H ⟨us, []⟩ us vs Q E0 hr.in1 I.env0.in1 bb r q) fun r s' hq => ?_)
  cases r with
  | error e => exact pass0 pins σ H s e s' I hq
  | ok fl =>
    cases fl with
    | ret z => exact I.after hq
    | next => exact False.elim hq
    | brk => exact False.elim hq
    | cont => exact False.elim hq
theorem run_in2 {pins : List (Addr × Obj)} {s : Shared} {σ : L2.St} {H : Hp} {f : Addr} {fd : FuncData} {us : List Value} {vs : List V} {Q : VK} (F : FnOk X.prog X.w X.K X.mg X.base CX0 k f fd ps sp) (bd : Binds X.K fd ps []) (hr : Room (k + 2) X.A) (I : Inv X pins σ H s) (r : Vals vs us) (q : sp vs H Q E0) :
    wpAny (model X.prog X.w) X.A.in1.in1 (call (.ref f) us) (EP X pins σ Q) X.xe s := by
  have hl := F.len _ _ _ _ q
  have bb := bd s us I.kIn (by rw [List.append_nil]; rw [← r.length]; exact hl)
  rw [List.append_nil] at bb
  refine wpAny_call (codeAny_mono (F.run X.A.in1.in1 X.stack s H ⟨us, []⟩ us vs Q E0 hr.in1.in1 I.env0.in1.in1 bb r q) fun r s' hq => ?_)
  cases r with
  | error e => exact pass0 pins σ H s e s' I hq
  | ok fl =>
    cases fl with
    | ret z => exact I.after hq
    | next => exact False.elim hq
    | brk => exact False.elim hq
    | cont => exact False.elim hq
def oN (Q : VK) : VK := fun v H2 => ∃ c, v = .bl c ∧ Q (.bl (!c)) H2
theorem backN {pins : List (Addr × Obj)} {σ : L2.St} {Q : VK} {r : Value} {s' : Shared} (h : EP X pins σ (oN Q) r s') : ∃ c, r = .bool c ∧ EP X pins σ Q (.bool (!c)) s' := by
  obtain ⟨z, H2, I2, rz, c, rfl, q2⟩ := h
  cases rz
  exact ⟨c, rfl, V.bl (!c), H2, I2, rfl, q2⟩
structure NeC (K : PySem.W.Frag) (C : Addr) : Prop where
  hm : PySem.W.mroIn K C (.type "object") = some true
  hN : PySem.W.findIn K (.ref C) "__ne__" = some (some (.builtin "object.__ne__"))
  si : PySem.W.subIn K (.type "int") (.ref C) = some false
  sc : PySem.W.subIn K (.ref C) (.type "int") = some false
def nOX (C : Addr) (sp : Sp) : R2 := fun x y H Q => ∃ (a dx : Addr) (gs : List (Str × V)), x = .ref a ∧ H a = some (.ins C dx gs) ∧ ((∃ n : Int, y = .int n) ∨ ∃ (b dy : Addr) (hs : List (Str × V)), y = .ref b ∧ H b = some (.ins C dy hs)) ∧ sp [.ref a, y] H (oN Q) E0
def nIO (C : Addr) (sp : Sp) : R2 := fun x y H Q => ∃ (a dx : Addr) (gs : List (Str × V)) (n : Int), y = .ref a ∧ H a = some (.ins C dx gs) ∧ x = .int n ∧ sp [.ref a, .int n] H (oN Q) E0
theorem op_ne_ox (N : NeC X.K C) (M : OpOwn X.prog X.w X.K X.mg X.base k C "__eq__" ps sp) (hr : Room (k + 1) X.A) : OpR X (compareOp .NotEq) (nOX C sp) := by
  obtain ⟨f, fd, hs, hf, F, b⟩ := M.ex
  intro pins s σ H x y v u Q I rx ry h
  obtain ⟨a, dx, gs, rfl, ea, hy, q⟩ := h
  cases rx
  obtain ⟨mA, J, _⟩ := ins_get I.hok ea
  obtain ⟨od, J, _⟩ := J.look
  obtain ⟨m, hF⟩ := I.fr
  have run := run_in1 F b hr I (.cons (show RelV (.ref a) (.ref a) from rfl) (.cons ry .nil)) q
  have fin := wpAny_mono run (fun r s' z => backN z) fun _ _ z => z
  rcases hy with ⟨n, rfl⟩ | ⟨b', dy, gs', rfl, eb⟩
  · obtain ⟨t, rfl⟩ := ry
    exact ne_K (tb := .type "int") hr.in1.units0 hr.units0 hF I.ok.mod.kin J (PySem.W.Looks.of_pure rfl) (by unfold PySem.W.notFirst; rw [N.si]; simp) N.hm N.hN hs hf fin
  · cases ry
    obtain ⟨mB, J', _⟩ := ins_get I.hok eb
    obtain ⟨od', J', _⟩ := J'.look
    exact ne_K hr.in1.units0 hr.units0 hF I.ok.mod.kin J J'.type (by unfold PySem.W.notFirst; simp) N.hm N.hN hs hf fin
theorem op_ne_io (N : NeC X.K C) (M : OpOwn X.prog X.w X.K X.mg X.base k C "__eq__" ps sp) (hr : Room (k + 1) X.A) : OpR X (compareOp .NotEq) (nIO C sp) := by
  obtain ⟨f, fd, hs, hf, F, b⟩ := M.ex
  intro pins s σ H x y v u Q I rx ry h
  obtain ⟨a, dx, gs, n, rfl, ea, rfl, q⟩ := h
  cases ry
  obtain ⟨t, rfl⟩ := rx
  obtain ⟨mA, J, _⟩ := ins_get I.hok ea
  obtain ⟨od, J, _⟩ := J.look
  obtain ⟨m, hF⟩ := I.fr
  have run := run_in1 F b hr I (.cons (show RelV (.ref a) (.ref a) from rfl) (.cons (show RelV (.int n) (.int n t) from ⟨_, rfl⟩) .nil)) q
  exact ne_refl hr.in1.units0 hr.units0 hF I.ok.mod.kin J N.hm N.hN hs hf N.sc (wpAny_mono run (fun r s' z => backN z) fun _ _ z => z)
/-- own == y, y of a built-in type -/
def cOX (K : PySem.W.Frag) (C : Addr) (sp : Sp) : R2 := fun x y H Q => ∃ (a dx : Addr) (gs : List (Str × V)) (T : String), x = .ref a ∧ H a = some (.ins C dx gs) ∧ TyX K H y (.type T) ∧ PySem.W.subIn K (.type T) (.ref C) = some false ∧ sp [.ref a, y] H (oB Q) E0
theorem cmp_ox (M : OpOwn X.prog X.w X.K X.mg X.base k C "__eq__" ps sp) (hr : Room (k + 1) X.A) : OpR X (compareOp .Eq) (cOX X.K C sp) := by
  obtain ⟨f, fd, hs, hf, F, b⟩ := M.ex
  intro pins s σ H x y v u Q I rx ry h
  obtain ⟨a, dx, gs, T, rfl, ea, ty, hsub, q⟩ := h
  cases rx
  obtain ⟨mA, J, _⟩ := ins_get I.hok ea
  obtain ⟨od, J, _⟩ := J.look
  obtain ⟨m, hF⟩ := I.fr
  obtain ⟨P, kx, hp, _⟩ := kit_of I ry ty
  refine PySem.W.cmp_K (op := .Eq) hr.units0 hF I.ok.mod.kin J (kx.ty _ _ I.kIn hp) (by unfold PySem.W.notFirst; rw [hsub]; simp) hs hf ?_
  exact wpAny_mono (run_fn F (hr.mono (Nat.le_succ _)) b (dvs := []) .nil pass0 I (.cons (show RelV (.ref a) (.ref a) from rfl) (.cons ry .nil)) q) (fun r s' hr => backB hr) fun _ _ z => z
def rBoolO (C : Addr) (sp : Sp) : List V → Hp → VK → Prop := fun xs H Q => ∃ (a dx : Addr) (gs : List (Str × V)), xs = [.ref a] ∧ H a = some (.ins C dx gs) ∧ sp [.ref a] H (oB Q) E0
theorem call_boolO (M : OpOwn X.prog X.w X.K X.mg X.base k C "__bool__" ps sp) (hr : Room (k + 2) X.A) : CallR X (.type "bool") (rBoolO C sp) := by
  obtain ⟨f, fd, hs, hf, F, b⟩ := M.ex
  intro pins s σ H xs us Q I r h
  obtain ⟨a, dx, gs, rfl, ea, q⟩ := h
  obtain ⟨u, rfl, rx⟩ := vals1 r
  cases rx
  obtain ⟨mA, J, _⟩ := ins_get I.hok ea
  obtain ⟨od, J, _⟩ := J.look
  obtain ⟨m, hF⟩ := I.fr
  refine call_bool_own (PySem.W.truthy_K hF I.ok.mod.kin J hs hf (wpAny_mono (run_in2 F b hr I r q) (fun v s' hv => ?_) fun _ _ z => z))
  obtain ⟨z, H2, I2, rz, c, rfl, q2⟩ := hv
  cases rz
  exact ⟨V.bl c, H2, I2, rfl, q2⟩
def oS (Q : VK) : VK := fun v H2 => ∃ z, v = .str z ∧ Q (.str z) H2
def rStrO (C : Addr) (sp : Sp) : List V → Hp → VK → Prop := fun xs H Q => ∃ (a dx : Addr) (gs : List (Str × V)), xs = [.ref a] ∧ H a = some (.ins C dx gs) ∧ sp [.ref a] H (oS Q) E0
theorem call_strO (M : OpOwn X.prog X.w X.K X.mg X.base k C "__str__" ps sp) (hr : Room (k + 2) X.A) : CallR X (.type "str") (rStrO C sp) := by
  obtain ⟨f, fd, hs, hf, F, b⟩ := M.ex
  intro pins s σ H xs us Q I r h
  obtain ⟨a, dx, gs, rfl, ea, q⟩ := h
  obtain ⟨u, rfl, rx⟩ := vals1 r
  cases rx
  obtain ⟨mA, J, _⟩ := ins_get I.hok ea
  obtain ⟨od, J, _⟩ := J.look
  refine PySem.W.kso_call hr.in1.in1.units0 I.kIn J hs hf (wpAny_mono (run_in2 F b hr I r q) (fun v s' hv => ?_) fun _ _ z => z)
  obtain ⟨z, H2, I2, rz, c, rfl, q2⟩ := hv
  obtain ⟨t, rfl⟩ := rz
  exact ⟨V.str c, H2, I2, ⟨t, rfl⟩, q2⟩
def CPowW (i j : Int) : Prop := 0 ≤ j ∧ (Builtin.Int.intBits i : Int) * j ≤ 2 ^ 27
theorem op_powW : OpR X (binaryOp .Pow) (rI CPowW fun i j => .int (i ^ j.toNat)) := opI fun _ _ _ _ _ _ _ hc q => PyProof.Rows.pow_int hc.1 hc.2 q
end
end Bx

set_option Elab.async false
set_option linter.all false
set_option maxRecDepth 100000
set_option maxHeartbeats 4000000
namespace Fl
open PySem PySem.Spec PyProof.Rows L2
/-! ### a heap without one place -/
def wo (H : Hp) (d : Addr) : Hp := fun a => if a = d then none else H a
theorem wo_sub (H : Hp) (d : Addr) : Same (wo H d) H := fun a o h => by
  unfold wo at h
  split at h
  · cases h
  · exact h
theorem wo_same {H H' : Hp} (d : Addr) (s : Same H H') : Same (wo H d) (wo H' d) := fun a o h => by
  unfold wo at *
  split at h
  · cases h
  · rename_i n
    rw [if_neg n]
    exact s a o h
theorem wo_keep {H H' : Hp} {d : Addr} (s : Keeps H H' d) : Same (wo H d) (wo H' d) := fun a o h => by
  unfold wo at *
  split at h
  · cases h
  · rename_i n
    rw [if_neg n]
    exact s a o h n
theorem wo_upd {H : Hp} {d : Addr} {o : HO} : Same (wo H d) (wo (upd H d o) d) := fun a u h => by
  unfold wo at *
  split at h
  · cases h
  · rename_i n
    rw [if_neg n, upd_ne n]
    exact h
theorem wo_of {H : Hp} {d : Addr} (h : H d = none) : Same H (wo H d) := fun a o e => by
  unfold wo
  rw [if_neg (ne_of_none e h)]
  exact e
theorem wo_at {H : Hp} {d a : Addr} {o : HO} (h : H a = some o) (n : a ≠ d) : wo H d a = some o := by
  unfold wo
  rw [if_neg n]
  exact h
theorem same_late {H0 H : Hp} {D : Addr} {o : HO} (s : Same H0 H) (h : H0 D = none) : Same H0 (upd H D o) := fun b u e => by
  rw [upd_ne (ne_of_none e h)]
  exact s b u e
/-! ### lists whose items are told one by one -/
def LAt {α : Type} (R : Hp → V → α → Prop) (H : Hp) (a : Addr) (xs : List α) : Prop := ∃ vs : List V, H a = some (.lst vs) ∧ vs.length = xs.length ∧ ∀ (i : Nat) (x : α), xs[i]? = some x → ∃ v, vs[i]? = some v ∧ R H v x
def Mono {α : Type} (R : Hp → V → α → Prop) : Prop := ∀ (H H' : Hp) (v : V) (x : α), Same H H' → R H v x → R H' v x
theorem LAt.same {α : Type} {R : Hp → V → α → Prop} (m : Mono R) {H H' : Hp} {a : Addr} {xs : List α} (h : LAt R H a xs) (k : Same H H') : LAt R H' a xs := by
  obtain ⟨vs, h1, h2, h3⟩ := h
  refine ⟨vs, k _ _ h1, h2, fun i x hx => ?_⟩
  obtain ⟨v, hv, r⟩ := h3 i x hx
  exact ⟨v, hv, m _ _ _ _ k r⟩
theorem LAt.imp {α β : Type} {R : Hp → V → α → Prop} {S : Hp → V → β → Prop} {f : α → β} {H : Hp} {a : Addr} {xs : List α} (h : LAt R H a xs) (k : ∀ v x, R H v x → S H v (f x)) : LAt S H a (xs.map f) := by
  obtain ⟨vs, h1, h2, h3⟩ := h
  refine ⟨vs, h1, by rw [List.length_map]; exact h2, fun i y hy => ?_⟩
  rw [List.getElem?_map] at hy
  cases hx : xs[i]? with
  | none => rw [hx] at hy; cases hy
  | some x =>
    rw [hx] at hy
    cases hy
    obtain ⟨v, hv, r⟩ := h3 i x hx
    exact ⟨v, hv, k v x r⟩
theorem LAt.map {α : Type} {R : Hp → V → α → Prop} {H : Hp} {a : Addr} {xs : List α} {f : α → V} (h : LAt R H a xs) (k : ∀ v x, R H v x → v = f x) : H a = some (.lst (xs.map f)) := by
  obtain ⟨vs, h1, h2, h3⟩ := h
  rw [h1]
  congr 2
  refine List.ext_getElem? fun i => ?_
  rw [List.getElem?_map]
  cases hx : xs[i]? with
  | none =>
    rw [List.getElem?_eq_none_iff] at hx
    exact List.getElem?_eq_none (by omega)
  | some x =>
    obtain ⟨v, hv, r⟩ := h3 i x hx
    rw [hv, k v x r]
    rfl
theorem item {vs : List V} {α : Type} {xs : List α} {i : Nat} {v : V} (hl : vs.length = xs.length) (hv : vs[i]? = some v) : ∃ x, xs[i]? = some x := by
  have h : i < vs.length := (List.getElem?_eq_some_iff.mp hv).1
  exact ⟨_, List.getElem?_eq_getElem (by omega)⟩
/-- a comprehension over a list, one new item for each -/
theorem lc_build {K : PySem.W.Frag} {a : Addr} {xs : List V} {g : TG} {tt : TT} {te : TE} {vs : List Nat} {σ : L2.St} {Hc : Hp} {D : Addr} {Qd : Hp → Prop} {β : Type} (S : Hp → V → β → Prop) (ys : List β) (mono : Mono S)
    (hD : Hc D = none) (hlen : xs.length = ys.length) (hl : SqL K Hc a xs) (small : ys.length ≤ 1000)
    (hs : ∀ (i : Nat) (x : V) (y : β) (H : Hp) (Kc : VK) (Ke : Hp → Prop), xs[i]? = some x → ys[i]? = some y → Same Hc H → (∃ acc, H D = some (.lst acc)) → (∀ v H4, Same H H4 → S (wo H4 D) v y → Kc v H4) →
      g x (wipe σ vs) H fun σ2 H2 => wipe σ2 vs = wipe σ vs ∧ tt σ2 H2 fun b H3 => if b = true then te σ2 H3 Kc else Ke H3)
    (hd : ∀ H', Same Hc H' → LAt S H' D ys → Qd H') :
    ∃ W : Nat → Nat → Hp → Prop, (∃ m, W 0 m (upd Hc D (.lst []))) ∧ ∀ i m H, W i m H →
      ((Itl K a).stop i H ∧ Qd H) ∨ ((Itl K a).go i H ∧ ∃ Nx : Hp → Prop, (∀ H', Nx H' → ∃ m', m' < m ∧ W (i + 1) m' H') ∧ ∀ x H', (Itl K a).yld i H x H' → g x (wipe σ vs) H' fun σ2 H2 => wipe σ2 vs = wipe σ vs ∧ tt σ2 H2 fun b H3 =>
        if b = true then te σ2 H3 fun y H4 => ∃ acc, H4 D = some (.lst acc) ∧ acc.length < sizeLine ∧ Nx (upd H4 D (.lst (acc ++ [y]))) else Nx H3) := by
  refine lc_list (xs := xs) (fun i H' => Same Hc H' ∧ ∃ acc : List V, H' D = some (.lst acc) ∧ acc.length = i ∧ ∀ (j : Nat) (y : β), j < i → ys[j]? = some y → ∃ v, acc[j]? = some v ∧ S (wo H' D) v y)
    ⟨same_upd hD, [], upd_same, rfl, fun j y hj => absurd hj (by omega)⟩ (fun i H' _ h => h.1.seq hl) ?_ ?_
  · rintro i x H hx ⟨s, acc, hacc, hlen2, hall⟩
    have hi : i < xs.length := (List.getElem?_eq_some_iff.mp hx).1
    have hy : ys[i]? = some ys[i] := List.getElem?_eq_getElem (by omega)
    refine hs i x ys[i] H _ _ hx hy s ⟨acc, hacc⟩ fun v H4 s4 hS => ?_
    have hacc4 := s4 _ _ hacc
    refine ⟨acc, hacc4, by rw [hlen2]; exact small1000 (by omega), same_late (s.trans s4) hD, acc ++ [v], upd_same, by rw [List.length_append, hlen2]; rfl, fun j y hj hyj => ?_⟩
    by_cases hji : j < i
    · obtain ⟨u, hu, hSu⟩ := hall j y hji hyj
      refine ⟨u, by rw [List.getElem?_append_left (by omega)]; exact hu, ?_⟩
      exact mono _ _ _ _ ((wo_same D s4).trans wo_upd) hSu
    · have e : j = i := by omega
      subst e
      rw [hy] at hyj
      cases hyj
      refine ⟨v, by rw [List.getElem?_append_right (by omega), hlen2, Nat.sub_self]; rfl, mono _ _ _ _ wo_upd hS⟩
  · rintro H' ⟨s, acc, hacc, hlen2, hall⟩
    refine hd H' s ⟨acc, hacc, by omega, fun j y hy => ?_⟩
    have hj : j < ys.length := (List.getElem?_eq_some_iff.mp hy).1
    obtain ⟨v, hv, hS⟩ := hall j y (by omega) hy
    exact ⟨v, hv, mono _ _ _ _ (wo_sub H' D) hS⟩
end Fl

set_option Elab.async false
set_option linter.all false
set_option maxRecDepth 100000
set_option maxHeartbeats 4000000
namespace L2
open PySem PySem.Spec PyProof.Rows
/-- a def's promise that is told the size of the heap at its entry -/
structure FnOkN (P : Program) (w : World) (K : PySem.W.Frag) (mg : Str → Option Value) (base : Heap) (CX : CXT) (k : Nat) (f : Addr) (fd : FuncData) (ps : List Str) (sp : Nat → Sp) : Prop where
  len : ∀ n vs H Q E, sp n vs H Q E → vs.length = ps.length
  run : ∀ (A : Around) (outer : List Env) (s : Shared) (H : Hp) (args : Args) (us : List Value) (vs : List V) (Q : VK) (E : XK), Room k A → Env0 P w K mg base A outer s H → BindsTo s fd args (ps.zip us) → Vals vs us → sp s.heap.objs.size vs H Q E →
    codeAny (model P w) A (.call (.ref f) args) (CR CX outer P w H s Q E) s
/-- a def that is told of one state alone -/
theorem fn_at {CX : CXT} {P : Program} {w : World} {K : PySem.W.Frag} {mg : Str → Option Value} {base : Heap} {k : Nat} {f : Addr} {x qual : Str} {st : Stmt} {fd : FuncData} {N ps : List Str} {sp : Nat → Sp}
    (F : Fun K x qual st f fd) (S : FnScope N ps (defScope st)) (len : ∀ n vs H Q E, sp n vs H Q E → vs.length = ps.length)
    (hbody : ∀ (cdv : Value) (A : Around) (outer : List Env) (s : Shared) (H : Hp) (vs : List V) (Q : VK) (E : XK), Room k (A.deeper (envOfC qual (defScope st) s.heap.objs.size f cdv)) → sp s.heap.objs.size vs H Q E →
      ∃ t, PSs (cxOf CX P w K mg base N qual (defScope st) f cdv A outer s H E) (defBody st) t ∧ t { nx := fun _ H' => Q .non H', rt := Q } (start N vs) H) : FnOkN P w K mg base CX (k + 1) f fd ps sp := by
  obtain ⟨oc, od, kV, doc, pm, an, cdv, ct, osl, rfl, lk, hcd⟩ := F.ex
  refine ⟨len, fun A outer s H args us vs Q E hr e0 hb r hsp => ?_⟩
  have hl := len _ _ _ _ _ hsp
  have KX : K.In s.heap := e0.mod.kin.keeps fun b o e => (e0.bs b o e).1
  have lim : s.heap.NoLimit := e0.mod.nolimit.keeps fun b o e => (e0.bs b o e).1
  have hkind : ∀ y ∈ ps.zip us, (defScope st).names.lookup y.1 = some .local ∨ ((defScope st).names.lookup y.1 = some .cell ∧ ((cellsFrom (s.heap.objs.size + 1) (defScope st).names []).lookup y.1).isSome = true) := fun ⟨n, v⟩ hy => by
    rcases S.par n (List.of_mem_zip hy).1 with q | q
    · exact .inl q
    · exact .inr ⟨q, PySem.W.cellsFrom_some _ _ _ (.inl q)⟩
  refine codeAny_call_function hr.depth (KX _ _ lk) rfl S.co S.gen rfl (PySem.W.codeRec_of KX hcd) (hb _ _ _ _ ?_)
  refine wpAny_newFunctionEnv_cells S.kind hkind fun env he s1 x => ?_
  subst he
  refine ⟨lim.keeps x.toInCall.keep, codeAny_func ?_⟩
  obtain ⟨t, ht, hq⟩ := hbody cdv A outer s H vs Q E (hr.deeper _) hsp
  have I : Inv (cxOf CX P w K mg base N qual (defScope st) f cdv A outer s H E) [] (start N vs) H s1 := inv_start S hr.hd e0 hl r x
  refine wpAny_mono (ht.run [] s1 (start N vs) H _ I hq) (fun fl s' hs => ?_) fun e s' hs => hs
  have fin : ∀ {σ' : L2.St} {H' : Hp} {v : V} {u : Value}, Inv (cxOf CX P w K mg base N qual (defScope st) f cdv A outer s H E) [] σ' H' s' → RelV v u → Q v H' → CE outer P w H s Q u s' :=
    fun {σ' H' v u} J rv q => ⟨v, H', J.os, J.bare, J.base, J.hok, rv, q⟩
  cases fl with
  | ret u =>
    obtain ⟨v, σ', H', J, rv, q⟩ := hs
    exact fin J rv q
  | next =>
    obtain ⟨σ', H', J, q⟩ := hs
    exact fin (v := V.non) (u := Value.none) J rfl q
  | brk =>
    obtain ⟨_, _, _, q⟩ := hs
    exact False.elim q
  | cont =>
    obtain ⟨_, _, _, q⟩ := hs
    exact False.elim q

/-! ### for over an own instance whose __iter__ answers the iterator of one of its lists -/
/-- __iter__ answers iter of the list in the field x -/
def spIterF (C : Addr) (x : Str) : Nat → Sp := fun n vs H Q _ => ∃ (a dx : Addr) (fs : List (Str × V)) (L : Addr) (zs : List V), vs = [.ref a] ∧ H a = some (.ins C dx fs) ∧ fs.lookup x = some (.ref L) ∧ H L = some (.lst zs) ∧
  ∀ it, H it = none → n ≤ it → Q (.ref it) (upd H it (ItO L it 0))
structure OwnIt (P : Program) (w : World) (K : PySem.W.Frag) (mg : Str → Option Value) (base : Heap) (k : Nat) (C : Addr) (x : Str) : Prop where
  ex : ∃ (f : Addr) (fd : FuncData), PySem.W.findIn K (.ref C) "__iter__" = some (some (.ref f)) ∧ PySem.W.isFn K (.ref f) = true ∧ FnOkN P w K mg base CX0 k f fd ["self"] (spIterF C x) ∧ Binds K fd ["self"] []
def iOwn (C : Addr) (x : Str) (K : PySem.W.Frag) (te : TE) : TI := fun σ H R => te σ H fun v H1 => ∃ (a dx : Addr) (fs : List (Str × V)) (L : Addr) (zs : List V), v = .ref a ∧ H1 a = some (.ins C dx fs) ∧ fs.lookup x = some (.ref L) ∧ H1 L = some (.lst zs) ∧ R (Itl K L) H1
theorem upd_drop {H : Hp} {a : Addr} {o : HO} (h : H a = none) : ItX.dropH (upd H a o) a = H := ItX.dropH_upd h
theorem pi_own {X : Cx} {k : Nat} {C : Addr} {x : Str} {tg e : Expr} {te : TE} (M : OwnIt X.prog X.w X.K X.mg X.base k C x) (hr : Room k X.A) (he : PE X e te) : PI X tg e (iOwn C x X.K te) := by
  obtain ⟨f, fd, hs, hf, F, b⟩ := M.ex
  refine ⟨fun pins s σ H R I h => ?_⟩
  refine thn (he.run pins s σ H _ I h) fun v s1 ⟨y, H1, I1, r1, a, dx, fs, L, zs, ey, ea, el, eL, q⟩ => ?_
  subst ey
  cases r1
  obtain ⟨mA, J, _⟩ := ins_get I1.hok ea
  obtain ⟨od, J, _⟩ := J.look
  obtain ⟨m, hF⟩ := I1.fr
  refine PySem.W.owit_iter hF I1.ok.mod.kin J hs hf ?_
  have hsp : spIterF C x s1.heap.objs.size [V.ref a] H1 (fun v H' => ∃ it, v = .ref it ∧ H1 it = none ∧ s1.heap.objs.size ≤ it ∧ H' = upd H1 it (ItO L it 0)) E0 := ⟨a, dx, fs, L, zs, rfl, ea, el, eL, fun it h1 h2 => ⟨it, rfl, h1, h2, rfl⟩⟩
  have hl := F.len _ _ _ _ _ hsp
  have bb := b s1 [.ref a] I1.kIn (by simpa using hl)
  rw [List.append_nil] at bb
  have r2 : Vals [V.ref a] [Value.ref a] := .cons (show RelV (.ref a) (.ref a) from rfl) .nil
  refine wpAny_call (codeAny_mono (F.run X.A X.stack s1 H1 ⟨[.ref a], []⟩ [.ref a] [.ref a] _ E0 hr I1.env0 bb r2 hsp) fun r s' hq => ?_)
  cases r with
  | error e => exact pass0 pins σ H1 s1 e s' I1 hq
  | ok fl =>
    cases fl with
    | next => exact False.elim hq
    | brk => exact False.elim hq
    | cont => exact False.elim hq
    | ret u =>
      obtain ⟨v, H', I2, rv, it, rfl, hn, hsz, rfl⟩ := I1.after hq
      cases rv
      have eo := itO_get I2 (show upd H1 it (ItO L it 0) it = some (ItO L it 0) from upd_same)
      have hT : s'.TypeIs (.ref it) "list_iterator" := ⟨_, eo, rfl⟩
      have hi' : upd H1 it (ItO L it 0) it = some (ItO L it 0) := upd_same
      unfold ItO at hi'
      have I3 := ItX.inv_drop I2 hi'
      have e3 : ItX.dropH (upd H1 it (ItO L it 0)) it = H1 := ItX.dropH_upd hn
      have fp : FpOk X pins H1 it := by
        have z := ItX.inv_fp I2 (show upd H1 it (ItO L it 0) it = some (ItO L it 0) from upd_same) (Nat.le_trans I1.sz hsz)
        rw [e3] at z
        exact z
      rw [e3] at I3
      unfold PySem.W.OwitIt
      refine wpAny_specialOf (name := Str.ofString "__next__") hT slot_listiter_next.lookup ?_
      refine ⟨it, [it], _, _, H1, rfl, I3, turn_list L it, ⟨_, eo, rfl, rfl⟩, fun b hb => ?_, q⟩
      have e : b = it := by simpa using hb
      rw [e]
      exact fp
end L2

set_option Elab.async false
set_option linter.all false
set_option maxRecDepth 100000
set_option maxHeartbeats 4000000
set_option pp.maxSteps 160
set_option pp.deepTerms false
namespace L
open PySem PySem.Spec PyProof.Rows L2 Fl
local macro_rules | `(tactic| walk_at "side") => `(tactic| first | (exact .inl ⟨by omega, by omega⟩) | (exact .inr ⟨by omega, by omega⟩) | (exact .inr ⟨by decide, by decide⟩) | (show (_ : Int) ≠ _; omega) | (exact ⟨by omega, by decide⟩) | (exact ⟨by decide, by decide, by decide⟩))
local macro_rules | `(tactic| walk_at "go") => `(tactic| repeat (first | refine ⟨_, rfl, ?_⟩ | refine ⟨_, _, rfl, rfl, ?_⟩ | refine .inl ⟨_, rfl, ?_⟩ | refine ⟨rfl, ?_⟩ | refine ⟨(by walk_at "side"), ?_⟩))
local macro_rules | `(tactic| walk_at "see") => `(tactic| (set_option pp.maxSteps 110 in set_option pp.deepTerms false in trace_state))
local macro_rules | `(tactic| walk_at "if") => `(tactic| first | refine ifE ?_ ?_ | refine ifNE ?_ ?_ | refine ifD ?_ ?_ | refine ifN ?_ ?_ | refine ifB ?_ ?_)
def topS (i : Nat) : Stmt := PySem.Challenge.pw_fieldlots_k15_meet_is_the_average.main.body.getD i (.Pass ⟨0, 0, 0, 0⟩)
abbrev s_wall : Stmt := topS 1
theorem sc_wall : FnScope ["k"] ["k"] (defScope s_wall) := ⟨rfl, rfl, rfl, by decide +kernel, rfl, by decide +kernel, by decide +kernel⟩
abbrev s_BadNumber_init : Stmt := inClass (topS 5) 0
theorem sc_BadNumber_init : FnScope ["self", "name", "value"] ["self", "name", "value"] (defScope s_BadNumber_init) := ⟨rfl, rfl, rfl, by decide +kernel, rfl, by decide +kernel, by decide +kernel⟩
abbrev s_TooMany_init : Stmt := inClass (topS 8) 0
theorem sc_TooMany_init : FnScope ["self", "name", "most"] ["self", "name", "most"] (defScope s_TooMany_init) := ⟨rfl, rfl, rfl, by decide +kernel, rfl, by decide +kernel, by decide +kernel⟩
abbrev s_check_ties : Stmt := topS 10
theorem sc_check_ties : FnScope ["ties"] ["ties"] (defScope s_check_ties) := ⟨rfl, rfl, rfl, by decide +kernel, rfl, by decide +kernel, by decide +kernel⟩
abbrev s_is_number : Stmt := topS 13
theorem sc_is_number : FnScope ["value"] ["value"] (defScope s_is_number) := ⟨rfl, rfl, rfl, by decide +kernel, rfl, by decide +kernel, by decide +kernel⟩
abbrev s_as_ratio : Stmt := topS 14
theorem sc_as_ratio : FnScope ["number"] ["number"] (defScope s_as_ratio) := ⟨rfl, rfl, rfl, by decide +kernel, rfl, by decide +kernel, by decide +kernel⟩
abbrev s_added : Stmt := topS 15
theorem sc_added : FnScope ["numbers", "total", "number"] ["numbers"] (defScope s_added) := ⟨rfl, rfl, rfl, by decide +kernel, rfl, by decide +kernel, by decide +kernel⟩
abbrev s_top_of : Stmt := topS 16
theorem sc_top_of : FnScope ["number"] ["number"] (defScope s_top_of) := ⟨rfl, rfl, rfl, by decide +kernel, rfl, by decide +kernel, by decide +kernel⟩
abbrev s_under_of : Stmt := topS 17
theorem sc_under_of : FnScope ["number"] ["number"] (defScope s_under_of) := ⟨rfl, rfl, rfl, by decide +kernel, rfl, by decide +kernel, by decide +kernel⟩
abbrev s_rounded_quotient : Stmt := topS 18
theorem sc_rounded_quotient : FnScope ["number", "divisor", "under"] ["number", "divisor"] (defScope s_rounded_quotient) := ⟨rfl, rfl, rfl, by decide +kernel, rfl, by decide +kernel, by decide +kernel⟩
abbrev s_remainder : Stmt := topS 19
theorem sc_remainder : FnScope ["number", "divisor"] ["number", "divisor"] (defScope s_remainder) := ⟨rfl, rfl, rfl, by decide +kernel, rfl, by decide +kernel, by decide +kernel⟩
abbrev s_Ratio_init : Stmt := inClass (topS 20) 0
theorem sc_Ratio_init : FnScope ["self", "top", "under", "shared"] ["self", "top", "under"] (defScope s_Ratio_init) := ⟨rfl, rfl, rfl, by decide +kernel, rfl, by decide +kernel, by decide +kernel⟩
abbrev s_Ratio_whole : Stmt := inClass (topS 20) 1
theorem sc_Ratio_whole : FnScope ["self"] ["self"] (defScope s_Ratio_whole) := ⟨rfl, rfl, rfl, by decide +kernel, rfl, by decide +kernel, by decide +kernel⟩
abbrev s_Ratio_floor : Stmt := inClass (topS 20) 2
theorem sc_Ratio_floor : FnScope ["self"] ["self"] (defScope s_Ratio_floor) := ⟨rfl, rfl, rfl, by decide +kernel, rfl, by decide +kernel, by decide +kernel⟩
abbrev s_Ratio_ceiling : Stmt := inClass (topS 20) 3
theorem sc_Ratio_ceiling : FnScope ["self"] ["self"] (defScope s_Ratio_ceiling) := ⟨rfl, rfl, rfl, by decide +kernel, rfl, by decide +kernel, by decide +kernel⟩
abbrev s_Ratio_over : Stmt := inClass (topS 20) 4
theorem sc_Ratio_over : FnScope ["self", "number"] ["self", "number"] (defScope s_Ratio_over) := ⟨rfl, rfl, rfl, by decide +kernel, rfl, by decide +kernel, by decide +kernel⟩
abbrev s_Ratio_power : Stmt := inClass (topS 20) 5
theorem sc_Ratio_power : FnScope ["self", "n", "top", "under", "_"] ["self", "n"] (defScope s_Ratio_power) := ⟨rfl, rfl, rfl, by decide +kernel, rfl, by decide +kernel, by decide +kernel⟩
abbrev s_Ratio_str : Stmt := inClass (topS 20) 6
theorem sc_Ratio_str : FnScope ["self"] ["self"] (defScope s_Ratio_str) := ⟨rfl, rfl, rfl, by decide +kernel, rfl, by decide +kernel, by decide +kernel⟩
abbrev s_Ratio_bool : Stmt := inClass (topS 20) 7
theorem sc_Ratio_bool : FnScope ["self"] ["self"] (defScope s_Ratio_bool) := ⟨rfl, rfl, rfl, by decide +kernel, rfl, by decide +kernel, by decide +kernel⟩
abbrev s_Ratio_neg : Stmt := inClass (topS 20) 8
theorem sc_Ratio_neg : FnScope ["self"] ["self"] (defScope s_Ratio_neg) := ⟨rfl, rfl, rfl, by decide +kernel, rfl, by decide +kernel, by decide +kernel⟩
abbrev s_Ratio_abs : Stmt := inClass (topS 20) 9
theorem sc_Ratio_abs : FnScope ["self"] ["self"] (defScope s_Ratio_abs) := ⟨rfl, rfl, rfl, by decide +kernel, rfl, by decide +kernel, by decide +kernel⟩
abbrev s_Ratio_add : Stmt := inClass (topS 20) 10
theorem sc_Ratio_add : FnScope ["self", "other", "top"] ["self", "other"] (defScope s_Ratio_add) := ⟨rfl, rfl, rfl, by decide +kernel, rfl, by decide +kernel, by decide +kernel⟩
abbrev s_Ratio_radd : Stmt := inClass (topS 20) 11
theorem sc_Ratio_radd : FnScope ["self", "other"] ["self", "other"] (defScope s_Ratio_radd) := ⟨rfl, rfl, rfl, by decide +kernel, rfl, by decide +kernel, by decide +kernel⟩
abbrev s_Ratio_sub : Stmt := inClass (topS 20) 12
theorem sc_Ratio_sub : FnScope ["self", "other", "top"] ["self", "other"] (defScope s_Ratio_sub) := ⟨rfl, rfl, rfl, by decide +kernel, rfl, by decide +kernel, by decide +kernel⟩
abbrev s_Ratio_rsub : Stmt := inClass (topS 20) 13
theorem sc_Ratio_rsub : FnScope ["self", "other"] ["self", "other"] (defScope s_Ratio_rsub) := ⟨rfl, rfl, rfl, by decide +kernel, rfl, by decide +kernel, by decide +kernel⟩
abbrev s_Ratio_mul : Stmt := inClass (topS 20) 14
theorem sc_Ratio_mul : FnScope ["self", "other"] ["self", "other"] (defScope s_Ratio_mul) := ⟨rfl, rfl, rfl, by decide +kernel, rfl, by decide +kernel, by decide +kernel⟩
abbrev s_Ratio_rmul : Stmt := inClass (topS 20) 15
theorem sc_Ratio_rmul : FnScope ["self", "other"] ["self", "other"] (defScope s_Ratio_rmul) := ⟨rfl, rfl, rfl, by decide +kernel, rfl, by decide +kernel, by decide +kernel⟩
abbrev s_Ratio_floordiv : Stmt := inClass (topS 20) 16
theorem sc_Ratio_floordiv : FnScope ["self", "other"] ["self", "other"] (defScope s_Ratio_floordiv) := ⟨rfl, rfl, rfl, by decide +kernel, rfl, by decide +kernel, by decide +kernel⟩
abbrev s_Ratio_rfloordiv : Stmt := inClass (topS 20) 17
theorem sc_Ratio_rfloordiv : FnScope ["self", "other"] ["self", "other"] (defScope s_Ratio_rfloordiv) := ⟨rfl, rfl, rfl, by decide +kernel, rfl, by decide +kernel, by decide +kernel⟩
abbrev s_Ratio_mod : Stmt := inClass (topS 20) 18
theorem sc_Ratio_mod : FnScope ["self", "other"] ["self", "other"] (defScope s_Ratio_mod) := ⟨rfl, rfl, rfl, by decide +kernel, rfl, by decide +kernel, by decide +kernel⟩
abbrev s_Ratio_rmod : Stmt := inClass (topS 20) 19
theorem sc_Ratio_rmod : FnScope ["self", "other"] ["self", "other"] (defScope s_Ratio_rmod) := ⟨rfl, rfl, rfl, by decide +kernel, rfl, by decide +kernel, by decide +kernel⟩
abbrev s_Ratio_pow : Stmt := inClass (topS 20) 20
theorem sc_Ratio_pow : FnScope ["self", "other"] ["self", "other"] (defScope s_Ratio_pow) := ⟨rfl, rfl, rfl, by decide +kernel, rfl, by decide +kernel, by decide +kernel⟩
abbrev s_Ratio_eq : Stmt := inClass (topS 20) 21
theorem sc_Ratio_eq : FnScope ["self", "other"] ["self", "other"] (defScope s_Ratio_eq) := ⟨rfl, rfl, rfl, by decide +kernel, rfl, by decide +kernel, by decide +kernel⟩
abbrev s_Ratio_lt : Stmt := inClass (topS 20) 22
theorem sc_Ratio_lt : FnScope ["self", "other"] ["self", "other"] (defScope s_Ratio_lt) := ⟨rfl, rfl, rfl, by decide +kernel, rfl, by decide +kernel, by decide +kernel⟩
abbrev s_Ratio_le : Stmt := inClass (topS 20) 23
theorem sc_Ratio_le : FnScope ["self", "other"] ["self", "other"] (defScope s_Ratio_le) := ⟨rfl, rfl, rfl, by decide +kernel, rfl, by decide +kernel, by decide +kernel⟩
abbrev s_Ratio_gt : Stmt := inClass (topS 20) 24
theorem sc_Ratio_gt : FnScope ["self", "other"] ["self", "other"] (defScope s_Ratio_gt) := ⟨rfl, rfl, rfl, by decide +kernel, rfl, by decide +kernel, by decide +kernel⟩
abbrev s_Ratio_ge : Stmt := inClass (topS 20) 25
theorem sc_Ratio_ge : FnScope ["self", "other"] ["self", "other"] (defScope s_Ratio_ge) := ⟨rfl, rfl, rfl, by decide +kernel, rfl, by decide +kernel, by decide +kernel⟩
abbrev s_Run_init : Stmt := inClass (topS 23) 0
theorem sc_Run_init : FnScope ["self", "first", "step", "count"] ["self", "first", "step", "count"] (defScope s_Run_init) := ⟨rfl, rfl, rfl, by decide +kernel, rfl, by decide +kernel, by decide +kernel⟩
abbrev s_Run_point : Stmt := inClass (topS 23) 1
theorem sc_Run_point : FnScope ["cls", "k"] ["cls", "k"] (defScope s_Run_point) := ⟨rfl, rfl, rfl, by decide +kernel, rfl, by decide +kernel, by decide +kernel⟩
abbrev s_Run_odd : Stmt := inClass (topS 23) 2
theorem sc_Run_odd : FnScope ["cls", "m"] ["cls", "m"] (defScope s_Run_odd) := ⟨rfl, rfl, rfl, by decide +kernel, rfl, by decide +kernel, by decide +kernel⟩
abbrev s_Run_even : Stmt := inClass (topS 23) 3
theorem sc_Run_even : FnScope ["cls", "m"] ["cls", "m"] (defScope s_Run_even) := ⟨rfl, rfl, rfl, by decide +kernel, rfl, by decide +kernel, by decide +kernel⟩
abbrev s_Run_between : Stmt := inClass (topS 23) 4
theorem sc_Run_between : FnScope ["cls", "low", "high"] ["cls", "low", "high"] (defScope s_Run_between) := ⟨rfl, rfl, rfl, by decide +kernel, rfl, by decide +kernel, by decide +kernel⟩
abbrev s_Run_last : Stmt := inClass (topS 23) 5
theorem sc_Run_last : FnScope ["self"] ["self"] (defScope s_Run_last) := ⟨rfl, rfl, rfl, by decide +kernel, rfl, by decide +kernel, by decide +kernel⟩
abbrev s_Run_mean : Stmt := inClass (topS 23) 6
theorem sc_Run_mean : FnScope ["self"] ["self"] (defScope s_Run_mean) := ⟨rfl, rfl, rfl, by decide +kernel, rfl, by decide +kernel, by decide +kernel⟩
abbrev s_Run_strengths : Stmt := inClass (topS 23) 7
abbrev s_Run_parted : Stmt := inClass (topS 23) 8
theorem sc_Run_parted : FnScope ["self", "n"] ["self", "n"] (defScope s_Run_parted) := ⟨rfl, rfl, rfl, by decide +kernel, rfl, by decide +kernel, by decide +kernel⟩
abbrev s_Run_below : Stmt := inClass (topS 23) 9
theorem sc_Run_below : FnScope ["self", "k"] ["self", "k"] (defScope s_Run_below) := ⟨rfl, rfl, rfl, by decide +kernel, rfl, by decide +kernel, by decide +kernel⟩
abbrev s_Run_above : Stmt := inClass (topS 23) 10
theorem sc_Run_above : FnScope ["self", "k"] ["self", "k"] (defScope s_Run_above) := ⟨rfl, rfl, rfl, by decide +kernel, rfl, by decide +kernel, by decide +kernel⟩
abbrev s_Run_chance : Stmt := inClass (topS 23) 11
theorem sc_Run_chance : FnScope ["self", "k"] ["self", "k"] (defScope s_Run_chance) := ⟨rfl, rfl, rfl, by decide +kernel, rfl, by decide +kernel, by decide +kernel⟩
abbrev s_Run_gain : Stmt := inClass (topS 23) 12
theorem sc_Run_gain : FnScope ["self", "k", "ties"] ["self", "k", "ties"] (defScope s_Run_gain) := ⟨rfl, rfl, rfl, by decide +kernel, rfl, by decide +kernel, by decide +kernel⟩
abbrev s_Run_contains : Stmt := inClass (topS 23) 13
theorem sc_Run_contains : FnScope ["self", "x"] ["self", "x"] (defScope s_Run_contains) := ⟨rfl, rfl, rfl, by decide +kernel, rfl, by decide +kernel, by decide +kernel⟩
abbrev s_Run_getitem : Stmt := inClass (topS 23) 14
theorem sc_Run_getitem : FnScope ["self", "at"] ["self", "at"] (defScope s_Run_getitem) := ⟨rfl, rfl, rfl, by decide +kernel, rfl, by decide +kernel, by decide +kernel⟩
abbrev s_Run_iter : Stmt := inClass (topS 23) 15
theorem sc_Run_iter : FnScope ["self"] ["self"] (defScope s_Run_iter) := ⟨rfl, rfl, rfl, by decide +kernel, rfl, by decide +kernel, by decide +kernel⟩
abbrev s_Run_add : Stmt := inClass (topS 23) 16
theorem sc_Run_add : FnScope ["self", "other"] ["self", "other"] (defScope s_Run_add) := ⟨rfl, rfl, rfl, by decide +kernel, rfl, by decide +kernel, by decide +kernel⟩
abbrev s_Run_eq : Stmt := inClass (topS 23) 17
theorem sc_Run_eq : FnScope ["self", "other"] ["self", "other"] (defScope s_Run_eq) := ⟨rfl, rfl, rfl, by decide +kernel, rfl, by decide +kernel, by decide +kernel⟩
abbrev s_lead : Stmt := topS 24
theorem sc_lead : FnScope ["run", "k", "ties", "greater", "less"] ["run", "k", "ties"] (defScope s_lead) := ⟨rfl, rfl, rfl, by decide +kernel, rfl, by decide +kernel, by decide +kernel⟩
abbrev s_check_floor_sum : Stmt := topS 25
theorem sc_check_floor_sum : FnScope ["many", "under", "step", "start"] ["many", "under", "step", "start"] (defScope s_check_floor_sum) := ⟨rfl, rfl, rfl, by decide +kernel, rfl, by decide +kernel, by decide +kernel⟩
abbrev s_floor_sum : Stmt := topS 26
theorem sc_floor_sum : FnScope ["many", "under", "step", "start", "total", "reach"] ["many", "under", "step", "start"] (defScope s_floor_sum) := ⟨rfl, rfl, rfl, by decide +kernel, rfl, by decide +kernel, by decide +kernel⟩
abbrev s_pairs_above : Stmt := topS 27
theorem sc_pairs_above : FnScope ["one", "other", "start", "end", "pairs", "ahead"] ["one", "other"] (defScope s_pairs_above) := ⟨rfl, rfl, rfl, by decide +kernel, rfl, by decide +kernel, by decide +kernel⟩
abbrev s_pairs_alike : Stmt := topS 28
theorem sc_pairs_alike : FnScope ["one", "other"] ["one", "other"] (defScope s_pairs_alike) := ⟨rfl, rfl, rfl, by decide +kernel, rfl, by decide +kernel, by decide +kernel⟩
abbrev s_run_gain : Stmt := topS 29
theorem sc_run_gain : FnScope ["one", "other", "ties", "greater", "less", "pairs"] ["one", "other", "ties"] (defScope s_run_gain) := ⟨rfl, rfl, rfl, by decide +kernel, rfl, by decide +kernel, by decide +kernel⟩
abbrev s_check_parts : Stmt := topS 32
theorem sc_check_parts : FnScope ["parts", "shares", "share", "_"] ["parts"] (defScope s_check_parts) := ⟨rfl, rfl, rfl, by decide +kernel, rfl, by decide +kernel, by decide +kernel⟩
abbrev s_put_together : Stmt := topS 33
theorem sc_put_together : FnScope ["parts", "marks", "places", "kept", "share", "dealt", "mark", "earlier", "_"] ["parts", "marks"] (defScope s_put_together) := ⟨rfl, rfl, rfl, by decide +kernel, rfl, by decide +kernel, by decide +kernel⟩
abbrev s_Blend_init : Stmt := inClass (topS 35) 0
theorem sc_Blend_init : FnScope ["self", "parts", "_", "run"] ["self", "parts"] (defScope s_Blend_init) := ⟨rfl, rfl, rfl, by decide +kernel, rfl, by decide +kernel, by decide +kernel⟩
abbrev s_Blend_point : Stmt := inClass (topS 35) 1
theorem sc_Blend_point : FnScope ["cls", "k"] ["cls", "k"] (defScope s_Blend_point) := ⟨rfl, rfl, rfl, by decide +kernel, rfl, by decide +kernel, by decide +kernel⟩
abbrev s_Blend_of_run : Stmt := inClass (topS 35) 2
theorem sc_Blend_of_run : FnScope ["cls", "run"] ["cls", "run"] (defScope s_Blend_of_run) := ⟨rfl, rfl, rfl, by decide +kernel, rfl, by decide +kernel, by decide +kernel⟩
abbrev s_Blend_of_weights : Stmt := inClass (topS 35) 3
theorem sc_Blend_of_weights : FnScope ["cls", "weights"] ["cls", "weights"] (defScope s_Blend_of_weights) := ⟨rfl, rfl, rfl, by decide +kernel, rfl, by decide +kernel, by decide +kernel⟩
abbrev s_Blend_mean : Stmt := inClass (topS 35) 4
theorem sc_Blend_mean : FnScope ["self"] ["self"] (defScope s_Blend_mean) := ⟨rfl, rfl, rfl, by decide +kernel, rfl, by decide +kernel, by decide +kernel⟩
abbrev s_Blend_greatest : Stmt := inClass (topS 35) 5
theorem sc_Blend_greatest : FnScope ["self", "_", "run"] ["self"] (defScope s_Blend_greatest) := ⟨rfl, rfl, rfl, by decide +kernel, rfl, by decide +kernel, by decide +kernel⟩
abbrev s_Blend_mixed : Stmt := inClass (topS 35) 6
theorem sc_Blend_mixed : FnScope ["self", "share", "other"] ["self", "share", "other"] (defScope s_Blend_mixed) := ⟨rfl, rfl, rfl, by decide +kernel, rfl, by decide +kernel, by decide +kernel⟩
abbrev s_Blend_gain : Stmt := inClass (topS 35) 7
theorem sc_Blend_gain : FnScope ["self", "k", "ties", "share", "run"] ["self", "k", "ties"] (defScope s_Blend_gain) := ⟨rfl, rfl, rfl, by decide +kernel, rfl, by decide +kernel, by decide +kernel⟩
abbrev s_Blend_getitem : Stmt := inClass (topS 35) 8
theorem sc_Blend_getitem : FnScope ["self", "at", "share", "run"] ["self", "at"] (defScope s_Blend_getitem) := ⟨rfl, rfl, rfl, by decide +kernel, rfl, by decide +kernel, by decide +kernel⟩
abbrev s_Blend_contains : Stmt := inClass (topS 35) 9
theorem sc_Blend_contains : FnScope ["self", "x", "_", "run"] ["self", "x"] (defScope s_Blend_contains) := ⟨rfl, rfl, rfl, by decide +kernel, rfl, by decide +kernel, by decide +kernel⟩
abbrev s_Blend_len : Stmt := inClass (topS 35) 10
theorem sc_Blend_len : FnScope ["self"] ["self"] (defScope s_Blend_len) := ⟨rfl, rfl, rfl, by decide +kernel, rfl, by decide +kernel, by decide +kernel⟩
abbrev s_Blend_iter : Stmt := inClass (topS 35) 11
theorem sc_Blend_iter : FnScope ["self"] ["self"] (defScope s_Blend_iter) := ⟨rfl, rfl, rfl, by decide +kernel, rfl, by decide +kernel, by decide +kernel⟩
abbrev s_Blend_add : Stmt := inClass (topS 35) 12
theorem sc_Blend_add : FnScope ["self", "other", "share", "run"] ["self", "other"] (defScope s_Blend_add) := ⟨rfl, rfl, rfl, by decide +kernel, rfl, by decide +kernel, by decide +kernel⟩
abbrev s_Blend_eq : Stmt := inClass (topS 35) 13
theorem sc_Blend_eq : FnScope ["self", "other"] ["self", "other"] (defScope s_Blend_eq) := ⟨rfl, rfl, rfl, by decide +kernel, rfl, by decide +kernel, by decide +kernel⟩
abbrev s_meet : Stmt := topS 36
theorem sc_meet : FnScope ["one", "other", "ties", "gains", "share", "run", "part", "facing"] ["one", "other", "ties"] (defScope s_meet) := ⟨rfl, rfl, rfl, by decide +kernel, rfl, by decide +kernel, by decide +kernel⟩
abbrev s_pool : Stmt := topS 38
theorem sc_pool : FnScope ["_law_script", "_law_cell"] ["_law_script"] (defScope s_pool) := ⟨rfl, rfl, rfl, by decide +kernel, rfl, by decide +kernel, by decide +kernel⟩
abbrev s_mix : Stmt := topS 39
theorem sc_mix : FnScope ["_law_state", "_law_turn", "_law_many", "_law_first", "_law_second"] ["_law_state", "_law_turn", "_law_many"] (defScope s_mix) := ⟨rfl, rfl, rfl, by decide +kernel, rfl, by decide +kernel, by decide +kernel⟩
abbrev s_draw : Stmt := topS 40
theorem sc_draw : FnScope ["_law_pool_here", "_law_many", "_law_spare", "_law_found", "_law_cell"] ["_law_pool_here", "_law_many"] (defScope s_draw) := ⟨rfl, rfl, rfl, by decide +kernel, rfl, by decide +kernel, by decide +kernel⟩
abbrev s_wide : Stmt := topS 41
theorem sc_wide : FnScope ["_law_pool_here", "_law_size", "_law_many", "_law_found", "_law_spare"] ["_law_pool_here"] (defScope s_wide) := ⟨rfl, rfl, rfl, by decide +kernel, rfl, by decide +kernel, by decide +kernel⟩
abbrev s_any : Stmt := topS 42
theorem sc_any : FnScope ["_law_pool_here", "_law_cell"] ["_law_pool_here"] (defScope s_any) := ⟨rfl, rfl, rfl, by decide +kernel, rfl, by decide +kernel, by decide +kernel⟩
abbrev s_whole : Stmt := topS 43
theorem sc_whole : FnScope ["_law_actual"] ["_law_actual"] (defScope s_whole) := ⟨rfl, rfl, rfl, by decide +kernel, rfl, by decide +kernel, by decide +kernel⟩
abbrev s_ratio : Stmt := topS 44
theorem sc_ratio : FnScope ["_law_actual"] ["_law_actual"] (defScope s_ratio) := ⟨rfl, rfl, rfl, by decide +kernel, rfl, by decide +kernel, by decide +kernel⟩
abbrev s_same : Stmt := topS 45
theorem sc_same : FnScope ["_law_actual", "_law_due"] ["_law_actual", "_law_due"] (defScope s_same) := ⟨rfl, rfl, rfl, by decide +kernel, rfl, by decide +kernel, by decide +kernel⟩
abbrev s_great_run : Stmt := topS 46
theorem sc_great_run : FnScope ["_law_pool_here", "_law_first", "_law_count", "_law_step"] ["_law_pool_here"] (defScope s_great_run) := ⟨rfl, rfl, rfl, by decide +kernel, rfl, by decide +kernel, by decide +kernel⟩
abbrev s_last : Stmt := topS 47
theorem sc_last : FnScope ["_law_row"] ["_law_row"] (defScope s_last) := ⟨rfl, rfl, rfl, by decide +kernel, rfl, by decide +kernel, by decide +kernel⟩
abbrev s_beside : Stmt := topS 48
theorem sc_beside : FnScope ["_law_pool_here", "_law_row", "_law_way"] ["_law_pool_here", "_law_row"] (defScope s_beside) := ⟨rfl, rfl, rfl, by decide +kernel, rfl, by decide +kernel, by decide +kernel⟩
abbrev s_held : Stmt := topS 49
theorem sc_held : FnScope ["_law_run", "_law_row"] ["_law_run", "_law_row"] (defScope s_held) := ⟨rfl, rfl, rfl, by decide +kernel, rfl, by decide +kernel, by decide +kernel⟩
abbrev s_upto : Stmt := topS 50
theorem sc_upto : FnScope ["_law_row", "_law_y"] ["_law_row", "_law_y"] (defScope s_upto) := ⟨rfl, rfl, rfl, by decide +kernel, rfl, by decide +kernel, by decide +kernel⟩
abbrev s_won : Stmt := topS 51
theorem sc_won : FnScope ["_law_row", "_law_y", "_law_rule", "_law_most", "_law_less"] ["_law_row", "_law_y", "_law_rule"] (defScope s_won) := ⟨rfl, rfl, rfl, by decide +kernel, rfl, by decide +kernel, by decide +kernel⟩
abbrev s_parts : Stmt := topS 52
theorem sc_parts : FnScope ["_law_pool_here", "_law_most", "_law_parts_here", "_law_spare", "_law_weight", "_law_row", "_law_part"] ["_law_pool_here", "_law_most"] (defScope s_parts) := ⟨rfl, rfl, rfl, by decide +kernel, rfl, by decide +kernel, by decide +kernel⟩
abbrev s_weights : Stmt := topS 53
theorem sc_weights : FnScope ["_law_parts_here", "_law_part"] ["_law_parts_here"] (defScope s_weights) := ⟨rfl, rfl, rfl, by decide +kernel, rfl, by decide +kernel, by decide +kernel⟩
abbrev s_blend : Stmt := topS 54
theorem sc_blend : FnScope ["_law_parts_here", "_law_total", "_law_part"] ["_law_parts_here"] (defScope s_blend) := ⟨rfl, rfl, rfl, by decide +kernel, rfl, by decide +kernel, by decide +kernel⟩
abbrev s_sum : Stmt := topS 55
theorem sc_sum : FnScope ["_law_parts_here", "_law_tops", "_law_top", "_law_under", "_law_index", "_law_part"] ["_law_parts_here", "_law_tops"] (defScope s_sum) := ⟨rfl, rfl, rfl, by decide +kernel, rfl, by decide +kernel, by decide +kernel⟩
abbrev s_listed : Stmt := topS 56
theorem sc_listed : FnScope ["_law_pairs", "_law_due", "_law_total", "_law_index", "_law_pair"] ["_law_pairs", "_law_due", "_law_total"] (defScope s_listed) := ⟨rfl, rfl, rfl, by decide +kernel, rfl, by decide +kernel, by decide +kernel⟩
abbrev s_lot : Stmt := topS 57
theorem sc_lot : FnScope ["_law_pool_here", "_law_parts_here", "_law_found", "_law_spare", "_law_weight", "_law_way", "_law_first", "_law_count", "_law_step", "_law_row", "_law_part"] ["_law_pool_here", "_law_parts_here"] (defScope s_lot) := ⟨rfl, rfl, rfl, by decide +kernel, rfl, by decide +kernel, by decide +kernel⟩
abbrev s_by_walk : Stmt := topS 58
theorem sc_by_walk : FnScope ["_law_parts_here", "_law_others", "_law_levels", "_law_equals", "_law_under", "_law_other", "_law_level", "_law_equal", "_law_index", "_law_y", "_law_got", "_law_part"] ["_law_parts_here", "_law_others"] (defScope s_by_walk) := ⟨rfl, rfl, rfl, by decide +kernel, rfl, by decide +kernel, by decide +kernel⟩
abbrev s_by_runs : Stmt := topS 59
theorem sc_by_runs : FnScope ["_law_parts_here", "_law_others", "_law_level", "_law_equal", "_law_under", "_law_part", "_law_run", "_law_other", "_law_against", "_law_above", "_law_alike", "_law_pairs", "_law_weight"] ["_law_parts_here", "_law_others"] (defScope s_by_runs) := ⟨rfl, rfl, rfl, by decide +kernel, rfl, by decide +kernel, by decide +kernel⟩
abbrev s_rule_refused : Stmt := topS 60
theorem sc_rule_refused : FnScope ["_law_one", "_law_other", "_law_rule", "_law_found", "e"] ["_law_one", "_law_other", "_law_rule"] (defScope s_rule_refused) := ⟨rfl, rfl, rfl, by decide +kernel, rfl, by decide +kernel, by decide +kernel⟩
abbrev s_long_row : Stmt := topS 61
theorem sc_long_row : FnScope ["_law_pool_here", "_law_many", "_law_index"] ["_law_pool_here"] (defScope s_long_row) := ⟨rfl, rfl, rfl, by decide +kernel, rfl, by decide +kernel, by decide +kernel⟩
abbrev s_law : Stmt := topS 62
theorem sc_law : FnScope ["_law_script", "_law_pool_here", "_law_parts_here", "_law_others", "_law_due", "_law_one", "_law_other", "_law_bad", "_law_rule", "_law_top", "_law_k", "_law_single", "_law_part"] ["_law_script"] (defScope s_law) := ⟨rfl, rfl, rfl, by decide +kernel, rfl, by decide +kernel, by decide +kernel⟩
section
variable {P : Program} {w : World} {K : PySem.W.Frag} {mg : Str → Option Value} {base : Heap}

def spMix : Sp := fun vs H Q _ => ∃ (s t m : Int), vs = [.int s, .int t, .int m] ∧ 2 ≤ m ∧ m < 1073741824 ∧ ∀ r : Int, 0 ≤ r → r < m → Q (.int r) H
abbrev CalMix (P : Program) (w : World) (K : PySem.W.Frag) (mg : Str → Option Value) (base : Heap) := Cal P w K mg base 1 "_law_mix" ["_law_state", "_law_turn", "_law_many"] spMix
theorem ok_mix (B : Blt mg) (D : Dfn K mg "_law_mix" "_law_mix" s_mix ["_law_state", "_law_turn", "_law_many"]) : CalMix P w K mg base := by
  refine D.cal sc_mix (fun vs H Q E h => ?_) (fun f cdv A outer st H vs Q E hr h => ?_)
  · obtain ⟨s, t, m, rfl, _⟩ := h
    rfl
  · obtain ⟨s, t, m, rfl, h2, h3, q⟩ := h
    refine ⟨_, (pss_cons (ps_set (i := 3) sc_mix.nd rfl (Or.inl rfl) (pe_op op_modN (pe_callTy call_int1 (by rfl) B.int (by decide +kernel) (pa_cons (pe_op op_add (pe_op op_add (pe_op op_mul (pv 0) (pe_int)) (pe_op op_mul (pv 1) (pe_int))) (pe_int)) pa_nil)) (pe_int)))
      (pss_cons (ps_set (i := 4) sc_mix.nd rfl (Or.inl rfl) (pe_op op_modN (pe_callTy call_int1 (by rfl) B.int (by decide +kernel) (pa_cons (pe_op op_add (pe_op op_add (pe_op op_mul (pv 3) (pv 3)) (pe_op op_mul (pv 1) (pe_int))) (pv 0)) pa_nil)) (pe_int)))
      (pss_one (ps_ret (pe_op op_modN (pe_callTy call_int1 (by rfl) B.int (by decide +kernel) (pa_cons (pe_op op_fdivA (pv 4) (pe_int)) pa_nil)) (pv 2)))))), ?_⟩
    walk_at "go"
    have b1 := fm (s * 16807 + t * 7919 + 101) (show (0 : Int) < 2147483629 by decide)
    refine ⟨.inl ⟨by omega, by omega⟩, ?_⟩
    walk_at "go"
    have b2 := fm (((((s * 16807 + t * 7919 + 101).fmod 2147483629 * (s * 16807 + t * 7919 + 101).fmod 2147483629) + t * 104729 + s).fmod 2147483587).fdiv 11) (show (0 : Int) < m by omega)
    exact q _ b2.1 b2.2
def spDraw : Sp := fun vs H Q _ => ∃ (p : Pla) (m : Int), vs = [.ref p, .int m] ∧ Pool H p ∧ 2 ≤ m ∧ m < 1073741824 ∧ ∀ (r : Int) (H' : Hp), 0 ≤ r → r < m → Pool H' p → Keeps H H' p → Q (.int r) H'
abbrev CalDraw (P : Program) (w : World) (K : PySem.W.Frag) (mg : Str → Option Value) (base : Heap) := Cal P w K mg base 2 "_law_draw" ["_law_pool_here", "_law_many"] spDraw
theorem ok_draw (B : Blt mg) (D : Dfn K mg "_law_draw" "_law_draw" s_draw ["_law_pool_here", "_law_many"]) (C_mix : CalMix P w K mg base) : CalDraw P w K mg base := by
  refine D.cal sc_draw (fun vs H Q E h => ?_) (fun f cdv A outer st H vs Q E hr h => ?_)
  · obtain ⟨p, m, rfl, _⟩ := h
    rfl
  · obtain ⟨p, m, rfl, ⟨ns, i, b, c, d, hp, hq, hi, hqp⟩, h2, h3, k⟩ := h
    refine ⟨_, (pss_cons (ps_if (PW.pt (pw_or (pt_cmpR op_lt (pv 1) (pe_int) (nomark _)) (pw_or1 (pt_cmpR op_eq (pe_callB call_len_seq (by rfl) B.len PySem.boot_len (pa_cons (pe_ix ix_list (pv 0) (pe_int) (fun _ _ => rfl)) pa_nil)) (pe_int) (nomark _))))) (pss_one (ps_ret (pe_int))) pss_nil)
      (pss_cons (ps_asg (pe_op op_add (pe_ix ix_list (pv 0) (pe_int) (fun _ _ => rfl)) (pe_int)) (pg_sub (pv 0) (pe_int) set_list))
      (pss_cons (ps_for PassesOwn.never rfl (pi_range1 (by rfl) B.range (pa_cons (pe_int) pa_nil)) (pg_name (i := 2) sc_draw.nd rfl (Or.inl rfl)) (pss_cons (ps_if (pt_cmpR op_gt (pe_ix ix_list (pv 0) (pe_int) (fun _ _ => rfl)) (pe_int) (nomark _)) (pss_cons (ps_set (i := 3) sc_draw.nd rfl (Or.inl rfl) (pe_op op_modN (pe_callTy call_int1 (by rfl) B.int (by decide +kernel) (pa_cons (pe_ix ix_list (pv 0) (pe_int) (fun _ _ => rfl)) pa_nil)) (pv 1)))
      (pss_cons (ps_asg (pe_op op_fdivA (pe_ix ix_list (pv 0) (pe_int) (fun _ _ => rfl)) (pv 1)) (pg_sub (pv 0) (pe_int) set_list))
      (pss_one (ps_ret (pv 3))))) pss_nil)
      (pss_cons (ps_if (pt_cmpR op_ge (pe_ix ix_list (pv 0) (pe_int) (fun _ _ => rfl)) (pe_callB call_len_seq (by rfl) B.len PySem.boot_len (pa_cons (pe_ix ix_list (pv 0) (pe_int) (fun _ _ => rfl)) pa_nil)) (nomark _)) (pss_one (ps_ret (pe_cal C_mix (hr.mono (by decide)) (pa_cons (pe_ix ix_list (pv 0) (pe_int) (fun _ _ => rfl)) (pa_cons (pe_ix ix_list (pv 0) (pe_int) (fun _ _ => rfl)) (pa_cons (pv 1) pa_nil)))))) pss_nil)
      (pss_cons (ps_set (i := 4) sc_draw.nd rfl (Or.inl rfl) (pe_ix ix_list (pe_ix ix_list (pv 0) (pe_int) (fun _ _ => rfl)) (pe_ix ix_list (pv 0) (pe_int) (fun _ _ => rfl)) (fun _ _ => rfl)))
      (pss_cons (ps_asg (pe_op op_add (pe_ix ix_list (pv 0) (pe_int) (fun _ _ => rfl)) (pe_int)) (pg_sub (pv 0) (pe_int) set_list))
      (pss_cons (ps_asg (pe_op op_modN (pe_callTy call_int1 (by rfl) B.int (by decide +kernel) (pa_cons (pe_op op_add (pe_op op_add (pe_op op_mul (pe_ix ix_list (pv 0) (pe_int) (fun _ _ => rfl)) (pe_int)) (pe_op op_mul (pv 4) (pe_int))) (pe_int)) pa_nil)) (pe_int)) (pg_sub (pv 0) (pe_int) set_list))
      (pss_cons (ps_if (pt_cmpR op_lt (pv 4) (pe_op op_pow (pe_int) (pe_int)) (nomark _)) (pss_one (ps_ret (pe_cal C_mix (hr.mono (by decide)) (pa_cons (pe_ix ix_list (pv 0) (pe_int) (fun _ _ => rfl)) (pa_cons (pe_ix ix_list (pv 0) (pe_int) (fun _ _ => rfl)) (pa_cons (pv 1) pa_nil)))))) pss_nil)
      (pss_one (ps_asg (pe_op op_sub (pv 4) (pe_op op_pow (pe_int) (pe_int))) (pg_sub (pv 0) (pe_int) set_list))))))))))
      (pss_one (ps_ret (pe_cal C_mix (hr.mono (by decide)) (pa_cons (pe_ix ix_list (pv 0) (pe_int) (fun _ _ => rfl)) (pa_cons (pe_ix ix_list (pv 0) (pe_int) (fun _ _ => rfl)) (pa_cons (pv 1) pa_nil))))))))), ?_⟩
    walk_at "go"
    rw [decide_eq_false (by omega)]
    refine iteF ?_
    walk_at "go"
    refine ⟨_, _, _, _, rfl, rfl, SqL.of hp, rfl, ?_⟩
    refine ⟨_, _, rfl, .inl (SqL.of hq), ?_⟩
    walk_at "go"
    walk_at "if"
    · intro _
      walk_at "go"
      exact k 0 H (by omega) (by omega) ⟨ns, i, b, c, d, hp, hq, hi, hqp⟩ (Keeps.refl _ _)
    intro hlen
    refine ⟨_, rfl, _, _, _, _, rfl, rfl, SqL.of hp, rfl, ?_⟩
    walk_at "go"
    refine ⟨_, _, _, _, rfl, rfl, hp, rfl, ?_⟩
    refine ⟨64, rfl, by decide, by decide, for_range (n := 64) (fun _ σ H' => ∃ v2 v3 v4 : Option V, σ = [some (.ref (p : Addr)), some (.int m), v2, v3, v4] ∧ ∃ i b c d : Int, H' p = some (.lst [.ref p.q, .int i, .int b, .int c, .int d]) ∧ H' p.q = some (.lst (ns.map V.int)) ∧ 0 ≤ i ∧ Keeps H H' p)
      ⟨none, none, none, rfl, i, b, c, d + 1, upd_same, by rw [upd_ne hqp]; exact hq, hi, Keeps.upd⟩ ?_ ?_⟩
    · rintro j σ H1 hj ⟨v2, v3, v4, rfl, i, b, c, d, hp, hq, hi, hk⟩
      refine ⟨_, rfl, _, _, _, _, rfl, rfl, SqL.of hp, rfl, ?_⟩
      walk_at "go"
      walk_at "if"
      · intro hb
        refine ⟨_, rfl, _, _, _, _, rfl, rfl, SqL.of hp, rfl, ?_⟩
        walk_at "go"
        refine ⟨_, _, _, _, rfl, rfl, SqL.of hp, rfl, ?_⟩
        walk_at "go"
        refine ⟨divA (b := 30) (by omega) (by omega) (by decide) (by decide), ?_⟩
        walk_at "go"
        refine ⟨_, _, _, _, rfl, rfl, hp, rfl, ?_⟩
        walk_at "go"
        have b2 := fm b (show (0 : Int) < m by omega)
        exact k _ _ b2.1 b2.2 ⟨ns, i, _, c, d, upd_same, by rw [upd_ne hqp]; exact hq, hi, hqp⟩ (hk.trans Keeps.upd)
      · intro hb
        refine ⟨_, rfl, _, _, _, _, rfl, rfl, SqL.of hp, rfl, ?_⟩
        walk_at "go"
        refine ⟨_, _, _, _, rfl, rfl, SqL.of hp, rfl, ?_⟩
        refine ⟨_, _, rfl, .inl (SqL.of hq), ?_⟩
        walk_at "go"
        walk_at "if"
        · intro hl
          refine ⟨_, rfl, _, _, _, _, rfl, rfl, SqL.of hp, rfl, ?_⟩
          refine ⟨_, rfl, _, _, _, _, rfl, rfl, SqL.of hp, rfl, ?_⟩
          walk_at "go"
          refine ⟨_, _, _, rfl, h2, h3, fun r r0 r1 => ?_⟩
          exact k _ _ r0 r1 ⟨ns, i, b, c, d, hp, hq, hi, hqp⟩ hk
        · intro hl
          have hl2 : i < (ns.length : Int) := by
            have hl' : ¬ ((ns.map V.int).length : Int) ≤ i := hl
            rw [List.length_map] at hl'
            omega
          obtain ⟨n, rfl⟩ : ∃ n : Nat, i = (n : Int) := ⟨i.toNat, by omega⟩
          have hn : n < ns.length := by omega
          refine ⟨_, rfl, _, _, _, _, rfl, rfl, SqL.of hp, rfl, ?_⟩
          refine ⟨_, rfl, _, _, _, _, rfl, rfl, SqL.of hp, rfl, ?_⟩
          refine ⟨_, _, _, _, rfl, rfl, SqL.of hq, atI_nat (ints_at hn), ?_⟩
          refine ⟨_, rfl, _, _, _, _, rfl, rfl, SqL.of hp, rfl, ?_⟩
          walk_at "go"
          refine ⟨_, _, _, _, rfl, rfl, hp, rfl, ?_⟩
          refine ⟨_, rfl, _, _, _, _, rfl, rfl, SqL.of upd_same, rfl, ?_⟩
          walk_at "go"
          refine ⟨_, _, _, _, rfl, rfl, upd_same, rfl, ?_⟩
          walk_at "go"
          walk_at "if"
          · intro hcell
            refine ⟨_, rfl, _, _, _, _, rfl, rfl, SqL.of upd_same, rfl, ?_⟩
            refine ⟨_, rfl, _, _, _, _, rfl, rfl, SqL.of upd_same, rfl, ?_⟩
            walk_at "go"
            refine ⟨_, _, _, rfl, h2, h3, fun r r0 r1 => ?_⟩
            exact k _ _ r0 r1 ⟨ns, _, b, _, d, upd_same, by rw [upd_ne hqp, upd_ne hqp]; exact hq, by omega, hqp⟩ ((hk.trans Keeps.upd).trans Keeps.upd)
          · intro hcell
            walk_at "go"
            refine ⟨_, _, _, _, rfl, rfl, upd_same, rfl, ?_⟩
            exact ⟨_, _, _, rfl, _, _, _, d, upd_same, by rw [upd_ne hqp, upd_ne hqp, upd_ne hqp]; exact hq, by omega, ((hk.trans Keeps.upd).trans Keeps.upd).trans Keeps.upd⟩
    · rintro σ H1 ⟨v2, v3, v4, rfl, i, b, c, d, hp, hq, hi, hk⟩
      refine ⟨_, rfl, _, _, _, _, rfl, rfl, SqL.of hp, rfl, ?_⟩
      refine ⟨_, rfl, _, _, _, _, rfl, rfl, SqL.of hp, rfl, ?_⟩
      walk_at "go"
      refine ⟨_, _, _, rfl, h2, h3, fun r r0 r1 => ?_⟩
      exact k _ _ r0 r1 ⟨ns, i, b, c, d, hp, hq, hi, hqp⟩ hk

theorem wide_ix {s : Int} (h0 : 3 ≤ s) (h1 : s < 6) : ∃ M : Int, atI [V.int 1, V.int 2, V.int 5] (s - 3) = some (V.int M) ∧ (M = 1 ∨ M = 2 ∨ M = 5) := by
  have : s = 3 ∨ s = 4 ∨ s = 5 := by omega
  rcases this with rfl | rfl | rfl
  · exact ⟨1, rfl, by omega⟩
  · exact ⟨2, rfl, by omega⟩
  · exact ⟨5, rfl, by omega⟩
def spWide : Sp := fun vs H Q _ => ∃ (p : Pla), vs = [.ref p] ∧ Pool H p ∧ ∀ (r : Int) (H' : Hp), 0 ≤ r → r < 10 ^ 30 → Pool H' p → Keeps H H' p → Q (.int r) H'
abbrev CalWide (P : Program) (w : World) (K : PySem.W.Frag) (mg : Str → Option Value) (base : Heap) := Cal P w K mg base 3 "_law_wide" ["_law_pool_here"] spWide
theorem ok_wide (B : Blt mg) (D : Dfn K mg "_law_wide" "_law_wide" s_wide ["_law_pool_here"]) (C_draw : CalDraw P w K mg base) : CalWide P w K mg base := by
  refine D.cal sc_wide (fun vs H Q E h => ?_) (fun f cdv A outer st H vs Q E hr h => ?_)
  · obtain ⟨p, rfl, _⟩ := h
    rfl
  · obtain ⟨p, rfl, hP, k⟩ := h
    refine ⟨_, (pss_cons (ps_set (i := 1) sc_wide.nd rfl (Or.inl rfl) (pe_cal C_draw (hr.mono (by decide)) (pa_cons (pv 0) (pa_cons (pe_int) pa_nil))))
      (pss_cons (ps_if (pt_cmpR op_eq (pv 1) (pe_int) (nomark _)) (pss_one (ps_ret (pe_cal C_draw (hr.mono (by decide)) (pa_cons (pv 0) (pa_cons (pe_int) pa_nil))))) pss_nil)
      (pss_cons (ps_if (pt_cmpR op_lt (pv 1) (pe_int) (nomark _)) (pss_one (ps_ret (pe_cal C_draw (hr.mono (by decide)) (pa_cons (pv 0) (pa_cons (pe_int) pa_nil))))) pss_nil)
      (pss_cons (ps_set (i := 2) sc_wide.nd rfl (Or.inl rfl) (pe_ix ix_tup (pe_tup (pa_cons (pe_int) (pa_cons (pe_int) (pa_cons (pe_int) pa_nil)))) (pe_op op_sub (pv 1) (pe_int)) (fun _ _ => rfl)))
      (pss_cons (ps_set (i := 3) sc_wide.nd rfl (Or.inl rfl) (pe_int))
      (pss_cons (ps_for PassesOwn.never rfl (pi_range1 (by rfl) B.range (pa_cons (pv 2) pa_nil)) (pg_name (i := 4) sc_wide.nd rfl (Or.inl rfl)) (pss_one (ps_set (i := 3) sc_wide.nd rfl (Or.inl rfl) (pe_op op_add (pe_op op_mul (pv 3) (pe_op op_pow (pe_int) (pe_int))) (pe_cal C_draw (hr.mono (by decide)) (pa_cons (pv 0) (pa_cons (pe_op op_pow (pe_int) (pe_int)) pa_nil)))))))
      (pss_one (ps_ret (pv 3))))))))), ?_⟩
    refine ⟨_, rfl, p, 6, rfl, hP, by decide, by decide, fun s H1 s0 s1 hP1 hk1 => ?_⟩
    walk_at "go"
    walk_at "if"
    · intro _
      refine ⟨_, rfl, p, 4, rfl, hP1, by decide, by decide, fun r H2 r0 r1 hP2 hk2 => ?_⟩
      exact k r H2 r0 (by omega) hP2 (hk1.trans hk2)
    intro n0
    walk_at "go"
    walk_at "if"
    · intro _
      refine ⟨_, rfl, p, 30, rfl, hP1, by decide, by decide, fun r H2 r0 r1 hP2 hk2 => ?_⟩
      exact k r H2 r0 (by omega) hP2 (hk1.trans hk2)
    intro n3
    obtain ⟨M, eM, hM⟩ := wide_ix (s := s) (by omega) s1
    refine ⟨(by show 3 ≤ sizeLine; decide), fun t ht => ?_⟩
    walk_at "go"
    refine ⟨_, _, _, _, rfl, rfl, SqT.of upd_same, eM, ?_⟩
    refine ⟨_, rfl, _, rfl, (by omega), (by omega), for_range (n := M.toNat) (fun i σ H' => ∃ (f : Int) (v4 : Option V), σ = [some (.ref (p : Addr)), some (.int s), some (.int M), some (.int f), v4] ∧ 0 ≤ f ∧ f < 1000000 ^ i ∧ Pool H' p ∧ Keeps H H' p)
      ⟨0, none, rfl, by omega, by decide, hP1.upd ht, hk1.trans (same_keeps (same_upd ht))⟩ ?_ ?_⟩
    · rintro i σ H2 hi ⟨f, v4, rfl, f0, f1, hP2, hk2⟩
      walk_at "go"
      refine ⟨_, _, rfl, hP2, by decide, by decide, fun r H3 r0 r1 hP3 hk3 => ?_⟩
      walk_at "go"
      have r1' : r < 1000000 := r1
      refine ⟨f * 1000000 + r, _, rfl, by omega, ?_, hP3, hk2.trans hk3⟩
      rw [Int.pow_succ]
      omega
    · rintro σ H2 ⟨f, v4, rfl, f0, f1, hP2, hk2⟩
      refine ⟨_, rfl, k f H2 f0 ?_ hP2 hk2⟩
      rcases hM with rfl | rfl | rfl
      · exact Int.lt_of_lt_of_le f1 (by decide)
      · exact Int.lt_of_lt_of_le f1 (by decide)
      · exact Int.lt_of_lt_of_le f1 (by decide)

def spAny : Sp := fun vs H Q _ => ∃ (p : Pla), vs = [.ref p] ∧ Pool H p ∧ ∀ (r : Int) (H' : Hp), 0 ≤ r → r < 10 ^ 60 → Pool H' p → Keeps H H' p → Q (.int r) H'
abbrev CalAny (P : Program) (w : World) (K : PySem.W.Frag) (mg : Str → Option Value) (base : Heap) := Cal P w K mg base 4 "_law_any" ["_law_pool_here"] spAny
theorem ok_any (B : Blt mg) (D : Dfn K mg "_law_any" "_law_any" s_any ["_law_pool_here"]) (C_draw : CalDraw P w K mg base) (C_wide : CalWide P w K mg base) : CalAny P w K mg base := by
  refine D.cal sc_any (fun vs H Q E h => ?_) (fun f cdv A outer st H vs Q E hr h => ?_)
  · obtain ⟨p, rfl, _⟩ := h
    rfl
  · obtain ⟨p, rfl, hP, k⟩ := h
    have last : ∀ H1, Pool H1 p → Keeps H H1 p → spWide ([V.ref p] ++ []) H1 Q E0 := fun H1 hP1 hk1 =>
      ⟨p, rfl, hP1, fun r H2 r0 r1 hP2 hk2 => k r H2 r0 (Int.lt_of_lt_of_le r1 (by decide)) hP2 (hk1.trans hk2)⟩
    refine ⟨_, (pss_cons (ps_if (PW.pt (pw_and (pt_cmpR op_eq (pe_cal C_draw (hr.mono (by decide)) (pa_cons (pv 0) (pa_cons (pe_int) pa_nil))) (pe_int) (nomark _)) (pw_and1 (pt_cmpR op_lt (pe_ix ix_list (pv 0) (pe_int) (fun _ _ => rfl)) (pe_callB call_len_seq (by rfl) B.len PySem.boot_len (pa_cons (pe_ix ix_list (pv 0) (pe_int) (fun _ _ => rfl)) pa_nil)) (nomark _))))) (pss_cons (ps_set (i := 1) sc_any.nd rfl (Or.inl rfl) (pe_ix ix_list (pe_ix ix_list (pv 0) (pe_int) (fun _ _ => rfl)) (pe_ix ix_list (pv 0) (pe_int) (fun _ _ => rfl)) (fun _ _ => rfl)))
      (pss_cons (ps_asg (pe_op op_add (pe_ix ix_list (pv 0) (pe_int) (fun _ _ => rfl)) (pe_int)) (pg_sub (pv 0) (pe_int) set_list))
      (pss_one (ps_ret (pe_op op_modN (pe_callTy call_int1 (by rfl) B.int (by decide +kernel) (pa_cons (pe_callB call_abs (by rfl) B.abs (by decide +kernel) (pa_cons (pv 1) pa_nil)) pa_nil)) (pe_op op_pow (pe_int) (pe_int))))))) pss_nil)
      (pss_one (ps_ret (pe_cal C_wide (hr.mono (by decide)) (pa_cons (pv 0) pa_nil))))), ?_⟩
    refine ⟨_, rfl, p, 8, rfl, hP, by decide, by decide, fun s H1 s0 s1 hP1 hk1 => ?_⟩
    walk_at "go"
    obtain ⟨ns, i, b, c, d, hp, hq, hi, hqp⟩ := id hP1
    walk_at "if"
    · intro _
      refine ⟨_, rfl, _, _, _, _, rfl, rfl, SqL.of hp, rfl, ?_⟩
      refine ⟨_, rfl, _, _, _, _, rfl, rfl, SqL.of hp, rfl, ?_⟩
      refine ⟨_, _, rfl, .inl (SqL.of hq), ?_⟩
      walk_at "go"
      walk_at "if"
      · intro hl
        have hl' : i < ((ns.map V.int).length : Int) := hl
        rw [List.length_map] at hl'
        obtain ⟨n, rfl⟩ : ∃ n : Nat, i = (n : Int) := ⟨i.toNat, by omega⟩
        have hn : n < ns.length := by omega
        refine ⟨_, rfl, _, _, _, _, rfl, rfl, SqL.of hp, rfl, ?_⟩
        refine ⟨_, rfl, _, _, _, _, rfl, rfl, SqL.of hp, rfl, ?_⟩
        refine ⟨_, _, _, _, rfl, rfl, SqL.of hq, atI_nat (ints_at hn), ?_⟩
        refine ⟨_, rfl, _, _, _, _, rfl, rfl, SqL.of hp, rfl, ?_⟩
        walk_at "go"
        refine ⟨_, _, _, _, rfl, rfl, hp, rfl, ?_⟩
        walk_at "go"
        refine ⟨(by show (10 : Int) ^ (60 : Int).toNat ≠ 0; decide), ?_⟩
        have b2 := fm (if ns[n] < 0 then -ns[n] else ns[n]) (show (0 : Int) < 10 ^ 60 by decide)
        exact k _ _ b2.1 b2.2 ⟨ns, _, b, c, d, upd_same, by rw [upd_ne hqp]; exact hq, by omega, hqp⟩ (hk1.trans Keeps.upd)
      · intro _
        exact ⟨_, rfl, last _ hP1 hk1⟩
    · intro _
      exact ⟨_, rfl, last _ hP1 hk1⟩

def spPool (K : PySem.W.Frag) : Sp := fun vs H Q _ => ∃ (a : Addr) (ns : List Int), vs = [.ref a] ∧ SqL K H a (ns.map V.int) ∧ ns.length ≤ 63 ∧ ∀ (p : Pla) (H' : Hp), Same H H' → H p = none → H p.q = none → Pool H' p → Q (.ref p) H'
abbrev CalPool (P : Program) (w : World) (K : PySem.W.Frag) (mg : Str → Option Value) (base : Heap) := Cal P w K mg base 1 "_law_pool" ["_law_script"] (spPool K)
theorem ok_pool (B : Blt mg) (D : Dfn K mg "_law_pool" "_law_pool" s_pool ["_law_script"]) : CalPool P w K mg base := by
  refine D.cal sc_pool (fun vs H Q E h => ?_) (fun f cdv A outer st H vs Q E hr h => ?_)
  · obtain ⟨a, ns, rfl, _⟩ := h
    rfl
  · obtain ⟨a, ns, rfl, hS, hl, k⟩ := h
    refine ⟨_, (pss_one (ps_ret (pe_lst (pa_cons (pe_lc (own := [("_law_cell", 1)]) (g := gName 1) rfl sc_pool.nd (pi_list (pv 0)) (blkOk_by (N := ["_law_script", "_law_cell"]) (sc := defScope s_pool) (by decide +kernel)) (fun _ _ _ _ _ => pg_name (i := 1) sc_pool.nd rfl (Or.inl rfl)) (fun _ _ _ _ _ => pts_nil) (fun _ _ _ _ _ => (pe_callTy call_int1 (by rfl) B.int (by decide +kernel) (pa_cons (pv 1) pa_nil)))) (pa_cons (pe_int) (pa_cons (pe_int) (pa_cons (pe_int) (pa_cons (pe_int) pa_nil)))))))), ?_⟩
    refine ⟨_, rfl, a, rfl, ⟨_, hS⟩, fun D hD => lc_list (K := K) (a := a) (xs := ns.map V.int) (fun i H' => H' = upd H D (.lst ((ns.take i).map V.int))) rfl (fun i H' _ e => by rw [e]; exact (same_upd hD).seq hS) ?_ ?_⟩
    · rintro i x H' hx rfl
      obtain ⟨z, hz, rfl⟩ := int_of_map hx
      refine ⟨rfl, ?_⟩
      refine ⟨_, rfl, .inl ⟨_, rfl, _, upd_same, ?_, ?_⟩⟩
      · rw [List.length_map, List.length_take]
        exact small1000 (by omega)
      · rw [upd_upd, List.take_add_one, hz, List.map_append]
        rfl
    · rintro H' rfl
      refine ⟨(by show 5 ≤ sizeLine; decide), fun p hp => ?_⟩
      have hne : D ≠ p := ne_of_none upd_same hp
      have hp0 : H p = none := by rw [upd_ne hne.symm] at hp; exact hp
      refine k ⟨p, D⟩ _ ((same_upd hD).trans (same_upd hp)) hp0 hD ⟨ns, 0, 0, 1, 0, upd_same, ?_, by decide, hne⟩
      show upd _ p _ D = _
      rw [upd_ne hne, upd_same, List.length_map, List.take_length]

theorem kit_own {K : PySem.W.Frag} {t : Value} {C : Addr} {b : Bool} (hd : PySem.W.hasDictIn K C = true) (ht : PySem.W.typeIn K (.ref C) = some (.type "type")) (hs : PySem.W.subIn K t (.ref C) = some b) (hself : PySem.W.subIn K t t = some true) : PySem.W.kitOne K t (.ref C) = some b := by
  unfold PySem.W.kitOne
  by_cases h : (t == Value.ref C) = true
  · rw [if_pos h]
    have e := beq_iff_eq.mp h
    subst e
    rw [hs] at hself
    exact hself.symm
  · rw [if_neg h]
    obtain ⟨cd, hc, _⟩ := PySem.W.any_some hd
    have e2 : ((PySem.W.clsIn K C).isSome && PySem.W.typeIn K (.ref C) == some (.type "type")) = true := by rw [hc, ht] <;> rfl
    show (if ((PySem.W.clsIn K C).isSome && PySem.W.typeIn K (.ref C) == some (.type "type")) = true then PySem.W.subIn K t (.ref C) else none) = some b
    rw [if_pos e2]
    exact hs
theorem kit_int {K : PySem.W.Frag} {C : Addr} {b : Bool} (hd : PySem.W.hasDictIn K C = true) (ht : PySem.W.typeIn K (.ref C) = some (.type "type")) (hs : PySem.W.subIn K (.type "int") (.ref C) = some b) : PySem.W.kitOne K (.type "int") (.ref C) = some b := by
  unfold PySem.W.kitOne
  rw [if_neg (by intro h; cases beq_iff_eq.mp h)]
  obtain ⟨cd, hc, _⟩ := PySem.W.any_some hd
  have e2 : ((PySem.W.clsIn K C).isSome && PySem.W.typeIn K (.ref C) == some (.type "type")) = true := by rw [hc, ht] <;> rfl
  show (if ((PySem.W.clsIn K C).isSome && PySem.W.typeIn K (.ref C) == some (.type "type")) = true then PySem.W.subIn K (.type "int") (.ref C) else none) = some b
  rw [if_pos e2]
  exact hs
def spWhole : Sp := fun vs H Q _ => ∃ (i : Int), vs = [.int i] ∧ Q (.bl true) H
abbrev CalWhole (P : Program) (w : World) (K : PySem.W.Frag) (mg : Str → Option Value) (base : Heap) := Cal P w K mg base 1 "_law_whole" ["_law_actual"] spWhole
theorem ok_whole (B : Blt mg) (D : Dfn K mg "_law_whole" "_law_whole" s_whole ["_law_actual"]) : CalWhole P w K mg base := by
  refine D.cal sc_whole (fun vs H Q E h => ?_) (fun f cdv A outer st H vs Q E hr h => ?_)
  · obtain ⟨i, rfl, _⟩ := h
    rfl
  · obtain ⟨i, rfl, q⟩ := h
    refine ⟨_, (pss_one (ps_ret ((pe_and (pe_callB call_isi (by rfl) B.isinstance (by decide +kernel) (pa_cons (pv 0) (pa_cons (pe_bltn (v := .ty "int") (by rfl) B.int (by decide +kernel) rfl) pa_nil))) (pe_one (pe_not (pe_callB call_isi (by rfl) B.isinstance (by decide +kernel) (pa_cons (pv 0) (pa_cons (pe_bltn (v := .ty "bool") (by rfl) B.bool (by decide +kernel) rfl) pa_nil))))))))), ?_⟩
    refine ⟨_, rfl, _, _, _, _, true, rfl, .ty _, .base (.int _), kit_ty (by decide +kernel), _, rfl, iteT ?_⟩
    refine ⟨_, rfl, _, _, _, _, false, rfl, .ty _, .base (.int _), kit_ty (by decide +kernel), _, rfl, ?_⟩
    exact q

theorem ok_bn {C f : Addr} {fd : FuncData} (T : BnC K mg C) (F : Fun K "__init__" "BadNumber.__init__" s_BadNumber_init f fd) : FnOk P w K mg base CX0 1 f fd ["self", "name", "value"] (spBN C) := by
  refine F.ok sc_BadNumber_init (fun vs H Q E h => ?_) (fun cdv A outer st H vs Q E hr h => ?_)
  · obtain ⟨a, n, v, rfl, _⟩ := h
    rfl
  · obtain ⟨a, n, v, rfl, ha, k⟩ := h
    refine ⟨_, pss_cons (ps_ost (pv 0) (pv 1)) (pss_one (ps_ost (pv 0) (pv 2))), ?_⟩
    refine ⟨_, rfl, _, rfl, a, C, rfl, T.o, T.nN, .inl ⟨ha, fun dx hdx hne => ?_⟩⟩
    refine ⟨_, rfl, _, rfl, a, C, rfl, T.o, T.nV, .inr ⟨dx, [("name", n)], upd_same, ?_, (by show 1 ≤ 900; decide), k dx hdx hne⟩⟩
    rw [upd_ne hne, upd_same]
end
end L

set_option Elab.async false
set_option linter.all false
set_option maxRecDepth 100000
set_option maxHeartbeats 4000000
set_option pp.maxSteps 160
set_option pp.deepTerms false
namespace L
open PySem PySem.Spec PyProof.Rows L2 Fl
local macro_rules | `(tactic| walk_at "side") => `(tactic| first | (exact .inl ⟨by omega, by omega⟩) | (exact .inr ⟨by omega, by omega⟩) | (exact .inr ⟨by decide, by decide⟩) | (show (_ : Int) ≠ _; omega) | (exact ⟨by omega, by decide⟩) | (exact ⟨by decide, by decide, by decide⟩))
local macro_rules | `(tactic| walk_at "go") => `(tactic| repeat (first | refine ⟨_, rfl, ?_⟩ | refine ⟨_, _, rfl, rfl, ?_⟩ | refine .inl ⟨_, rfl, ?_⟩ | refine ⟨rfl, ?_⟩ | refine ⟨(by walk_at "side"), ?_⟩))
local macro_rules | `(tactic| walk_at "see") => `(tactic| (set_option pp.maxSteps 110 in set_option pp.deepTerms false in trace_state))
local macro_rules | `(tactic| walk_at "if") => `(tactic| first | refine ifE ?_ ?_ | refine ifNE ?_ ?_ | refine ifD ?_ ?_ | refine ifN ?_ ?_ | refine ifB ?_ ?_)
open Bx
section
variable {P : Program} {w : World} {K : PySem.W.Frag} {mg : Str → Option Value} {base : Heap}

def spInit (C ZU : Addr) : Sp := fun vs H Q E => ∃ (x dx : Addr) (t u : Int), vs = [.ref x, .int t, .int u] ∧ H x = some (.ins C dx []) ∧ u.natAbs < 2 ^ 8999 ∧
  (u ≠ 0 → ∀ H' : Hp, H' x = some (.ins C dx (rf (nT t u) (nU t u))) → Keeps H H' x → Q .non H') ∧ (u = 0 → E (.ref ZU) none H)
abbrev CalRatio (P : Program) (w : World) (K : PySem.W.Frag) (mg : Str → Option Value) (base : Heap) (C ZU : Addr) (dvs : List V) := CalC P w K mg base (L2.CX P w) 1 C "Ratio" ["self", "top", "under"] dvs (spInit C ZU)
theorem ok_init {C ZU f : Addr} {fd : FuncData} (B : Blt mg) (hgcd : mg "gcd" = some (.builtin "math.gcd")) (T : RatC K mg C) (TZ : ExC K mg "ZeroUnder" ZU)
    (F : FunD K "__init__" "Ratio.__init__" (defArgs s_Ratio_init) (defBody s_Ratio_init) (defScope s_Ratio_init) [.int 1] [] f fd) : FnOk P w K mg base (L2.CX P w) 1 f fd ["self", "top", "under"] (spInit C ZU) := by
  refine F.ok sc_Ratio_init (fun vs H Q E h => ?_) (fun cdv A outer st H vs Q E hr h => ?_)
  · obtain ⟨x, dx, t, u, rfl, _⟩ := h
    rfl
  · obtain ⟨x, dx, t, u, rfl, hx, hu, k, k0⟩ := h
    refine ⟨_, (pss_cons (ps_if (pt_cmpR op_eq (pv 2) (pe_int) (nomark _)) (pss_one (ps_raise rfl (takes_of rfl rfl rfl rfl) (pmk_own PySem.F.excBase_ValueError TZ.x TZ.g TZ.k (raises_own TZ.b TZ.t) rfl))) pss_nil)
      (pss_cons (ps_set (i := 3) sc_Ratio_init.nd rfl (Or.inl rfl) (pe_callBfun cr_gcd (by rfl) hgcd (pa_cons (pv 1) (pa_cons (pv 2) pa_nil))))
      (pss_cons (ps_if (pt_cmpR op_lt (pv 2) (pe_int) (nomark _)) (pss_one (ps_set (i := 3) sc_Ratio_init.nd rfl (Or.inl rfl) (pe_un un_neg (pv 3)))) pss_nil)
      (pss_cons (ps_fld (pv 0) (pe_op op_fdivA (pv 1) (pv 3)) rfl)
      (pss_one (ps_fld (pv 0) (pe_op op_fdivA (pv 2) (pv 3)) rfl)))))), ?_⟩
    walk_at "go"
    walk_at "if"
    · intro h0
      exact k0 h0
    intro h0
    refine ⟨_, rfl, _, rfl, _, _, rfl, ?_⟩
    walk_at "go"
    have hsn : sh t u ≠ 0 := sh_ne h0
    have hsb : (sh t u).natAbs < 2 ^ 8999 := by
      rw [sh_abs]
      exact Nat.lt_of_le_of_lt (Nat.le_of_dvd (by omega) (Nat.gcd_dvd_right _ _)) hu
    walk_at "if"
    · intro hn
      have es : sh t u = -((Nat.gcd t.natAbs u.natAbs : Nat) : Int) := if_pos hn
      have hd : CDivA t (-((Nat.gcd t.natAbs u.natAbs : Nat) : Int)) := es ▸ divA (b := 8999) hsn hsb (by decide) (by decide)
      walk_at "go"
      refine ⟨hd, ?_⟩
      refine ⟨_, rfl, x, C, dx, [], rfl, hx, T.cl, T.nT, (by show 0 < 1000; decide), ?_⟩
      refine ⟨_, rfl, _, rfl, _, _, rfl, rfl, hd, ?_⟩
      refine ⟨_, rfl, x, C, dx, _, rfl, upd_same, T.cl, T.nU, (by show 1 < 1000; decide), ?_⟩
      refine k h0 _ ?_ (Keeps.upd.trans Keeps.upd)
      rw [upd_same]
      unfold rf nT nU
      rw [es]
    · intro hn
      have es : sh t u = ((Nat.gcd t.natAbs u.natAbs : Nat) : Int) := if_neg hn
      have hd : CDivA t ((Nat.gcd t.natAbs u.natAbs : Nat) : Int) := es ▸ divA (b := 8999) hsn hsb (by decide) (by decide)
      walk_at "go"
      refine ⟨hd, ?_⟩
      refine ⟨_, rfl, x, C, dx, [], rfl, hx, T.cl, T.nT, (by show 0 < 1000; decide), ?_⟩
      refine ⟨_, rfl, _, rfl, _, _, rfl, rfl, hd, ?_⟩
      refine ⟨_, rfl, x, C, dx, _, rfl, upd_same, T.cl, T.nU, (by show 1 < 1000; decide), ?_⟩
      refine k h0 _ ?_ (Keeps.upd.trans Keeps.upd)
      rw [upd_same]
      unfold rf nT nU
      rw [es]
theorem mk_ratio {C ZU f : Addr} {fd : FuncData} (B : Blt mg) (hgcd : mg "gcd" = some (.builtin "math.gcd")) (T : RatC K mg C) (TZ : ExC K mg "ZeroUnder" ZU) (M : Mk K C f)
    (F : FunD K "__init__" "Ratio.__init__" (defArgs s_Ratio_init) (defBody s_Ratio_init) (defScope s_Ratio_init) [.int 1] [] f fd) : CalRatio P w K mg base C ZU [] ∧ CalRatio P w K mg base C ZU [.int 1] := by
  obtain ⟨d2, r2, b2⟩ := F.binds1 (ps := ["self", "top", "under"]) 3 1 (by intro e; cases e) rfl (fun T kV doc pm an cdv ct us its h1 h2 => match us, its, h1, h2 with | [_, _, _], [_], _, _ => ⟨_, rfl, rfl⟩)
  obtain ⟨d1, r1, b1⟩ := F.binds1 (ps := ["self", "top", "under"]) 2 0 (by intro e; cases e) rfl (fun T kV doc pm an cdv ct us its h1 h2 => match us, its, h1, h2 with | [_, _], [_], _, _ => ⟨_, rfl, rfl⟩)
  exact ⟨⟨f, fd, d2, M, ok_init B hgcd T TZ F, T.g, b2, r2⟩, ⟨f, fd, d1, M, ok_init B hgcd T TZ F, T.g, b1, r1⟩⟩

def spAsRatio (C : Addr) : Sp := fun vs H Q _ => (∃ (x : Addr) (t u : Int), vs = [.ref x] ∧ RatAt C H x t u ∧ Q (.ref x) H) ∨ (∃ i : Int, vs = [.int i] ∧ ∀ (x : Addr) (H' : Hp), H x = none → Same H H' → RatAt C H' x i 1 → Q (.ref x) H')
abbrev CalAsRatio (P : Program) (w : World) (K : PySem.W.Frag) (mg : Str → Option Value) (base : Heap) (C : Addr) := Cal P w K mg base 3 "as_ratio" ["number"] (spAsRatio C)
theorem made {C x dx : Addr} {fs : List (Str × V)} {H H' : Hp} (nx : H x = none) (ndx : H dx = none) (hk : Keeps (upd (upd H dx (.own x)) x (.ins C dx fs)) H' x) : Same H H' := fun b o e =>
  hk b o (by rw [upd_ne (ne_of_none e nx), upd_ne (ne_of_none e ndx)]; exact e) (ne_of_none e nx)
theorem ok_as_ratio {C ZU : Addr} (B : Blt mg) (T : RatC K mg C) (D : Dfn K mg "as_ratio" "as_ratio" s_as_ratio ["number"]) (M1 : CalRatio P w K mg base C ZU [.int 1]) : CalAsRatio P w K mg base C := by
  refine D.cal sc_as_ratio (fun vs H Q E h => ?_) (fun f cdv A outer st H vs Q E hr h => ?_)
  · rcases h with ⟨x, t, u, rfl, _⟩ | ⟨i, rfl, _⟩ <;> rfl
  · have hr0 : Room 2 _ := hr
    refine ⟨_, (pss_cons (ps_if (pt_val (pe_callB call_isi (by rfl) B.isinstance (by decide +kernel) (pa_cons (pv 0) (pa_cons (pe_glob (v := .ref _) (by rfl) T.g rfl) pa_nil)))) (pss_one (ps_ret (pv 0))) pss_nil)
      (pss_one (ps_ret (pe_mk M1 (hr0.mono (by decide)) (pa_cons (pv 0) pa_nil))))), ?_⟩
    rcases h with ⟨x, t, u, rfl, ⟨dx, hx⟩, q⟩ | ⟨i, rfl, k⟩
    · refine ⟨_, rfl, _, _, _, _, true, rfl, .own _, T.tyX hx, kit_self _, _, rfl, iteT ?_⟩
      exact ⟨_, rfl, q⟩
    · refine ⟨_, rfl, _, _, _, _, false, rfl, .own _, .base (.int _), T.ki, _, rfl, iteF ?_⟩
      refine ⟨_, rfl, fun x dx nx ndx ne => ?_⟩
      refine ⟨x, dx, i, 1, rfl, upd_same, by decide, fun _ H' hx hk => ⟨rfl, ?_⟩, fun h => absurd h (by decide)⟩
      refine k x H' nx (made nx ndx hk) ⟨dx, ?_⟩
      rw [(n_one i).1, (n_one i).2] at hx
      exact hx
def spRatio (C : Addr) : Sp := fun vs H Q _ => ∃ (x : Addr) (t u : Int), vs = [.ref x] ∧ RatAt C H x t u ∧ Q (.bl (decide (u > 0))) H
abbrev CalRatioQ (P : Program) (w : World) (K : PySem.W.Frag) (mg : Str → Option Value) (base : Heap) (C : Addr) := Cal P w K mg base 2 "_law_ratio" ["_law_actual"] (spRatio C)
theorem ok_ratio {C : Addr} (B : Blt mg) (T : RatC K mg C) (D : Dfn K mg "_law_ratio" "_law_ratio" s_ratio ["_law_actual"]) (C_whole : CalWhole P w K mg base) : CalRatioQ P w K mg base C := by
  refine D.cal sc_ratio (fun vs H Q E h => ?_) (fun f cdv A outer st H vs Q E hr h => ?_)
  · obtain ⟨x, t, u, rfl, _⟩ := h
    rfl
  · obtain ⟨x, t, u, rfl, ⟨dx, hx⟩, q⟩ := h
    refine ⟨_, (pss_cons (ps_if (pt_not (pt_val (pe_callB call_isi (by rfl) B.isinstance (by decide +kernel) (pa_cons (pv 0) (pa_cons (pe_glob (v := .ref _) (by rfl) T.g rfl) pa_nil))))) (pss_one (ps_ret (pe_bl))) pss_nil)
      (pss_one (ps_ret ((pe_and (pe_cal C_whole (hr.mono (by decide)) (pa_cons (pe_fld (pv 0) rfl) pa_nil)) (pe_and (pe_cal C_whole (hr.mono (by decide)) (pa_cons (pe_fld (pv 0) rfl) pa_nil)) (pe_one (pe_cmpR op_gt (pe_fld (pv 0) rfl) (pe_int) (nomark _))))))))), ?_⟩
    refine ⟨_, rfl, _, _, _, _, true, rfl, .own _, T.tyX hx, kit_self _, _, rfl, iteF ?_⟩
    refine ⟨_, rfl, x, C, dx, _, _, rfl, hx, T.cl, T.nT, rf_top _ _, t, rfl, _, rfl, iteT ?_⟩
    refine ⟨_, rfl, x, C, dx, _, _, rfl, hx, T.cl, T.nU, rf_under _ _, u, rfl, _, rfl, iteT ?_⟩
    refine ⟨_, rfl, x, C, dx, _, _, rfl, hx, T.cl, T.nU, rf_under _ _, _, _, rfl, rfl, ?_⟩
    exact q
end

/-! ### numbers by their values -/
theorem n_eq {t u n m : Int} (hu : u ≠ 0) (hm : m ≠ 0) (e : t * m = n * u) : nT t u = nT n m ∧ nU t u = nU n m := by
  have c := n_cross t u
  refine n_uniq hm (nU_pos hu) (n_gcd hu) (Int.eq_of_mul_eq_mul_right hu ?_)
  grind
/-- x holds n / m -/
def RatQ (C : Addr) (H : Hp) (x : Addr) (n m : Int) : Prop := RatAt C H x (nT n m) (nU n m)
theorem RatQ.same {C : Addr} {H H' : Hp} {x : Addr} {n m : Int} (h : RatQ C H x n m) (k : Same H H') : RatQ C H' x n m := RatAt.same h k
theorem RatQ.re {C : Addr} {H : Hp} {x : Addr} {n m n' m' : Int} (h : RatQ C H x n m) (hm : m ≠ 0) (hm' : m' ≠ 0) (e : n * m' = n' * m) : RatQ C H x n' m' := by
  unfold RatQ at *
  rw [← (n_eq hm hm' e).1, ← (n_eq hm hm' e).2]
  exact h
theorem RatQ.of {C : Addr} {H : Hp} {x : Addr} {t u n m : Int} (h : RatAt C H x (nT t u) (nU t u)) (hu : u ≠ 0) (hm : m ≠ 0) (e : t * m = n * u) : RatQ C H x n m := RatQ.re (n := t) (m := u) h hu hm e
/-- v is a number of the value n / m -/
def NumQ (C : Addr) (H : Hp) (v : V) (n m : Int) : Prop := (∃ z : Int, v = .int z ∧ z * m = n) ∨ ∃ x, v = .ref x ∧ RatQ C H x n m
theorem NumQ.same {C : Addr} {H H' : Hp} {v : V} {n m : Int} (h : NumQ C H v n m) (k : Same H H') : NumQ C H' v n m := by
  rcases h with h | ⟨x, e, h⟩
  · exact .inl h
  · exact .inr ⟨x, e, h.same k⟩
theorem NumQ.re {C : Addr} {H : Hp} {v : V} {n m n' m' : Int} (h : NumQ C H v n m) (hm : m ≠ 0) (hm' : m' ≠ 0) (e : n * m' = n' * m) : NumQ C H v n' m' := by
  rcases h with ⟨z, ev, ez⟩ | ⟨x, ev, hx⟩
  · refine .inl ⟨z, ev, Int.eq_of_mul_eq_mul_right hm ?_⟩
    rw [← e, ← ez]
    grind
  · exact .inr ⟨x, ev, hx.re hm hm' e⟩
section
variable {P : Program} {w : World} {K : PySem.W.Frag} {mg : Str → Option Value} {base : Heap}

def Num (C : Addr) (H : Hp) (v : V) (t u : Int) : Prop := (v = .int t ∧ u = 1) ∨ ∃ x, v = .ref x ∧ RatAt C H x t u
theorem Num.same {C : Addr} {H H' : Hp} {v : V} {t u : Int} (h : Num C H v t u) (k : Same H H') : Num C H' v t u := by
  rcases h with h | ⟨x, e, h⟩
  · exact .inl h
  · exact .inr ⟨x, e, h.same k⟩
def spIsNum (C : Addr) : Sp := fun vs H Q _ => ∃ (v : V) (t u : Int), vs = [v] ∧ Num C H v t u ∧ Q (.bl true) H
abbrev CalIsNum (P : Program) (w : World) (K : PySem.W.Frag) (mg : Str → Option Value) (base : Heap) (C : Addr) := Cal P w K mg base 1 "is_number" ["value"] (spIsNum C)
theorem ok_is_number {C : Addr} (B : Blt mg) (T : RatC K mg C) (kci : PySem.W.kitOne K (.ref C) (.type "int") = some false) (D : Dfn K mg "is_number" "is_number" s_is_number ["value"]) : CalIsNum P w K mg base C := by
  refine D.cal sc_is_number (fun vs H Q E h => ?_) (fun fA cdv A outer st H vs Q E hr h => ?_)
  · obtain ⟨v, t, u, rfl, _⟩ := h
    rfl
  · obtain ⟨v, t, u, rfl, hv, q⟩ := h
    refine ⟨_, (pss_one (ps_ret ((pe_or (pe_callB call_isi (by rfl) B.isinstance (by decide +kernel) (pa_cons (pv 0) (pa_cons (pe_bltn (v := .ty "int") (by rfl) B.int (by decide +kernel) rfl) pa_nil))) (pe_one (pe_callB call_isi (by rfl) B.isinstance (by decide +kernel) (pa_cons (pv 0) (pa_cons (pe_glob (v := .ref _) (by rfl) T.g rfl) pa_nil)))))))), ?_⟩
    rcases hv with ⟨rfl, _⟩ | ⟨x, rfl, dx, hx⟩
    · refine ⟨_, rfl, _, _, _, _, true, rfl, .ty _, .base (.int _), kit_ty (by decide +kernel), _, rfl, iteT q⟩
    · refine ⟨_, rfl, _, _, _, _, false, rfl, .ty _, T.tyX hx, kci, _, rfl, iteF ?_⟩
      exact ⟨_, rfl, _, _, _, _, true, rfl, .own _, T.tyX hx, kit_self _, q⟩

def spTopOf (C : Addr) : Sp := fun vs H Q _ => ∃ (v : V) (t u : Int), vs = [v] ∧ Num C H v t u ∧ Q (.int t) H
abbrev CalTopOf (P : Program) (w : World) (K : PySem.W.Frag) (mg : Str → Option Value) (base : Heap) (C : Addr) := Cal P w K mg base 1 "_top_of" ["number"] (spTopOf C)
theorem ok_top_of {C : Addr} (B : Blt mg) (T : RatC K mg C) (D : Dfn K mg "_top_of" "_top_of" s_top_of ["number"]) : CalTopOf P w K mg base C := by
  refine D.cal sc_top_of (fun vs H Q E h => ?_) (fun fA cdv A outer st H vs Q E hr h => ?_)
  · obtain ⟨v, t, u, rfl, _⟩ := h
    rfl
  · obtain ⟨v, t, u, rfl, hv, q⟩ := h
    refine ⟨_, (pss_one (ps_ret (pe_ifExp (pt_val (pe_callB call_isi (by rfl) B.isinstance (by decide +kernel) (pa_cons (pv 0) (pa_cons (pe_glob (v := .ref _) (by rfl) T.g rfl) pa_nil)))) (pe_fld (pv 0) rfl) (pv 0)))), ?_⟩
    rcases hv with ⟨rfl, rfl⟩ | ⟨x, rfl, dx, hx⟩
    · refine ⟨_, rfl, _, _, _, _, false, rfl, .own _, .base (.int _), T.ki, _, rfl, iteF ?_⟩
      exact ⟨_, rfl, q⟩
    · refine ⟨_, rfl, _, _, _, _, true, rfl, .own _, T.tyX hx, kit_self _, _, rfl, iteT ?_⟩
      exact ⟨_, rfl, x, C, dx, _, _, rfl, hx, T.cl, T.nT, rf_top _ _, q⟩

def spUnderOf (C : Addr) : Sp := fun vs H Q _ => ∃ (v : V) (t u : Int), vs = [v] ∧ Num C H v t u ∧ Q (.int u) H
abbrev CalUnderOf (P : Program) (w : World) (K : PySem.W.Frag) (mg : Str → Option Value) (base : Heap) (C : Addr) := Cal P w K mg base 1 "_under_of" ["number"] (spUnderOf C)
theorem ok_under_of {C : Addr} (B : Blt mg) (T : RatC K mg C) (D : Dfn K mg "_under_of" "_under_of" s_under_of ["number"]) : CalUnderOf P w K mg base C := by
  refine D.cal sc_under_of (fun vs H Q E h => ?_) (fun fA cdv A outer st H vs Q E hr h => ?_)
  · obtain ⟨v, t, u, rfl, _⟩ := h
    rfl
  · obtain ⟨v, t, u, rfl, hv, q⟩ := h
    refine ⟨_, (pss_one (ps_ret (pe_ifExp (pt_val (pe_callB call_isi (by rfl) B.isinstance (by decide +kernel) (pa_cons (pv 0) (pa_cons (pe_glob (v := .ref _) (by rfl) T.g rfl) pa_nil)))) (pe_fld (pv 0) rfl) (pe_int)))), ?_⟩
    rcases hv with ⟨rfl, rfl⟩ | ⟨x, rfl, dx, hx⟩
    · refine ⟨_, rfl, _, _, _, _, false, rfl, .own _, .base (.int _), T.ki, _, rfl, iteF ?_⟩
      exact q
    · refine ⟨_, rfl, _, _, _, _, true, rfl, .own _, T.tyX hx, kit_self _, _, rfl, iteT ?_⟩
      exact ⟨_, rfl, x, C, dx, _, _, rfl, hx, T.cl, T.nU, rf_under _ _, q⟩

theorem wm {i j : Int} (h1 : i.natAbs < 2 ^ 4400) (h2 : j.natAbs < 2 ^ 4400) : CMulW i j := wide_mul h1 h2 (by decide) (by decide) (by decide)
theorem wu {i j : Int} (h1 : i.natAbs < 2 ^ 4400) (h2 : j.natAbs < 2 ^ 4400) : (i * j).natAbs < 2 ^ 8800 := Nat.lt_of_lt_of_le (wide_lt h1 h2) (Nat.pow_le_pow_right (by decide) (by decide))
structure Sm (a b t u : Int) : Prop where
  sa : a.natAbs < 2 ^ 4400
  sb : b.natAbs < 2 ^ 4400
  st : t.natAbs < 2 ^ 4400
  su : u.natAbs < 2 ^ 4400
  bp : 0 < b
  up : 0 < u
def spAr (C : Addr) (f g : Int → Int → Int → Int → Int) : Sp := fun vs H Q _ => ∃ (x : Addr) (v : V) (a b t u : Int), vs = [.ref x, v] ∧ RatAt C H x a b ∧ Num C H v t u ∧ Sm a b t u ∧ ∀ (z : Addr) (H' : Hp), Same H H' → RatAt C H' z (nT (f a b t u) (g a b t u)) (nU (f a b t u) (g a b t u)) → Q (.ref z) H'
def spArR (C : Addr) (f g : Int → Int → Int → Int) : Sp := fun vs H Q _ => ∃ (x : Addr) (n a b : Int), vs = [.ref x, .int n] ∧ RatAt C H x a b ∧ Sm a b n 1 ∧ ∀ (z : Addr) (H' : Hp), Same H H' → RatAt C H' z (nT (f a b n) (g a b n)) (nU (f a b n) (g a b n)) → Q (.ref z) H'

theorem ok_add {C ZU fA : Addr} {fd : FuncData} (T : RatC K mg C) (C_is_number : CalIsNum P w K mg base C) (C_top_of : CalTopOf P w K mg base C) (C_under_of : CalUnderOf P w K mg base C) (M2 : CalRatio P w K mg base C ZU []) (F : Fun K "__add__" "Ratio.__add__" s_Ratio_add fA fd) : FnOk P w K mg base CX0 3 fA fd ["self", "other"] (spAr C (fun a b t u => a * u + t * b) (fun a b t u => b * u)) := by
  refine F.ok sc_Ratio_add (fun vs H Q E h => ?_) (fun cdv A outer st H vs Q E hr h => ?_)
  · obtain ⟨x, v, a, b, t, u, rfl, _⟩ := h
    rfl
  · obtain ⟨x, v, a, b, t, u, rfl, ⟨dx, hx⟩, hv, sm, k⟩ := h
    have bu : b * u ≠ 0 := Int.ne_of_gt (Int.mul_pos sm.bp sm.up)
    refine ⟨_, (pss_cons (ps_if (pt_not (pt_val (pe_cal C_is_number (hr.mono (by decide)) (pa_cons (pv 1) pa_nil)))) (pss_one (ps_never)) pss_nil)
      (pss_cons (ps_set (i := 2) sc_Ratio_add.nd rfl (Or.inl rfl) (pe_op op_add (pe_op op_mulW (pe_fld (pv 0) rfl) (pe_cal C_under_of (hr.mono (by decide)) (pa_cons (pv 1) pa_nil))) (pe_op op_mulW (pe_cal C_top_of (hr.mono (by decide)) (pa_cons (pv 1) pa_nil)) (pe_fld (pv 0) rfl))))
      (pss_one (ps_ret (pe_mk M2 (hr.mono (by decide)) (pa_cons (pv 2) (pa_cons (pe_op op_mulW (pe_fld (pv 0) rfl) (pe_cal C_under_of (hr.mono (by decide)) (pa_cons (pv 1) pa_nil))) pa_nil))))))), ?_⟩
    refine ⟨_, rfl, v, t, u, rfl, hv, _, rfl, iteF ?_⟩
    refine ⟨_, rfl, x, C, dx, _, _, rfl, hx, T.cl, T.nT, rf_top _ _, ?_⟩
    refine ⟨_, rfl, v, t, u, rfl, hv, _, _, rfl, rfl, wm sm.sa sm.su, ?_⟩
    refine ⟨_, rfl, v, t, u, rfl, hv, ?_⟩
    refine ⟨_, rfl, x, C, dx, _, _, rfl, hx, T.cl, T.nU, rf_under _ _, _, _, rfl, rfl, wm sm.st sm.sb, _, _, rfl, rfl, ?_⟩
    refine ⟨_, rfl, _, rfl, x, C, dx, _, _, rfl, hx, T.cl, T.nU, rf_under _ _, ?_⟩
    refine ⟨_, rfl, v, t, u, rfl, hv, _, _, rfl, rfl, wm sm.sb sm.su, ?_⟩
    refine fun z dz nz ndz ne => ?_
    exact ⟨z, dz, _, b * u, rfl, upd_same, ub (wu sm.sb sm.su) (by decide), fun _ H' hz hk => ⟨rfl, k z H' (made nz ndz hk) ⟨dz, hz⟩⟩, fun h => absurd h bu⟩

theorem ok_sub {C ZU fA : Addr} {fd : FuncData} (T : RatC K mg C) (C_is_number : CalIsNum P w K mg base C) (C_top_of : CalTopOf P w K mg base C) (C_under_of : CalUnderOf P w K mg base C) (M2 : CalRatio P w K mg base C ZU []) (F : Fun K "__sub__" "Ratio.__sub__" s_Ratio_sub fA fd) : FnOk P w K mg base CX0 3 fA fd ["self", "other"] (spAr C (fun a b t u => a * u - t * b) (fun a b t u => b * u)) := by
  refine F.ok sc_Ratio_sub (fun vs H Q E h => ?_) (fun cdv A outer st H vs Q E hr h => ?_)
  · obtain ⟨x, v, a, b, t, u, rfl, _⟩ := h
    rfl
  · obtain ⟨x, v, a, b, t, u, rfl, ⟨dx, hx⟩, hv, sm, k⟩ := h
    have bu : b * u ≠ 0 := Int.ne_of_gt (Int.mul_pos sm.bp sm.up)
    refine ⟨_, (pss_cons (ps_if (pt_not (pt_val (pe_cal C_is_number (hr.mono (by decide)) (pa_cons (pv 1) pa_nil)))) (pss_one (ps_never)) pss_nil)
      (pss_cons (ps_set (i := 2) sc_Ratio_sub.nd rfl (Or.inl rfl) (pe_op op_sub (pe_op op_mulW (pe_fld (pv 0) rfl) (pe_cal C_under_of (hr.mono (by decide)) (pa_cons (pv 1) pa_nil))) (pe_op op_mulW (pe_cal C_top_of (hr.mono (by decide)) (pa_cons (pv 1) pa_nil)) (pe_fld (pv 0) rfl))))
      (pss_one (ps_ret (pe_mk M2 (hr.mono (by decide)) (pa_cons (pv 2) (pa_cons (pe_op op_mulW (pe_fld (pv 0) rfl) (pe_cal C_under_of (hr.mono (by decide)) (pa_cons (pv 1) pa_nil))) pa_nil))))))), ?_⟩
    refine ⟨_, rfl, v, t, u, rfl, hv, _, rfl, iteF ?_⟩
    refine ⟨_, rfl, x, C, dx, _, _, rfl, hx, T.cl, T.nT, rf_top _ _, ?_⟩
    refine ⟨_, rfl, v, t, u, rfl, hv, _, _, rfl, rfl, wm sm.sa sm.su, ?_⟩
    refine ⟨_, rfl, v, t, u, rfl, hv, ?_⟩
    refine ⟨_, rfl, x, C, dx, _, _, rfl, hx, T.cl, T.nU, rf_under _ _, _, _, rfl, rfl, wm sm.st sm.sb, _, _, rfl, rfl, ?_⟩
    refine ⟨_, rfl, _, rfl, x, C, dx, _, _, rfl, hx, T.cl, T.nU, rf_under _ _, ?_⟩
    refine ⟨_, rfl, v, t, u, rfl, hv, _, _, rfl, rfl, wm sm.sb sm.su, ?_⟩
    refine fun z dz nz ndz ne => ?_
    exact ⟨z, dz, _, b * u, rfl, upd_same, ub (wu sm.sb sm.su) (by decide), fun _ H' hz hk => ⟨rfl, k z H' (made nz ndz hk) ⟨dz, hz⟩⟩, fun h => absurd h bu⟩

theorem ok_mul {C ZU fA : Addr} {fd : FuncData} (T : RatC K mg C) (C_is_number : CalIsNum P w K mg base C) (C_top_of : CalTopOf P w K mg base C) (C_under_of : CalUnderOf P w K mg base C) (M2 : CalRatio P w K mg base C ZU []) (F : Fun K "__mul__" "Ratio.__mul__" s_Ratio_mul fA fd) : FnOk P w K mg base CX0 3 fA fd ["self", "other"] (spAr C (fun a b t u => a * t) (fun a b t u => b * u)) := by
  refine F.ok sc_Ratio_mul (fun vs H Q E h => ?_) (fun cdv A outer st H vs Q E hr h => ?_)
  · obtain ⟨x, v, a, b, t, u, rfl, _⟩ := h
    rfl
  · obtain ⟨x, v, a, b, t, u, rfl, ⟨dx, hx⟩, hv, sm, k⟩ := h
    have bu : b * u ≠ 0 := Int.ne_of_gt (Int.mul_pos sm.bp sm.up)
    refine ⟨_, (pss_cons (ps_if (pt_not (pt_val (pe_cal C_is_number (hr.mono (by decide)) (pa_cons (pv 1) pa_nil)))) (pss_one (ps_never)) pss_nil)
      (pss_one (ps_ret (pe_mk M2 (hr.mono (by decide)) (pa_cons (pe_op op_mulW (pe_fld (pv 0) rfl) (pe_cal C_top_of (hr.mono (by decide)) (pa_cons (pv 1) pa_nil))) (pa_cons (pe_op op_mulW (pe_fld (pv 0) rfl) (pe_cal C_under_of (hr.mono (by decide)) (pa_cons (pv 1) pa_nil))) pa_nil)))))), ?_⟩
    refine ⟨_, rfl, v, t, u, rfl, hv, _, rfl, iteF ?_⟩
    refine ⟨_, rfl, x, C, dx, _, _, rfl, hx, T.cl, T.nT, rf_top _ _, ?_⟩
    refine ⟨_, rfl, v, t, u, rfl, hv, _, _, rfl, rfl, wm sm.sa sm.st, ?_⟩
    refine ⟨_, rfl, x, C, dx, _, _, rfl, hx, T.cl, T.nU, rf_under _ _, ?_⟩
    refine ⟨_, rfl, v, t, u, rfl, hv, _, _, rfl, rfl, wm sm.sb sm.su, ?_⟩
    refine fun z dz nz ndz ne => ?_
    exact ⟨z, dz, _, b * u, rfl, upd_same, ub (wu sm.sb sm.su) (by decide), fun _ H' hz hk => ⟨rfl, k z H' (made nz ndz hk) ⟨dz, hz⟩⟩, fun h => absurd h bu⟩

theorem ok_radd {C fA : Addr} {fd : FuncData} (T : RatC K mg C) (hSF : PySem.W.selfFirst K C = true) (C_is_number : CalIsNum P w K mg base C) (C_as_ratio : CalAsRatio P w K mg base C) (OP : OpOwn P w K mg base 3 C (PySem.dunder (Operator.info .Add).2) ["self", "other"] (spAr C (fun a b t u => a * u + t * b) (fun a b t u => b * u))) (F : Fun K "__radd__" "Ratio.__radd__" s_Ratio_radd fA fd) : FnOk P w K mg base CX0 4 fA fd ["self", "other"] (spArR C (fun a b n => n * b + a * 1) (fun a b n => 1 * b)) := by
  refine F.ok sc_Ratio_radd (fun vs H Q E h => ?_) (fun cdv A outer st H vs Q E hr h => ?_)
  · obtain ⟨x, n, a, b, rfl, _⟩ := h
    rfl
  · obtain ⟨x, n, a, b, rfl, ⟨dx, hx⟩, sm, k⟩ := h
    refine ⟨_, (pss_cons (ps_if (pt_not (pt_val (pe_cal C_is_number (hr.mono (by decide)) (pa_cons (pv 1) pa_nil)))) (pss_one (ps_never)) pss_nil)
      (pss_one (ps_ret (pe_op (op_oo (op := .Add) OP hSF (hr.mono (by decide))) (pe_cal C_as_ratio (hr.mono (by decide)) (pa_cons (pv 1) pa_nil)) (pv 0))))), ?_⟩
    refine ⟨_, rfl, .int n, n, 1, rfl, .inl ⟨rfl, rfl⟩, _, rfl, iteF ?_⟩
    refine ⟨_, rfl, .inr ⟨n, rfl, fun y H1 ny s1 hy => ?_⟩⟩
    obtain ⟨dy, hy⟩ := hy
    refine ⟨_, rfl, y, dy, _, x, dx, _, rfl, hy, rfl, s1 _ _ hx, ?_⟩
    exact ⟨y, .ref x, n, 1, a, b, rfl, ⟨dy, hy⟩, .inr ⟨x, rfl, dx, s1 _ _ hx⟩, ⟨sm.st, by decide, sm.sa, sm.sb, by decide, sm.bp⟩, fun z H2 s2 hz => ⟨z, rfl, k z H2 (s1.trans s2) hz⟩⟩

theorem ok_rsub {C fA : Addr} {fd : FuncData} (T : RatC K mg C) (hSF : PySem.W.selfFirst K C = true) (C_is_number : CalIsNum P w K mg base C) (C_as_ratio : CalAsRatio P w K mg base C) (OP : OpOwn P w K mg base 3 C (PySem.dunder (Operator.info .Sub).2) ["self", "other"] (spAr C (fun a b t u => a * u - t * b) (fun a b t u => b * u))) (F : Fun K "__rsub__" "Ratio.__rsub__" s_Ratio_rsub fA fd) : FnOk P w K mg base CX0 4 fA fd ["self", "other"] (spArR C (fun a b n => n * b - a * 1) (fun a b n => 1 * b)) := by
  refine F.ok sc_Ratio_rsub (fun vs H Q E h => ?_) (fun cdv A outer st H vs Q E hr h => ?_)
  · obtain ⟨x, n, a, b, rfl, _⟩ := h
    rfl
  · obtain ⟨x, n, a, b, rfl, ⟨dx, hx⟩, sm, k⟩ := h
    refine ⟨_, (pss_cons (ps_if (pt_not (pt_val (pe_cal C_is_number (hr.mono (by decide)) (pa_cons (pv 1) pa_nil)))) (pss_one (ps_never)) pss_nil)
      (pss_one (ps_ret (pe_op (op_oo (op := .Sub) OP hSF (hr.mono (by decide))) (pe_cal C_as_ratio (hr.mono (by decide)) (pa_cons (pv 1) pa_nil)) (pv 0))))), ?_⟩
    refine ⟨_, rfl, .int n, n, 1, rfl, .inl ⟨rfl, rfl⟩, _, rfl, iteF ?_⟩
    refine ⟨_, rfl, .inr ⟨n, rfl, fun y H1 ny s1 hy => ?_⟩⟩
    obtain ⟨dy, hy⟩ := hy
    refine ⟨_, rfl, y, dy, _, x, dx, _, rfl, hy, rfl, s1 _ _ hx, ?_⟩
    exact ⟨y, .ref x, n, 1, a, b, rfl, ⟨dy, hy⟩, .inr ⟨x, rfl, dx, s1 _ _ hx⟩, ⟨sm.st, by decide, sm.sa, sm.sb, by decide, sm.bp⟩, fun z H2 s2 hz => ⟨z, rfl, k z H2 (s1.trans s2) hz⟩⟩

theorem ok_rmul {C fA : Addr} {fd : FuncData} (T : RatC K mg C) (hSF : PySem.W.selfFirst K C = true) (C_is_number : CalIsNum P w K mg base C) (C_as_ratio : CalAsRatio P w K mg base C) (OP : OpOwn P w K mg base 3 C (PySem.dunder (Operator.info .Mult).2) ["self", "other"] (spAr C (fun a b t u => a * t) (fun a b t u => b * u))) (F : Fun K "__rmul__" "Ratio.__rmul__" s_Ratio_rmul fA fd) : FnOk P w K mg base CX0 4 fA fd ["self", "other"] (spArR C (fun a b n => n * a) (fun a b n => 1 * b)) := by
  refine F.ok sc_Ratio_rmul (fun vs H Q E h => ?_) (fun cdv A outer st H vs Q E hr h => ?_)
  · obtain ⟨x, n, a, b, rfl, _⟩ := h
    rfl
  · obtain ⟨x, n, a, b, rfl, ⟨dx, hx⟩, sm, k⟩ := h
    refine ⟨_, (pss_cons (ps_if (pt_not (pt_val (pe_cal C_is_number (hr.mono (by decide)) (pa_cons (pv 1) pa_nil)))) (pss_one (ps_never)) pss_nil)
      (pss_one (ps_ret (pe_op (op_oo (op := .Mult) OP hSF (hr.mono (by decide))) (pe_cal C_as_ratio (hr.mono (by decide)) (pa_cons (pv 1) pa_nil)) (pv 0))))), ?_⟩
    refine ⟨_, rfl, .int n, n, 1, rfl, .inl ⟨rfl, rfl⟩, _, rfl, iteF ?_⟩
    refine ⟨_, rfl, .inr ⟨n, rfl, fun y H1 ny s1 hy => ?_⟩⟩
    obtain ⟨dy, hy⟩ := hy
    refine ⟨_, rfl, y, dy, _, x, dx, _, rfl, hy, rfl, s1 _ _ hx, ?_⟩
    exact ⟨y, .ref x, n, 1, a, b, rfl, ⟨dy, hy⟩, .inr ⟨x, rfl, dx, s1 _ _ hx⟩, ⟨sm.st, by decide, sm.sa, sm.sb, by decide, sm.bp⟩, fun z H2 s2 hz => ⟨z, rfl, k z H2 (s1.trans s2) hz⟩⟩

def spNeg (C : Addr) : Sp := fun vs H Q _ => ∃ (x : Addr) (a b : Int), vs = [.ref x] ∧ RatAt C H x a b ∧ 0 < b ∧ b.natAbs < 2 ^ 4400 ∧ ∀ (z : Addr) (H' : Hp), Same H H' → RatAt C H' z (nT (-a) b) (nU (-a) b) → Q (.ref z) H'
theorem ok_neg {C ZU fA : Addr} {fd : FuncData} (B : Blt mg) (T : RatC K mg C) (M2 : CalRatio P w K mg base C ZU []) (F : Fun K "__neg__" "Ratio.__neg__" s_Ratio_neg fA fd) : FnOk P w K mg base CX0 3 fA fd ["self"] (spNeg C) := by
  refine F.ok sc_Ratio_neg (fun vs H Q E h => ?_) (fun cdv A outer st H vs Q E hr h => ?_)
  · obtain ⟨x, a, b, rfl, _⟩ := h
    rfl
  · obtain ⟨x, a, b, rfl, ⟨dx, hx⟩, bp, hb, k⟩ := h
    refine ⟨_, (pss_one (ps_ret (pe_mk M2 (hr.mono (by decide)) (pa_cons (pe_un un_neg (pe_fld (pv 0) rfl)) (pa_cons (pe_fld (pv 0) rfl) pa_nil))))), ?_⟩
    refine ⟨_, rfl, x, C, dx, _, _, rfl, hx, T.cl, T.nT, rf_top _ _, _, rfl, ?_⟩
    refine ⟨_, rfl, x, C, dx, _, _, rfl, hx, T.cl, T.nU, rf_under _ _, ?_⟩
    refine fun z dz nz ndz ne => ?_
    exact ⟨z, dz, _, b, rfl, upd_same, ub hb (by decide), fun _ H' hz hk => ⟨rfl, k z H' (made nz ndz hk) ⟨dz, hz⟩⟩, fun h => absurd h (by omega)⟩

def spAbs (C : Addr) : Sp := fun vs H Q _ => ∃ (x : Addr) (a b : Int), vs = [.ref x] ∧ RatAt C H x a b ∧ 0 < b ∧ b.natAbs < 2 ^ 4400 ∧ ∀ (z : Addr) (H' : Hp), Same H H' → RatAt C H' z (nT (if a < 0 then -a else a) b) (nU (if a < 0 then -a else a) b) → Q (.ref z) H'
theorem ok_abs {C ZU fA : Addr} {fd : FuncData} (B : Blt mg) (T : RatC K mg C) (M2 : CalRatio P w K mg base C ZU []) (F : Fun K "__abs__" "Ratio.__abs__" s_Ratio_abs fA fd) : FnOk P w K mg base CX0 3 fA fd ["self"] (spAbs C) := by
  refine F.ok sc_Ratio_abs (fun vs H Q E h => ?_) (fun cdv A outer st H vs Q E hr h => ?_)
  · obtain ⟨x, a, b, rfl, _⟩ := h
    rfl
  · obtain ⟨x, a, b, rfl, ⟨dx, hx⟩, bp, hb, k⟩ := h
    refine ⟨_, (pss_one (ps_ret (pe_mk M2 (hr.mono (by decide)) (pa_cons (pe_callB call_abs (by rfl) B.abs (by decide +kernel) (pa_cons (pe_fld (pv 0) rfl) pa_nil)) (pa_cons (pe_fld (pv 0) rfl) pa_nil))))), ?_⟩
    refine ⟨_, rfl, x, C, dx, _, _, rfl, hx, T.cl, T.nT, rf_top _ _, _, rfl, ?_⟩
    refine ⟨_, rfl, x, C, dx, _, _, rfl, hx, T.cl, T.nU, rf_under _ _, ?_⟩
    refine fun z dz nz ndz ne => ?_
    exact ⟨z, dz, _, b, rfl, upd_same, ub hb (by decide), fun _ H' hz hk => ⟨rfl, k z H' (made nz ndz hk) ⟨dz, hz⟩⟩, fun h => absurd h (by omega)⟩

/-! ### order -/
def spCmp (C : Addr) (f : Int → Int → Bool) : Sp := fun vs H Q _ => ∃ (x : Addr) (v : V) (a b t u : Int), vs = [.ref x, v] ∧ RatAt C H x a b ∧ Num C H v t u ∧ Sm a b t u ∧ Q (.bl (f (a * u) (t * b))) H
theorem ok_lt {C fA : Addr} {fd : FuncData} (T : RatC K mg C) (C_is_number : CalIsNum P w K mg base C) (C_top_of : CalTopOf P w K mg base C) (C_under_of : CalUnderOf P w K mg base C) (F : Fun K "__lt__" "Ratio.__lt__" s_Ratio_lt fA fd) : FnOk P w K mg base CX0 2 fA fd ["self", "other"] (spCmp C fun i j => decide (i < j)) := by
  refine F.ok sc_Ratio_lt (fun vs H Q E h => ?_) (fun cdv A outer st H vs Q E hr h => ?_)
  · obtain ⟨x, v, a, b, t, u, rfl, _⟩ := h
    rfl
  · obtain ⟨x, v, a, b, t, u, rfl, ⟨dx, hx⟩, hv, sm, q⟩ := h
    have W := (Al.nil (H := H)).got hx
    refine ⟨_, (pss_cons (ps_if (pt_not (pt_val (pe_cal C_is_number (hr.mono (by decide)) (pa_cons (pv 1) pa_nil)))) (pss_one (ps_never)) pss_nil)
      (pss_one (ps_ret (pe_cmpR op_lt (pe_op op_mulW (pe_fld (pv 0) rfl) (pe_cal C_under_of (hr.mono (by decide)) (pa_cons (pv 1) pa_nil))) (pe_op op_mulW (pe_cal C_top_of (hr.mono (by decide)) (pa_cons (pv 1) pa_nil)) (pe_fld (pv 0) rfl)) (nomark _))))), ?_⟩
    refine ⟨_, rfl, v, t, u, rfl, hv, _, rfl, iteF ?_⟩
    exact ⟨_, rfl, x, C, dx, _, _, rfl, (W.at (List.Mem.head _)), T.cl, T.nT, rf_top _ _, _, rfl, v, t, u, rfl, hv, _, _, rfl, rfl, wide_mul sm.sa sm.su (by decide) (by decide) (by decide), _, rfl, v, t, u, rfl, hv, _, rfl, x, C, dx, _, _, rfl, (W.at (List.Mem.head _)), T.cl, T.nU, rf_under _ _, _, _, rfl, rfl, wide_mul sm.st sm.sb (by decide) (by decide) (by decide), _, _, rfl, rfl, q⟩
theorem ok_le {C fA : Addr} {fd : FuncData} (T : RatC K mg C) (C_is_number : CalIsNum P w K mg base C) (C_top_of : CalTopOf P w K mg base C) (C_under_of : CalUnderOf P w K mg base C) (F : Fun K "__le__" "Ratio.__le__" s_Ratio_le fA fd) : FnOk P w K mg base CX0 2 fA fd ["self", "other"] (spCmp C fun i j => decide (i ≤ j)) := by
  refine F.ok sc_Ratio_le (fun vs H Q E h => ?_) (fun cdv A outer st H vs Q E hr h => ?_)
  · obtain ⟨x, v, a, b, t, u, rfl, _⟩ := h
    rfl
  · obtain ⟨x, v, a, b, t, u, rfl, ⟨dx, hx⟩, hv, sm, q⟩ := h
    have W := (Al.nil (H := H)).got hx
    refine ⟨_, (pss_cons (ps_if (pt_not (pt_val (pe_cal C_is_number (hr.mono (by decide)) (pa_cons (pv 1) pa_nil)))) (pss_one (ps_never)) pss_nil)
      (pss_one (ps_ret (pe_cmpR op_le (pe_op op_mulW (pe_fld (pv 0) rfl) (pe_cal C_under_of (hr.mono (by decide)) (pa_cons (pv 1) pa_nil))) (pe_op op_mulW (pe_cal C_top_of (hr.mono (by decide)) (pa_cons (pv 1) pa_nil)) (pe_fld (pv 0) rfl)) (nomark _))))), ?_⟩
    refine ⟨_, rfl, v, t, u, rfl, hv, _, rfl, iteF ?_⟩
    exact ⟨_, rfl, x, C, dx, _, _, rfl, (W.at (List.Mem.head _)), T.cl, T.nT, rf_top _ _, _, rfl, v, t, u, rfl, hv, _, _, rfl, rfl, wide_mul sm.sa sm.su (by decide) (by decide) (by decide), _, rfl, v, t, u, rfl, hv, _, rfl, x, C, dx, _, _, rfl, (W.at (List.Mem.head _)), T.cl, T.nU, rf_under _ _, _, _, rfl, rfl, wide_mul sm.st sm.sb (by decide) (by decide) (by decide), _, _, rfl, rfl, q⟩
theorem ok_gt {C fA : Addr} {fd : FuncData} (T : RatC K mg C) (C_is_number : CalIsNum P w K mg base C) (C_top_of : CalTopOf P w K mg base C) (C_under_of : CalUnderOf P w K mg base C) (F : Fun K "__gt__" "Ratio.__gt__" s_Ratio_gt fA fd) : FnOk P w K mg base CX0 2 fA fd ["self", "other"] (spCmp C fun i j => decide (i > j)) := by
  refine F.ok sc_Ratio_gt (fun vs H Q E h => ?_) (fun cdv A outer st H vs Q E hr h => ?_)
  · obtain ⟨x, v, a, b, t, u, rfl, _⟩ := h
    rfl
  · obtain ⟨x, v, a, b, t, u, rfl, ⟨dx, hx⟩, hv, sm, q⟩ := h
    have W := (Al.nil (H := H)).got hx
    refine ⟨_, (pss_cons (ps_if (pt_not (pt_val (pe_cal C_is_number (hr.mono (by decide)) (pa_cons (pv 1) pa_nil)))) (pss_one (ps_never)) pss_nil)
      (pss_one (ps_ret (pe_cmpR op_gt (pe_op op_mulW (pe_fld (pv 0) rfl) (pe_cal C_under_of (hr.mono (by decide)) (pa_cons (pv 1) pa_nil))) (pe_op op_mulW (pe_cal C_top_of (hr.mono (by decide)) (pa_cons (pv 1) pa_nil)) (pe_fld (pv 0) rfl)) (nomark _))))), ?_⟩
    refine ⟨_, rfl, v, t, u, rfl, hv, _, rfl, iteF ?_⟩
    exact ⟨_, rfl, x, C, dx, _, _, rfl, (W.at (List.Mem.head _)), T.cl, T.nT, rf_top _ _, _, rfl, v, t, u, rfl, hv, _, _, rfl, rfl, wide_mul sm.sa sm.su (by decide) (by decide) (by decide), _, rfl, v, t, u, rfl, hv, _, rfl, x, C, dx, _, _, rfl, (W.at (List.Mem.head _)), T.cl, T.nU, rf_under _ _, _, _, rfl, rfl, wide_mul sm.st sm.sb (by decide) (by decide) (by decide), _, _, rfl, rfl, q⟩
theorem ok_ge {C fA : Addr} {fd : FuncData} (T : RatC K mg C) (C_is_number : CalIsNum P w K mg base C) (C_top_of : CalTopOf P w K mg base C) (C_under_of : CalUnderOf P w K mg base C) (F : Fun K "__ge__" "Ratio.__ge__" s_Ratio_ge fA fd) : FnOk P w K mg base CX0 2 fA fd ["self", "other"] (spCmp C fun i j => decide (i ≥ j)) := by
  refine F.ok sc_Ratio_ge (fun vs H Q E h => ?_) (fun cdv A outer st H vs Q E hr h => ?_)
  · obtain ⟨x, v, a, b, t, u, rfl, _⟩ := h
    rfl
  · obtain ⟨x, v, a, b, t, u, rfl, ⟨dx, hx⟩, hv, sm, q⟩ := h
    have W := (Al.nil (H := H)).got hx
    refine ⟨_, (pss_cons (ps_if (pt_not (pt_val (pe_cal C_is_number (hr.mono (by decide)) (pa_cons (pv 1) pa_nil)))) (pss_one (ps_never)) pss_nil)
      (pss_one (ps_ret (pe_cmpR op_ge (pe_op op_mulW (pe_fld (pv 0) rfl) (pe_cal C_under_of (hr.mono (by decide)) (pa_cons (pv 1) pa_nil))) (pe_op op_mulW (pe_cal C_top_of (hr.mono (by decide)) (pa_cons (pv 1) pa_nil)) (pe_fld (pv 0) rfl)) (nomark _))))), ?_⟩
    refine ⟨_, rfl, v, t, u, rfl, hv, _, rfl, iteF ?_⟩
    exact ⟨_, rfl, x, C, dx, _, _, rfl, (W.at (List.Mem.head _)), T.cl, T.nT, rf_top _ _, _, rfl, v, t, u, rfl, hv, _, _, rfl, rfl, wide_mul sm.sa sm.su (by decide) (by decide) (by decide), _, rfl, v, t, u, rfl, hv, _, rfl, x, C, dx, _, _, rfl, (W.at (List.Mem.head _)), T.cl, T.nU, rf_under _ _, _, _, rfl, rfl, wide_mul sm.st sm.sb (by decide) (by decide) (by decide), _, _, rfl, rfl, q⟩

theorem eqv {Q : VK} {H : Hp} {a b : Int} {p : Prop} [Decidable p] (h : p ↔ a = b) (q : Q (.bl (decide p)) H) : Q (.bl (decide (V.int a = V.int b))) H := by
  by_cases e : a = b
  · rw [decide_eq_true (h.2 e)] at q
    rw [decide_eq_true (show V.int a = V.int b by rw [e])]
    exact q
  · rw [decide_eq_false (fun z => e (h.1 z))] at q
    rw [decide_eq_false (show ¬ V.int a = V.int b from fun z => e (V.int.inj z))]
    exact q
def spEqR (K : PySem.W.Frag) (C : Addr) : Sp := fun vs H Q _ => (∃ (x : Addr) (v : V) (a b t u : Int), vs = [.ref x, v] ∧ RatAt C H x a b ∧ Num C H v t u ∧ Q (.bl (decide (a = t ∧ b = u))) H) ∨
  ∃ (x : Addr) (v : V) (a b : Int) (ty : Value), vs = [.ref x, v] ∧ RatAt C H x a b ∧ TyX K H v ty ∧ PySem.W.kitOne K ty (.ref C) = some false ∧ PySem.W.kitOne K ty (.type "int") = some false ∧ Q (.bl false) H
theorem ok_eq {C fA : Addr} {fd : FuncData} (B : Blt mg) (T : RatC K mg C) (F : Fun K "__eq__" "Ratio.__eq__" s_Ratio_eq fA fd) : FnOk P w K mg base CX0 1 fA fd ["self", "other"] (spEqR K C) := by
  refine F.ok sc_Ratio_eq (fun vs H Q E h => ?_) (fun cdv A outer st H vs Q E hr h => ?_)
  · rcases h with ⟨x, v, a, b, t, u, rfl, _⟩ | ⟨x, v, a, b, ty, rfl, _⟩ <;> rfl
  refine ⟨_, (pss_cons (ps_if (pt_val (pe_callB call_isi (by rfl) B.isinstance (by decide +kernel) (pa_cons (pv 1) (pa_cons (pe_glob (v := .ref _) (by rfl) T.g rfl) pa_nil)))) (pss_one (ps_ret ((pe_and (pe_cmpR op_eq (pe_fld (pv 0) rfl) (pe_fld (pv 1) rfl) (nomark _)) (pe_one (pe_cmpR op_eq (pe_fld (pv 0) rfl) (pe_fld (pv 1) rfl) (nomark _))))))) pss_nil)
      (pss_one (ps_ret ((pe_and (pe_callB call_isi (by rfl) B.isinstance (by decide +kernel) (pa_cons (pv 1) (pa_cons (pe_bltn (v := .ty "int") (by rfl) B.int (by decide +kernel) rfl) pa_nil))) (pe_and (pe_cmpR op_eq (pe_fld (pv 0) rfl) (pe_int) (nomark _)) (pe_one (pe_cmpR op_eq (pe_fld (pv 0) rfl) (pv 1) (nomark _))))))))), ?_⟩
  rcases h with ⟨x, v, a, b, t, u, rfl, ⟨dx, hx⟩, hv, q⟩ | ⟨x, v, a, b, tt, rfl, ⟨dx, hx⟩, ty, k1, k2, q⟩
  · rcases hv with ⟨rfl, rfl⟩ | ⟨y, rfl, dy, hy⟩
    · have W := (Al.nil (H := H)).got hx
      refine ⟨_, rfl, _, _, _, _, false, rfl, .own _, .base (.int _), T.ki, _, rfl, iteF ?_⟩
      refine ⟨_, rfl, _, _, _, _, true, rfl, .ty _, .base (.int _), kit_ty (by decide +kernel), _, rfl, iteT ?_⟩
      refine ⟨_, rfl, x, C, dx, _, _, rfl, (W.at (List.Mem.head _)), T.cl, T.nU, rf_under _ _, rfl, _, rfl, ifE (fun h1 => ?_) (fun h1 => ?_)⟩
      · skip
        refine ⟨_, rfl, x, C, dx, _, _, rfl, (W.at (List.Mem.head _)), T.cl, T.nT, rf_top _ _, _, rfl, rfl, ?_⟩
        refine eqv ?_ q
        omega
      · skip
        exact (by have e := q; rw [decide_eq_false (by omega)] at e; exact e)
    · have W := ((Al.nil (H := H)).got hy).got hx
      refine ⟨_, rfl, _, _, _, _, true, rfl, .own _, T.tyX (W.at (List.Mem.tail _ (List.Mem.head _))), kit_self _, _, rfl, iteT ?_⟩
      refine ⟨_, rfl, x, C, dx, _, _, rfl, (W.at (List.Mem.head _)), T.cl, T.nT, rf_top _ _, _, rfl, y, C, dy, _, _, rfl, (W.at (List.Mem.tail _ (List.Mem.head _))), T.cl, T.nT, rf_top _ _, rfl, _, rfl, ifE (fun h1 => ?_) (fun h1 => ?_)⟩
      · skip
        refine ⟨_, rfl, x, C, dx, _, _, rfl, (W.at (List.Mem.head _)), T.cl, T.nU, rf_under _ _, _, rfl, y, C, dy, _, _, rfl, (W.at (List.Mem.tail _ (List.Mem.head _))), T.cl, T.nU, rf_under _ _, rfl, ?_⟩
        refine eqv ?_ q
        omega
      · skip
        exact (by have e := q; rw [decide_eq_false (by omega)] at e; exact e)
  · have W := (Al.nil (H := H)).got hx
    refine ⟨_, rfl, _, _, _, _, false, rfl, .own _, ty, k1, _, rfl, iteF ?_⟩
    refine ⟨_, rfl, _, _, _, _, false, rfl, .ty _, ty, k2, _, rfl, iteF ?_⟩
    exact q
end

/-- .. as a top and an under -/
theorem NumQ.num {C : Addr} {H : Hp} {v : V} {n m : Int} {b : Nat} (h : NumQ C H v n m) (hm : 0 < m) (hn : n.natAbs < 2 ^ b) (hb : m.natAbs < 2 ^ b) :
    ∃ t u, Num C H v t u ∧ t * m = n * u ∧ 0 < u ∧ t.natAbs < 2 ^ b ∧ u.natAbs < 2 ^ b := by
  rcases h with ⟨z, ev, ez⟩ | ⟨x, ev, hx⟩
  · refine ⟨z, 1, .inl ⟨ev, rfl⟩, by rw [ez, Int.mul_one], by decide, Nat.lt_of_le_of_lt ?_ hn, Nat.lt_of_le_of_lt (show (1 : Int).natAbs ≤ m.natAbs by omega) hb⟩
    rw [← ez, Int.natAbs_mul]
    exact Nat.le_mul_of_pos_right _ (by omega)
  · have hm' : m ≠ 0 := by omega
    exact ⟨nT n m, nU n m, .inr ⟨x, ev, hx⟩, n_cross n m, nU_pos hm', Nat.lt_of_le_of_lt (nT_le hm') hn, Nat.lt_of_le_of_lt (nU_le hm') hb⟩
structure Sq (n m : Int) : Prop where
  p : 0 < m
  n : n.natAbs < 2 ^ 4400
  m : m.natAbs < 2 ^ 4400
abbrev spAdd (C : Addr) := spAr C (fun a b t u => a * u + t * b) (fun a b t u => b * u)
abbrev spSub (C : Addr) := spAr C (fun a b t u => a * u - t * b) (fun a b t u => b * u)
abbrev spMul (C : Addr) := spAr C (fun a b t u => a * t) (fun a b t u => b * u)
/-- a Ratio with a number: what the operator's two rules ask -/
theorem ar_q {C : Addr} {f g : Int → Int → Int → Int → Int} {H : Hp} {x : Addr} {v : V} {n m n' m' N M : Int} {Q : VK} (hx : RatQ C H x n m) (hv : NumQ C H v n' m') (s1 : Sq n m) (s2 : Sq n' m') (hM : M ≠ 0)
    (hg : ∀ a b t u : Int, 0 < b → 0 < u → g a b t u ≠ 0) (e : ∀ a b t u : Int, 0 < b → 0 < u → a * m = n * b → t * m' = n' * u → f a b t u * M = N * g a b t u)
    (k : ∀ (z : Addr) (H' : Hp), Same H H' → RatQ C H' z N M → Q (.ref z) H') : rOO C (spAr C f g) (.ref x) v H Q ∨ rOI C (spAr C f g) (.ref x) v H Q := by
  obtain ⟨t, u, hn, et, pu, bt, bu⟩ := hv.num s2.p s2.n s2.m
  have nm : m ≠ 0 := by have := s1.p; omega
  have pm := nU_pos (t := n) nm
  have sm : Sm (nT n m) (nU n m) t u := ⟨Nat.lt_of_le_of_lt (nT_le nm) s1.n, Nat.lt_of_le_of_lt (nU_le nm) s1.m, bt, bu, pm, pu⟩
  have fin : ∀ (z : Addr) (H' : Hp), Same H H' → RatAt C H' z (nT (f (nT n m) (nU n m) t u) (g (nT n m) (nU n m) t u)) (nU (f (nT n m) (nU n m) t u) (g (nT n m) (nU n m) t u)) → ∃ z', V.ref z = .ref z' ∧ Q (.ref z') H' := fun z H' s hz =>
    ⟨z, rfl, k z H' s (RatQ.of hz (hg _ _ _ _ pm pu) hM (e _ _ _ _ pm pu (n_cross n m) et))⟩
  obtain ⟨dx, hx'⟩ := id hx
  rcases id hn with ⟨rfl, rfl⟩ | ⟨y, rfl, dy, hy⟩
  · exact .inr ⟨x, dx, _, t, rfl, hx', rfl, x, .int t, _, _, t, 1, rfl, hx, hn, sm, fin⟩
  · exact .inl ⟨x, dx, _, y, dy, _, rfl, hx', rfl, hy, x, .ref y, _, _, t, u, rfl, hx, hn, sm, fin⟩
theorem add_q {C : Addr} {H : Hp} {x : Addr} {v : V} {n D n' : Int} {Q : VK} (hx : RatQ C H x n D) (hv : NumQ C H v n' D) (s1 : Sq n D) (s2 : Sq n' D) (k : ∀ (z : Addr) (H' : Hp), Same H H' → RatQ C H' z (n + n') D → Q (.ref z) H') :
    rOO C (spAdd C) (.ref x) v H Q ∨ rOI C (spAdd C) (.ref x) v H Q :=
  ar_q hx hv s1 s2 (by have := s1.p; omega) (fun a b t u h1 h2 => Int.ne_of_gt (Int.mul_pos h1 h2)) (fun a b t u h1 h2 e1 e2 => by grind) k
theorem mul_q {C : Addr} {H : Hp} {x : Addr} {v : V} {n m n' m' : Int} {Q : VK} (hx : RatQ C H x n m) (hv : NumQ C H v n' m') (s1 : Sq n m) (s2 : Sq n' m') (k : ∀ (z : Addr) (H' : Hp), Same H H' → RatQ C H' z (n * n') (m * m') → Q (.ref z) H') :
    rOO C (spMul C) (.ref x) v H Q ∨ rOI C (spMul C) (.ref x) v H Q :=
  ar_q hx hv s1 s2 (Int.ne_of_gt (Int.mul_pos s1.p s2.p)) (fun a b t u h1 h2 => Int.ne_of_gt (Int.mul_pos h1 h2)) (fun a b t u h1 h2 e1 e2 => by grind) k
theorem sgn0 {t u n m : Int} (hm : 0 < m) (hu : 0 < u) (e : t * m = n * u) : (t < 0 ↔ n < 0) ∧ (t = 0 ↔ n = 0) := by
  constructor
  · constructor
    · intro h
      rcases (by omega : n < 0 ∨ 0 ≤ n) with h1 | h1
      · exact h1
      · have := Int.mul_neg_of_neg_of_pos h hm
        have := Int.mul_nonneg h1 (show 0 ≤ u by omega)
        omega
    · intro h
      rcases (by omega : t < 0 ∨ 0 ≤ t) with h1 | h1
      · exact h1
      · have := Int.mul_neg_of_neg_of_pos h hu
        have := Int.mul_nonneg h1 (show 0 ≤ m by omega)
        omega
  · constructor
    · rintro rfl
      rw [Int.zero_mul] at e
      rcases Int.mul_eq_zero.mp e.symm with h | h
      · exact h
      · omega
    · rintro rfl
      rw [Int.zero_mul] at e
      rcases Int.mul_eq_zero.mp e with h | h
      · exact h
      · omega
end L

set_option Elab.async false
set_option linter.all false
set_option maxRecDepth 100000
set_option maxHeartbeats 4000000
set_option pp.maxSteps 160
set_option pp.deepTerms false
namespace L
open PySem PySem.Spec PyProof.Rows L2 Fl
local macro_rules | `(tactic| walk_at "side") => `(tactic| first | (exact .inl ⟨by omega, by omega⟩) | (exact .inr ⟨by omega, by omega⟩) | (exact .inr ⟨by decide, by decide⟩) | (show (_ : Int) ≠ _; omega) | (exact ⟨by omega, by decide⟩) | (exact ⟨by decide, by decide, by decide⟩))
local macro_rules | `(tactic| walk_at "go") => `(tactic| repeat (first | refine ⟨_, rfl, ?_⟩ | refine ⟨_, _, rfl, rfl, ?_⟩ | refine .inl ⟨_, rfl, ?_⟩ | refine ⟨rfl, ?_⟩ | refine ⟨(by walk_at "side"), ?_⟩))
local macro_rules | `(tactic| walk_at "see") => `(tactic| (set_option pp.maxSteps 110 in set_option pp.deepTerms false in trace_state))
local macro_rules | `(tactic| walk_at "if") => `(tactic| first | refine ifE ?_ ?_ | refine ifNE ?_ ?_ | refine ifD ?_ ?_ | refine ifN ?_ ?_ | refine ifB ?_ ?_)
open Bx

/-! ### instances of Run -/
def gf (f s c : Int) : List (Str × V) := putF "count" (.int c) (putF "step" (.int s) (putF "first" (.int f) []))
theorem fs_ne : ¬ (("first" : Str) = "step") := by decide +kernel
theorem fc_ne : ¬ (("first" : Str) = "count") := by decide +kernel
theorem sc_ne : ¬ (("step" : Str) = "count") := by decide +kernel
theorem gf_first (f s c : Int) : (gf f s c).lookup ("first" : Str) = some (.int f) := by
  unfold gf
  rw [lookup_putF, if_neg fc_ne, lookup_putF, if_neg fs_ne, lookup_putF, if_pos rfl]
theorem gf_step (f s c : Int) : (gf f s c).lookup ("step" : Str) = some (.int s) := by
  unfold gf
  rw [lookup_putF, if_neg sc_ne, lookup_putF, if_pos rfl]
theorem gf_count (f s c : Int) : (gf f s c).lookup ("count" : Str) = some (.int c) := by
  unfold gf
  rw [lookup_putF, if_pos rfl]
theorem gf_no (f s c : Int) {m : Str} (h1 : ¬ m = "count") (h2 : ¬ m = "step") (h3 : ¬ m = "first") : (gf f s c).lookup m = none := by
  unfold gf
  rw [lookup_putF, if_neg h1, lookup_putF, if_neg h2, lookup_putF, if_neg h3]
  rfl
structure RunOk (f s c : Int) : Prop where
  f0 : 0 ≤ f
  s1 : 1 ≤ s
  s4 : s ≤ 4
  c1 : 1 ≤ c
def RunAt (D : Addr) (H : Hp) (x : Addr) (f s c : Int) : Prop := ∃ dx, H x = some (.ins D dx (gf f s c))
theorem RunAt.same {D : Addr} {H H' : Hp} {x : Addr} {f s c : Int} (h : RunAt D H x f s c) (k : Same H H') : RunAt D H' x f s c := by
  obtain ⟨dx, h⟩ := h
  exact ⟨dx, k _ _ h⟩
theorem RunAt.keep {D p : Addr} {H H' : Hp} {x : Addr} {f s c : Int} (h : RunAt D H x f s c) (k : Keeps H H' p) (n : x ≠ p) : RunAt D H' x f s c := by
  obtain ⟨dx, h⟩ := h
  exact ⟨dx, k _ _ h n⟩
theorem RunAt.ne_pool {D : Addr} {p : Pla} {H : Hp} {x : Addr} {f s c : Int} (h : RunAt D H x f s c) (hp : Pool H p) : x ≠ p := by
  obtain ⟨dx, h⟩ := h
  obtain ⟨ns, i, b, c, d, h1, _⟩ := hp
  exact ne_of h h1 (by intro z; cases z)
structure RunC (K : PySem.W.Frag) (mg : Str → Option Value) (D : Addr) : Prop where
  cl : Cls K D
  nF : NoAttr K D "first"
  nS : NoAttr K D "step"
  nC : NoAttr K D "count"
  g : mg "Run" = some (.ref D)
  ha : PySem.W.findIn K (.ref D) "__class__" = some (some (.builtin "object.__class__"))
  hn : PySem.W.specialIn K (.builtin "object.__class__") "__get__" = some (some (.builtin "getset_descriptor.__get__"))
  htk : PySem.W.takesIn K (.builtin "object.__class__") = some true
  hm : PySem.W.mroIn K D (.type "object") = some true
theorem RunC.tyX {K : PySem.W.Frag} {mg : Str → Option Value} {D : Addr} (T : RunC K mg D) {H : Hp} {x dx : Addr} {fs : List (Str × V)} (h : H x = some (.ins D dx fs)) : TyX K H (.ref x) (.ref D) := .base (.ins h T.cl T.ha T.hn T.htk T.hm)
/-- how many strengths are less than k -/
def bel (f s c k : Int) : Int := if k ≤ f then 0 else if k > f + s * (c - 1) then c else (k - f + s - 1).fdiv s
theorem s_cases {f s c : Int} (h : RunOk f s c) : s = 1 ∨ s = 2 ∨ s = 3 ∨ s = 4 := by
  have := h.s1
  have := h.s4
  omega
theorem bel_ok {f s c k : Int} (h : RunOk f s c) : 0 ≤ bel f s c k ∧ bel f s c k ≤ c ∧ (0 < bel f s c k → f + s * (bel f s c k - 1) < k) ∧ (bel f s c k < c → k ≤ f + s * bel f s c k) := by
  have := h.c1
  have := h.f0
  unfold bel
  split
  · refine ⟨by omega, by omega, fun h => absurd h (by omega), fun _ => by omega⟩
  split
  · rcases s_cases h with rfl | rfl | rfl | rfl <;> refine ⟨by omega, by omega, fun _ => by omega, fun h => absurd h (by omega)⟩
  · rw [Int.fdiv_eq_ediv_of_nonneg _ (by have := h.s1; omega)]
    rcases s_cases h with rfl | rfl | rfl | rfl <;> refine ⟨by omega, by omega, fun _ => by omega, fun _ => by omega⟩
/-- a method of the class C by the name m -/
structure CalM (P : Program) (w : World) (K : PySem.W.Frag) (mg : Str → Option Value) (base : Heap) (k : Nat) (C : Addr) (m : Str) (ps : List Str) (sp : Sp) : Prop where
  ex : ∃ (f : Addr) (fd : FuncData), Meth K C m f ∧ FnOk P w K mg base CX0 k f fd ps sp ∧ Binds K fd ps []
/-- v in a, a of the class C with the def sp for __contains__ -/
def rInOwn (C : Addr) (sp : Sp) : R2 := fun x y H Q => ∃ (a dx : Addr) (gs : List (Str × V)), y = .ref a ∧ H a = some (.ins C dx gs) ∧ sp [.ref a, x] H (fun z H2 => ∃ b, z = .bl b ∧ Q (.bl b) H2) E0
theorem op_inOwn {X : Cx} {k : Nat} {C : Addr} {ps : List Str} {sp : Sp} (M : CalM X.prog X.w X.K X.mg X.base k C "__contains__" ps sp) (hr : Room k X.A) : OpR X (compareOp .In) (rInOwn C sp) := by
  obtain ⟨f, fd, hM, F, b⟩ := M.ex
  intro pins s σ H x y v u Q I rx ry h
  obtain ⟨a, dx, gs, rfl, ea, q⟩ := h
  cases ry
  obtain ⟨mA, J, _⟩ := ins_get I.hok ea
  obtain ⟨od, J, _⟩ := J.look
  obtain ⟨m, hF⟩ := I.fr
  refine PySem.W.in_K hF I.ok.mod.kin J hM.at_ hM.fn (wpAny_mono (run_fn F hr b (dvs := []) .nil pass0 I (.cons (show RelV (.ref a) (.ref a) from rfl) (.cons rx .nil)) q) (fun w s' hw => ?_) fun _ _ z => z)
  obtain ⟨z, H2, I2, rz, c, rfl, q2⟩ := hw
  cases rz
  exact wpAny_truthy_bool ⟨.bl c, H2, I2, rfl, q2⟩

theorem run_st {f s c : Int} (h : RunOk f s c) : RunOk f (if c > 1 then s else 1) c := ⟨h.f0, (by
  split
  · exact h.s1
  · decide), (by
  split
  · exact h.s4
  · decide), h.c1⟩
section
variable {P : Program} {w : World} {K : PySem.W.Frag} {mg : Str → Option Value} {base : Heap}

def spRunInit (D BN : Addr) : Sp := fun vs H Q E => ∃ (x dx : Addr) (f s c : Int), vs = [.ref x, .int f, .int s, .int c] ∧ H x = some (.ins D dx []) ∧ (f < 0 → Ref E BN H "first" f) ∧ (0 ≤ f → (s < 1 ∨ 4 < s) → Ref E BN H "step" s) ∧
  (0 ≤ f → 1 ≤ s → s ≤ 4 → c < 1 → Ref E BN H "count" c) ∧ (0 ≤ f → 1 ≤ s → s ≤ 4 → 1 ≤ c → ∀ H' : Hp, H' x = some (.ins D dx (gf f (if c > 1 then s else 1) c)) → Keeps H H' x → Q .non H')
abbrev CalRun (P : Program) (w : World) (K : PySem.W.Frag) (mg : Str → Option Value) (base : Heap) (D BN : Addr) := CalC P w K mg base (L2.CX P w) 3 D "Run" ["self", "first", "step", "count"] [] (spRunInit D BN)
theorem ok_run_init {D BN fI : Addr} {tk : Tok} {fd : FuncData} (B : Blt mg) (T : RunC K mg D) (TB : BnC K mg BN) (CE : CalE P w K mg base 1 BN) (gMS : mg "MOST_STEP" = some (.int 4 tk)) (F : Fun K "__init__" "Run.__init__" s_Run_init fI fd) : FnOk P w K mg base (L2.CX P w) 3 fI fd ["self", "first", "step", "count"] (spRunInit D BN) := by
  refine F.okX sc_Run_init (fun vs H Q E h => ?_) (fun cdv A outer st H vs Q E hr h => ?_)
  · obtain ⟨x, dx, f, s, c, rfl, _⟩ := h
    rfl
  · obtain ⟨x, dx, f, s, c, rfl, hx, k1, k2, k3, k⟩ := h
    have hr0 : Room 2 _ := hr
    refine ⟨_, (pss_cons (ps_if (pt_cmpR op_lt (pv 1) (pe_int) (nomark _)) (pss_one (ps_raise rfl (takes_of rfl rfl rfl rfl) (pmk_bn TB CE (hr0.mono (by decide)) (pa_cons pe_str (pa_cons (pv 1) pa_nil))))) pss_nil)
      (pss_cons (ps_if (pt_not (pt_chain op_le op_le (pe_int) (pv 2) (pe_glob (v := .int 4) (by rfl) gMS ⟨_, rfl⟩))) (pss_one (ps_raise rfl (takes_of rfl rfl rfl rfl) (pmk_bn TB CE (hr0.mono (by decide)) (pa_cons pe_str (pa_cons (pv 2) pa_nil))))) pss_nil)
      (pss_cons (ps_if (pt_cmpR op_lt (pv 3) (pe_int) (nomark _)) (pss_one (ps_raise rfl (takes_of rfl rfl rfl rfl) (pmk_bn TB CE (hr0.mono (by decide)) (pa_cons pe_str (pa_cons (pv 3) pa_nil))))) pss_nil)
      (pss_cons (ps_fld (pv 0) (pv 1) rfl)
      (pss_cons (ps_fld (pv 0) (pe_ifExp (pt_cmpR op_gt (pv 3) (pe_int) (nomark _)) (pv 2) (pe_int)) rfl)
      (pss_one (ps_fld (pv 0) (pv 3) rfl))))))), ?_⟩
    walk_at "go"
    walk_at "if"
    · intro h1
      exact ⟨_, rfl, bn_made (k1 h1)⟩
    intro h1
    walk_at "go"
    walk_at "if"
    · intro h2
      walk_at "go"
      walk_at "if"
      · intro h3
        exact ⟨_, rfl, bn_made (k2 (by omega) (.inr (by omega)))⟩
      intro h3
      walk_at "go"
      walk_at "if"
      · intro h4
        exact ⟨_, rfl, bn_made (k3 (by omega) h2 h3 h4)⟩
      intro h4
      have fin : ∀ (s' : Int), s' = (if c > 1 then s else 1) → Q .non (upd (upd (upd H x (.ins D dx (putF "first" (.int f) []))) x (.ins D dx (putF "step" (.int s') (putF "first" (.int f) [])))) x (.ins D dx (putF "count" (.int c) (putF "step" (.int s') (putF "first" (.int f) []))))) := fun s' e =>
        k (by omega) h2 h3 (by omega) _ (by rw [upd_same, e]; rfl) ((Keeps.upd.trans Keeps.upd).trans Keeps.upd)
      refine ⟨_, rfl, _, rfl, x, D, dx, [], rfl, hx, T.cl, T.nF, (by show 0 < 1000; decide), ?_⟩
      walk_at "go"
      walk_at "if"
      · intro h5
        refine ⟨_, rfl, _, rfl, x, D, dx, _, rfl, upd_same, T.cl, T.nS, (by show 1 < 1000; decide), ?_⟩
        refine ⟨_, rfl, _, rfl, x, D, dx, _, rfl, upd_same, T.cl, T.nC, (by show 2 < 1000; decide), ?_⟩
        exact fin s (by rw [if_pos h5])
      · intro h5
        refine ⟨_, rfl, x, D, dx, _, rfl, upd_same, T.cl, T.nS, (by show 1 < 1000; decide), ?_⟩
        refine ⟨_, rfl, _, rfl, x, D, dx, _, rfl, upd_same, T.cl, T.nC, (by show 2 < 1000; decide), ?_⟩
        exact fin 1 (by rw [if_neg h5])
    · intro h2
      walk_at "go"
      exact bn_made (k2 (by omega) (.inl (by omega)))
structure CalP (P : Program) (w : World) (K : PySem.W.Frag) (mg : Str → Option Value) (base : Heap) (k : Nat) (C : Addr) (f : Str) (sp : Sp) : Prop where
  ex : ∃ (p g : Addr) (fd : FuncData), PropOf K C f p g ∧ FnOk P w K mg base CX0 k g fd ["self"] sp ∧ Binds K fd ["self"] []
theorem pe_calP {X : Cx} {k : Nat} {C : Addr} {f : Str} {sp : Sp} {e : Expr} {pos : Pos} {ta : TE} (cl : Cls X.K C) (G : CalP X.prog X.w X.K X.mg X.base k C f sp) (hr : Room (k + 1) X.A) (he : PE X e ta) (hab : attributeBase e f X.env (eval e X.env) = eval e X.env := by rfl) :
    PE X (.Attribute e f pos) (tProp C sp [] E0 ta) := by
  obtain ⟨p, g, fd, hp, F, b⟩ := G.ex
  exact pe_prop he cl hp F hr b .nil pass0 hab
def spLast (D : Addr) : Sp := fun vs H Q _ => ∃ (x : Addr) (f s c : Int), vs = [.ref x] ∧ RunAt D H x f s c ∧ RunOk f s c ∧ Q (.int (f + s * (c - 1))) H
theorem ok_last {D fA : Addr} {fd : FuncData} (T : RunC K mg D) (F : Fun K "last" "Run.last" s_Run_last fA fd) : FnOk P w K mg base CX0 1 fA fd ["self"] (spLast D) := by
  refine F.ok sc_Run_last (fun vs H Q E h => ?_) (fun cdv A outer st H vs Q E hr h => ?_)
  · obtain ⟨x, f, s, c, rfl, _⟩ := h
    rfl
  · obtain ⟨x, f, s, c, rfl, ⟨dx, hx⟩, ok, q⟩ := h
    have := ok.s1
    have := ok.s4
    refine ⟨_, (pss_one (ps_ret (pe_op op_add (pe_fld (pv 0) rfl) (pe_op op_mul (pe_fld (pv 0) rfl) (pe_op op_sub (pe_fld (pv 0) rfl) (pe_int)))))), ?_⟩
    refine ⟨_, rfl, x, D, dx, _, _, rfl, hx, T.cl, T.nF, gf_first _ _ _, ?_⟩
    refine ⟨_, rfl, x, D, dx, _, _, rfl, hx, T.cl, T.nS, gf_step _ _ _, ?_⟩
    refine ⟨_, rfl, x, D, dx, _, _, rfl, hx, T.cl, T.nC, gf_count _ _ _, ?_⟩
    refine ⟨_, _, rfl, rfl, ?_⟩
    refine ⟨_, _, rfl, rfl, .inl ⟨by omega, by omega⟩, ?_⟩
    exact ⟨_, _, rfl, rfl, q⟩
def spBelow (D : Addr) : Sp := fun vs H Q _ => ∃ (x : Addr) (f s c k : Int), vs = [.ref x, .int k] ∧ RunAt D H x f s c ∧ RunOk f s c ∧ Q (.int (bel f s c k)) H
theorem ok_below {D fA : Addr} {fd : FuncData} (T : RunC K mg D) (CL : CalP P w K mg base 1 D "last" (spLast D)) (F : Fun K "below" "Run.below" s_Run_below fA fd) : FnOk P w K mg base CX0 3 fA fd ["self", "k"] (spBelow D) := by
  refine F.ok sc_Run_below (fun vs H Q E h => ?_) (fun cdv A outer st H vs Q E hr h => ?_)
  · obtain ⟨x, f, s, c, k, rfl, _⟩ := h
    rfl
  · obtain ⟨x, f, s, c, k, rfl, ⟨dx, hx⟩, ok, q⟩ := h
    have := ok.s1
    have := ok.s4
    unfold bel at q
    refine ⟨_, (pss_cons (ps_if (pt_cmpR op_le (pv 1) (pe_fld (pv 0) rfl) (nomark _)) (pss_one (ps_ret (pe_int))) pss_nil)
      (pss_cons (ps_if (pt_cmpR op_gt (pv 1) (pe_calP T.cl CL (hr.mono (by decide)) (pv 0)) (nomark _)) (pss_one (ps_ret (pe_fld (pv 0) rfl))) pss_nil)
      (pss_one (ps_ret (pe_op op_fdivA (pe_op op_sub (pe_op op_add (pe_op op_sub (pv 1) (pe_fld (pv 0) rfl)) (pe_fld (pv 0) rfl)) (pe_int)) (pe_fld (pv 0) rfl)))))), ?_⟩
    refine ⟨_, rfl, _, rfl, x, D, dx, _, _, rfl, hx, T.cl, T.nF, gf_first _ _ _, ?_⟩
    walk_at "go"
    walk_at "if"
    · intro h1
      rw [if_pos h1] at q
      exact q
    intro h1
    rw [if_neg h1] at q
    refine ⟨_, rfl, _, rfl, x, dx, _, rfl, hx, x, f, s, c, rfl, ⟨dx, hx⟩, ok, ?_⟩
    walk_at "go"
    walk_at "if"
    · intro h2
      rw [if_pos h2] at q
      exact ⟨_, rfl, x, D, dx, _, _, rfl, hx, T.cl, T.nC, gf_count _ _ _, q⟩
    intro h2
    rw [if_neg h2] at q
    refine ⟨_, rfl, _, rfl, x, D, dx, _, _, rfl, hx, T.cl, T.nF, gf_first _ _ _, ?_⟩
    refine ⟨_, _, rfl, rfl, ?_⟩
    refine ⟨_, rfl, x, D, dx, _, _, rfl, hx, T.cl, T.nS, gf_step _ _ _, ?_⟩
    refine ⟨_, _, rfl, rfl, _, _, rfl, rfl, ?_⟩
    refine ⟨_, rfl, x, D, dx, _, _, rfl, hx, T.cl, T.nS, gf_step _ _ _, ?_⟩
    exact ⟨_, _, rfl, rfl, divA (b := 20) (by omega) (by omega) (by decide) (by decide), q⟩
def spAbove (D : Addr) : Sp := fun vs H Q _ => ∃ (x : Addr) (f s c k : Int), vs = [.ref x, .int k] ∧ RunAt D H x f s c ∧ RunOk f s c ∧ Q (.int (c - bel f s c (k + 1))) H
theorem ok_above {D fA : Addr} {fd : FuncData} (T : RunC K mg D) (C_below : CalM P w K mg base 3 D "below" ["self", "k"] (spBelow D)) (F : Fun K "above" "Run.above" s_Run_above fA fd) : FnOk P w K mg base CX0 4 fA fd ["self", "k"] (spAbove D) := by
  obtain ⟨_, _, m_below, F_below, b_below⟩ := C_below.ex
  refine F.ok sc_Run_above (fun vs H Q E h => ?_) (fun cdv A outer st H vs Q E hr h => ?_)
  · obtain ⟨x, f, s, c, k, rfl, _⟩ := h
    rfl
  · obtain ⟨x, f, s, c, k, rfl, ⟨dx, hx⟩, ok, q⟩ := h
    refine ⟨_, (pss_one (ps_ret (pe_op op_sub (pe_fld (pv 0) rfl) (pe_meth (pv 0) T.cl m_below F_below (hr.mono (by decide)) b_below .nil pass0 (pa_cons (pe_op op_add (pv 1) (pe_int)) pa_nil))))), ?_⟩
    refine ⟨_, rfl, x, D, dx, _, _, rfl, hx, T.cl, T.nC, gf_count _ _ _, ?_⟩
    refine ⟨_, rfl, x, dx, _, rfl, hx, gf_no _ _ _ (by decide +kernel) (by decide +kernel) (by decide +kernel), ?_⟩
    refine ⟨_, rfl, _, _, rfl, rfl, x, f, s, c, k + 1, rfl, ⟨dx, hx⟩, ok, ?_⟩
    exact ⟨_, _, rfl, rfl, q⟩
def isin (f s c k : Int) : Bool := decide (f ≤ k) && decide (k ≤ f + s * (c - 1)) && decide ((k - f).fmod s = 0)
def spCont (D : Addr) : Sp := fun vs H Q _ => ∃ (x : Addr) (f s c k : Int), vs = [.ref x, .int k] ∧ RunAt D H x f s c ∧ RunOk f s c ∧ Q (.bl (isin f s c k)) H
theorem ok_cont {D fA : Addr} {fd : FuncData} (T : RunC K mg D) (CL : CalP P w K mg base 1 D "last" (spLast D)) (F : Fun K "__contains__" "Run.__contains__" s_Run_contains fA fd) : FnOk P w K mg base CX0 3 fA fd ["self", "x"] (spCont D) := by
  refine F.ok sc_Run_contains (fun vs H Q E h => ?_) (fun cdv A outer st H vs Q E hr h => ?_)
  · obtain ⟨x, f, s, c, k, rfl, _⟩ := h
    rfl
  · obtain ⟨x, f, s, c, k, rfl, ⟨dx, hx⟩, ok, q⟩ := h
    have := ok.s1
    have := ok.s4
    unfold isin at q
    refine ⟨_, (pss_one (ps_ret ((pe_and (pe_chain op_le op_le (pe_fld (pv 0) rfl) (pv 1) (pe_calP T.cl CL (hr.mono (by decide)) (pv 0))) (pe_one (pe_cmpR op_eq (pe_op op_modN (pe_op op_sub (pv 1) (pe_fld (pv 0) rfl)) (pe_fld (pv 0) rfl)) (pe_int) (nomark _))))))), ?_⟩
    refine ⟨_, rfl, x, D, dx, _, _, rfl, hx, T.cl, T.nF, gf_first _ _ _, ?_⟩
    refine ⟨_, rfl, _, _, rfl, rfl, _, rfl, ?_⟩
    walk_at "if"
    · intro h1
      rw [decide_eq_true h1] at q
      refine ⟨_, rfl, x, dx, _, rfl, hx, x, f, s, c, rfl, ⟨dx, hx⟩, ok, ?_⟩
      refine ⟨_, _, rfl, rfl, _, rfl, ?_⟩
      walk_at "if"
      · intro h2
        rw [decide_eq_true h2] at q
        refine ⟨_, rfl, _, rfl, x, D, dx, _, _, rfl, hx, T.cl, T.nF, gf_first _ _ _, ?_⟩
        refine ⟨_, _, rfl, rfl, ?_⟩
        refine ⟨_, rfl, x, D, dx, _, _, rfl, hx, T.cl, T.nS, gf_step _ _ _, ?_⟩
        refine ⟨_, _, rfl, rfl, (show s ≠ 0 by omega), rfl, ?_⟩
        have e : decide (V.int ((k - f).fmod s) = V.int 0) = decide ((k - f).fmod s = 0) := by
          by_cases h : (k - f).fmod s = 0
          · rw [decide_eq_true h, h]
            rfl
          · rw [decide_eq_false h, decide_eq_false (fun z => h (V.int.inj z))]
        show Q (V.bl (decide (V.int ((k - f).fmod s) = V.int 0))) _
        rw [e]
        exact q
      · intro h2
        rw [decide_eq_false h2] at q
        exact q
    · intro h1
      rw [decide_eq_false h1] at q
      exact ⟨_, rfl, q⟩
end
theorem wide4 {n : Int} {m : Nat} (h : n.natAbs < 2 ^ m) (hm : m ≤ 4000) : n.natAbs < 2 ^ 4000 := Nat.lt_of_lt_of_le h (Nat.pow_le_pow_right (by decide) hm)
theorem wide8 {n : Int} {m : Nat} (h : n.natAbs < 2 ^ m) (hm : m ≤ 8000) : n.natAbs < 2 ^ 8000 := Nat.lt_of_lt_of_le h (Nat.pow_le_pow_right (by decide) hm)

theorem pos_iff {x y : Int} (hy : 0 < y) : (0 < x * y ↔ 0 < x) ∧ (x * y = 0 ↔ x = 0) := by
  rcases (by omega : x < 0 ∨ x = 0 ∨ 0 < x) with h | h | h
  · have := Int.mul_neg_of_neg_of_pos h hy
    omega
  · subst h
    rw [Int.zero_mul]
    omega
  · have := Int.mul_pos h hy
    omega

/-! ### parts of a blend -/
/-- n strengths of a share n / D, in the run f, s, c -/
structure Pt where
  n : Int
  f : Int
  s : Int
  c : Int
def sumI : List Int → Int
  | [] => 0
  | n :: r => n + sumI r
theorem sumI_app (xs ys : List Int) : sumI (xs ++ ys) = sumI xs + sumI ys := by
  induction xs with
  | nil => show sumI ys = 0 + sumI ys; omega
  | cons a r ih => show a + sumI (r ++ ys) = a + sumI r + sumI ys; omega
theorem sumI_bd {b : Nat} : ∀ {ns : List Int}, (∀ n ∈ ns, n.natAbs < 2 ^ b) → (sumI ns).natAbs ≤ ns.length * 2 ^ b
  | [], _ => by show (0 : Int).natAbs ≤ _; omega
  | n :: r, h => by
    have h1 := h n (List.mem_cons_self ..)
    have h2 := sumI_bd (ns := r) fun m hm => h m (List.mem_cons_of_mem _ hm)
    show (n + sumI r).natAbs ≤ (r.length + 1) * 2 ^ b
    rw [Nat.add_mul, Nat.one_mul]
    omega
theorem take_snoc {α : Type} {xs : List α} {i : Nat} {x : α} (h : xs[i]? = some x) : xs.take (i + 1) = xs.take i ++ [x] := by
  rw [List.take_add_one, h]
  rfl
/-- numbers over one denominator, of a size that can be reckoned with -/
structure Bd (ns : List Int) (D : Int) : Prop where
  p : 0 < D
  d : D.natAbs < 2 ^ 4300
  n : ∀ n ∈ ns, n.natAbs < 2 ^ 4300
  l : ns.length ≤ 1000
theorem Bd.sq {ns : List Int} {D : Int} (h : Bd ns D) (i : Nat) : Sq (sumI (ns.take i)) D := by
  refine ⟨h.p, ?_, ub h.d (by decide)⟩
  have e := sumI_bd (ns := ns.take i) fun m hm => h.n m (List.mem_of_mem_take hm)
  have l : (ns.take i).length ≤ 1000 := Nat.le_trans (List.length_take_le' _ _) h.l
  have : (2 : Nat) ^ 4400 = 2 ^ 100 * 2 ^ 4300 := by rw [← Nat.pow_add]
  rw [this]
  refine Nat.lt_of_le_of_lt e (Nat.mul_lt_mul_of_pos_right ?_ (Nat.pow_pos (by decide)))
  exact Nat.lt_of_le_of_lt l (by decide)
theorem Bd.one {ns : List Int} {D : Int} (h : Bd ns D) {n : Int} (hn : n ∈ ns) : Sq n D := ⟨h.p, ub (h.n n hn) (by decide), ub h.d (by decide)⟩
theorem num_mono (C : Addr) (D : Int) : Mono (fun H v n => NumQ C H v n D) := fun _ _ _ _ k h => h.same k
/-- a part handed in: a pair of a number and of something -/
def InS (C : Addr) (Dn : Int) (H : Hp) (v : V) (n : Int) : Prop := ∃ t x y, v = .ref t ∧ H t = some (.tup [x, y]) ∧ NumQ C H x n Dn
/-- .. of a number and a run -/
def InP (C D : Addr) (Dn : Int) (H : Hp) (v : V) (p : Pt) : Prop := ∃ t x r, v = .ref t ∧ H t = some (.tup [x, .ref r]) ∧ NumQ C H x p.n Dn ∧ RunAt D H r p.f p.s p.c
/-- a part of a blend -/
def OutP (C D : Addr) (Dn : Int) (H : Hp) (v : V) (p : Pt) : Prop := ∃ t x r, v = .ref t ∧ H t = some (.tup [.ref x, .ref r]) ∧ RatQ C H x p.n Dn ∧ RunAt D H r p.f p.s p.c
theorem inS_mono (C : Addr) (Dn : Int) : Mono (InS C Dn) := fun _ _ _ _ k ⟨t, x, y, e, h1, h2⟩ => ⟨t, x, y, e, k _ _ h1, h2.same k⟩
theorem inP_mono (C D : Addr) (Dn : Int) : Mono (InP C D Dn) := fun _ _ _ _ k ⟨t, x, r, e, h1, h2, h3⟩ => ⟨t, x, r, e, k _ _ h1, h2.same k, h3.same k⟩
theorem outP_mono (C D : Addr) (Dn : Int) : Mono (OutP C D Dn) := fun _ _ _ _ k ⟨t, x, r, e, h1, h2, h3⟩ => ⟨t, x, r, e, k _ _ h1, h2.same k, h3.same k⟩
theorem inP_inS {C D : Addr} {Dn : Int} {H : Hp} {v : V} {p : Pt} (h : InP C D Dn H v p) : InS C Dn H v p.n := by
  obtain ⟨t, x, r, e, h1, h2, _⟩ := h
  exact ⟨t, x, .ref r, e, h1, h2⟩
theorem outP_inP {C D : Addr} {Dn : Int} {H : Hp} {v : V} {p : Pt} (h : OutP C D Dn H v p) : InP C D Dn H v p := by
  obtain ⟨t, x, r, e, h1, h2, h3⟩ := h
  exact ⟨t, .ref x, r, e, h1, .inr ⟨x, rfl, h2⟩, h3⟩
theorem LAt.to {α : Type} {R S : Hp → V → α → Prop} {H : Hp} {a : Addr} {xs : List α} (h : LAt R H a xs) (k : ∀ v x, R H v x → S H v x) : LAt S H a xs := by
  obtain ⟨vs, h1, h2, h3⟩ := h
  refine ⟨vs, h1, h2, fun i x hx => ?_⟩
  obtain ⟨v, hv, r⟩ := h3 i x hx
  exact ⟨v, hv, k v x r⟩
theorem not_lst {H : Hp} {a D : Addr} {o : HO} {acc : List V} (h : H a = some o) (hd : H D = some (.lst acc)) (n : ∀ xs, o ≠ .lst xs) : a ≠ D := ne_of h hd (n _)
theorem RatQ.wo {C : Addr} {H : Hp} {x D : Addr} {n m : Int} {acc : List V} (h : RatQ C H x n m) (hd : H D = some (.lst acc)) : RatQ C (wo H D) x n m := by
  obtain ⟨dx, h⟩ := h
  exact ⟨dx, wo_at h (not_lst h hd (by intro _ z; cases z))⟩
theorem NumQ.wo {C : Addr} {H : Hp} {v : V} {D : Addr} {n m : Int} {acc : List V} (h : NumQ C H v n m) (hd : H D = some (.lst acc)) : NumQ C (wo H D) v n m := by
  rcases h with h | ⟨x, e, h⟩
  · exact .inl h
  · exact .inr ⟨x, e, h.wo hd⟩
theorem RunAt.wo {C : Addr} {H : Hp} {x D : Addr} {f s c : Int} {acc : List V} (h : RunAt C H x f s c) (hd : H D = some (.lst acc)) : RunAt C (wo H D) x f s c := by
  obtain ⟨dx, h⟩ := h
  exact ⟨dx, wo_at h (not_lst h hd (by intro _ z; cases z))⟩
theorem OutP.wo {C D : Addr} {Dn : Int} {H : Hp} {v : V} {p : Pt} {L : Addr} {acc : List V} (h : OutP C D Dn H v p) (hd : H L = some (.lst acc)) : OutP C D Dn (wo H L) v p := by
  obtain ⟨t, x, r, e, h1, h2, h3⟩ := h
  exact ⟨t, x, r, e, wo_at h1 (not_lst h1 hd (by intro _ z; cases z)), h2.wo hd, h3.wo hd⟩
theorem bl_list {H : Hp} {a : Addr} {bs : List Bool} (h : LAt (fun _ v b => v = V.bl b) H a bs) : H a = some (.lst (bs.map V.bl)) := h.map fun v x e => e
end L

set_option Elab.async false
set_option linter.all false
set_option maxRecDepth 100000
set_option maxHeartbeats 4000000
set_option pp.maxSteps 160
set_option pp.deepTerms false
namespace L
open PySem PySem.Spec PyProof.Rows L2 Fl
local macro_rules | `(tactic| walk_at "side") => `(tactic| first | (exact .inl ⟨by omega, by omega⟩) | (exact .inr ⟨by omega, by omega⟩) | (exact .inr ⟨by decide, by decide⟩) | (show (_ : Int) ≠ _; omega) | (exact ⟨by omega, by decide⟩) | (exact ⟨by decide, by decide, by decide⟩))
local macro_rules | `(tactic| walk_at "go") => `(tactic| repeat (first | refine ⟨_, rfl, ?_⟩ | refine ⟨_, _, rfl, rfl, ?_⟩ | refine .inl ⟨_, rfl, ?_⟩ | refine ⟨rfl, ?_⟩ | refine ⟨(by walk_at "side"), ?_⟩))
local macro_rules | `(tactic| walk_at "see") => `(tactic| (set_option pp.maxSteps 110 in set_option pp.deepTerms false in trace_state))
local macro_rules | `(tactic| walk_at "if") => `(tactic| first | refine ifE ?_ ?_ | refine ifNE ?_ ?_ | refine ifD ?_ ?_ | refine ifN ?_ ?_ | refine ifB ?_ ?_)
open Bx
section
variable {P : Program} {w : World} {K : PySem.W.Frag} {mg : Str → Option Value} {base : Heap}

def spAdded (C : Addr) : Sp := fun vs H Q _ => ∃ (L : Addr) (ns : List Int) (Dn : Int), vs = [.ref L] ∧ LAt (fun H v n => NumQ C H v n Dn) H L ns ∧ Bd ns Dn ∧ ∀ (z : Addr) (H' : Hp), Same H H' → RatQ C H' z (sumI ns) Dn → Q (.ref z) H'
abbrev CalAdded (P : Program) (w : World) (K : PySem.W.Frag) (mg : Str → Option Value) (base : Heap) (C : Addr) := Cal P w K mg base 4 "added" ["numbers"] (spAdded C)
theorem ok_added {C ZU gR : Addr} {fiA riA : Option Value} (B : Blt mg) (M1 : CalRatio P w K mg base C ZU [.int 1]) (hSF : PySem.W.selfFirst K C = true) (OAdd : OpOwn P w K mg base 3 C (PySem.dunder (Operator.info .Add).2) ["self", "other"] (spAdd C)) (hR : PySem.W.findIn K (.ref C) (dunderR (Operator.info .Add).2) = some (some (.ref gR)))
    (iAdd : PySem.W.findIn K (.type "int") (PySem.dunder (Operator.info .Add).2) = some fiA) (jAdd : PySem.W.findIn K (.type "int") (dunderR (Operator.info .Add).2) = some riA) (si : PySem.W.subIn K (.type "int") (.ref C) = some false)
    (Df : Dfn K mg "added" "added" s_added ["numbers"]) : CalAdded P w K mg base C := by
  refine Df.cal sc_added (fun vs H Q E h => ?_) (fun fA cdv A outer st H vs Q E hr h => ?_)
  · obtain ⟨L, ns, Dn, rfl, _⟩ := h
    rfl
  · obtain ⟨L, ns, Dn, rfl, hL, bd, k⟩ := h
    have nD : Dn ≠ 0 := by have := bd.p; omega
    refine ⟨_, (pss_cons (ps_set (i := 1) sc_added.nd rfl (Or.inl rfl) (pe_mk M1 (hr.mono (by decide)) (pa_cons (pe_int) pa_nil)))
      (pss_cons (ps_for PassesOwn.never rfl (pi_list (pv 0)) (pg_name (i := 2) sc_added.nd rfl (Or.inl rfl)) (pss_one (ps_set (i := 1) sc_added.nd rfl (Or.inl rfl) (pe_op (op_or (op_oo (op := .Add) OAdd hSF (hr.mono (by decide))) (op_oi (op := .Add) OAdd hSF hR (.inr ⟨_, rfl⟩) iAdd jAdd si (hr.mono (by decide)))) (pv 1) (pv 2)))))
      (pss_one (ps_ret (pv 1))))), ?_⟩
    refine fun x dx nx ndx ne => ⟨x, dx, 0, 1, rfl, upd_same, by decide +kernel, fun _ H1 hx hk => ⟨rfl, ?_⟩, fun h => absurd h (by decide)⟩
    have s1 := made nx ndx hk
    have hx0 : RatQ C H1 x 0 Dn := RatQ.of (t := 0) (u := 1) ⟨dx, hx⟩ (by decide) nD (by omega)
    obtain ⟨vs, hvs, hlen, hall⟩ := hL
    refine ⟨_, rfl, L, rfl, ⟨_, SqL.of (s1 _ _ hvs)⟩, for_list (K := K) (a := L) (xs := vs) (fun i σ' H' => Same H H' ∧ ∃ (x : Addr) (v : Option V), RatQ C H' x (sumI (ns.take i)) Dn ∧ σ' = [some (.ref L), some (.ref x), v])
      ⟨s1, x, none, hx0, rfl⟩ (fun i σ' H' _ h => SqL.of (h.1 _ _ hvs)) ?_ ?_⟩
    · rintro i y σ' H' hy ⟨s, x, v, hx, rfl⟩
      obtain ⟨n, hn⟩ := item hlen hy
      obtain ⟨y', hy', hq⟩ := hall i n hn
      rw [hy] at hy'
      cases hy'
      refine ⟨_, rfl, _, rfl, add_q hx (hq.same s) (bd.sq i) (bd.one (List.mem_of_getElem? hn)) fun z H2 s2 hz => ?_⟩
      refine ⟨s.trans s2, z, _, ?_, rfl⟩
      rw [take_snoc hn, sumI_app]
      show RatQ C H2 z (sumI (ns.take i) + (n + 0)) Dn
      rw [Int.add_zero]
      exact hz
    · rintro σ' H' ⟨s, x, v, hx, rfl⟩
      rw [hlen, List.take_length] at hx
      exact ⟨_, rfl, k x H' s hx⟩
/-! ### checks -/
def anyNeg (ns : List Int) : Bool := (ns.map fun n => decide (n < 0)).any id
def spCheckP (C BS : Addr) : Sp := fun vs H Q E => ∃ (L : Addr) (ns : List Int) (Dn : Int), vs = [.ref L] ∧ LAt (InS C Dn) H L ns ∧ Bd ns Dn ∧ ns.length ≤ 64 ∧ (anyNeg ns = true → ∀ H', Same H H' → E (.ref BS) none H') ∧ (anyNeg ns = false → sumI ns ≠ Dn → ∀ H', Same H H' → E (.ref BS) none H') ∧ (anyNeg ns = false → sumI ns = Dn → ∀ H', Same H H' → Q .non H')
abbrev CalCheckP (P : Program) (w : World) (K : PySem.W.Frag) (mg : Str → Option Value) (base : Heap) (C BS : Addr) := CalX P w K mg base 5 "check_parts" ["parts"] (spCheckP C BS)
theorem num_neg {C : Addr} {H : Hp} {v : V} {n D : Int} {Q : VK} (h : NumQ C H v n D) (s : Sq n D) (q : Q (.bl (decide (n < 0))) H) : cOI C (spCmp C fun i j => decide (i < j)) v (.int 0) H Q ∨ rI0 (fun i j => .bl (decide (i < j))) v (.int 0) H Q := by
  have p := s.p
  have nD : D ≠ 0 := by omega
  rcases h with ⟨z, rfl, e⟩ | ⟨x, rfl, hx⟩
  · refine .inr ⟨z, 0, rfl, rfl, ?_⟩
    have := (pos_iff (x := -z) p)
    rw [Int.neg_mul] at this
    show Q (V.bl (decide (z < 0))) H
    rw [show decide (z < 0) = decide (n < 0) from decide_eq_decide.mpr (by omega)]
    exact q
  · obtain ⟨dx, hx'⟩ := id hx
    refine .inl ⟨x, dx, _, 0, rfl, hx', rfl, x, .int 0, _, _, 0, 1, rfl, hx, .inl ⟨rfl, rfl⟩, ⟨Nat.lt_of_le_of_lt (nT_le nD) s.n, Nat.lt_of_le_of_lt (nU_le nD) s.m, by decide +kernel, by decide +kernel, nU_pos nD, by decide⟩, _, rfl, ?_⟩
    have sg := (sgn0 p (nU_pos (t := n) nD) (n_cross n D)).1
    show Q (V.bl (decide (nT n D * 1 < 0 * nU n D))) H
    rw [show decide (nT n D * 1 < 0 * nU n D) = decide (n < 0) from decide_eq_decide.mpr (by rw [Int.mul_one, Int.zero_mul]; exact sg)]
    exact q
theorem ok_check_parts {C BS : Addr} {tk : Tok} (B : Blt mg) (hAny : mg "any" = none) (gMP : mg "MOST_PARTS" = some (.int 64 tk)) (TS : ExC K mg "BadShares" BS) (C_added : CalAdded P w K mg base C) (Mlt : OpOwn P w K mg base 2 C "__lt__" ["self", "other"] (spCmp C fun i j => decide (i < j))) (Meq : OpOwn P w K mg base 1 C "__eq__" ["self", "other"] (spEqR K C)) (NE : NeC K C)
    (Df : Dfn K mg "check_parts" "check_parts" s_check_parts ["parts"]) : CalCheckP P w K mg base C BS := by
  refine Df.calX sc_check_parts (fun vs H Q E h => ?_) (fun fA cdv A outer st H vs Q E hr h => ?_)
  · obtain ⟨L, ns, Dn, rfl, _⟩ := h
    rfl
  · obtain ⟨L, ns, Dn, rfl, ⟨vs, hvs, hlen, hall⟩, bd, l64, k1, k2, k3⟩ := h
    refine ⟨_, (pss_cons (ps_if (pt_cmpR op_gt (pe_callB call_len_seq (by rfl) B.len PySem.boot_len (pa_cons (pv 0) pa_nil)) (pe_glob (v := .int 64) (by rfl) gMP ⟨_, rfl⟩) (nomark _)) (pss_one (ps_never)) pss_nil)
      (pss_cons (ps_setLc (i := 1) (own := [("share", 2), ("_", 3)]) (g := (gTup K 2 (gCons (gName 2) (gCons (gName 3) gNil)))) rfl sc_check_parts.nd rfl rfl (sw_true rfl rfl rfl (by decide +kernel)) (pi_list (pv 0)) (blkOk_by (N := ["parts", "shares", "share", "_"]) (sc := defScope s_check_parts) (by decide +kernel)) (fun _ _ _ _ _ => (pg_tup rfl (pgs_cons (pg_name (i := 2) sc_check_parts.nd rfl (Or.inl rfl)) (pgs_cons (pg_name (i := 3) sc_check_parts.nd rfl (Or.inl rfl)) pgs_nil)))) (fun _ _ _ _ _ => pts_nil) (fun _ _ _ _ _ => (pv 2)))
      (pss_cons (ps_if (pt_val (pe_callB (cr_any rfl) (by rfl) hAny (by decide +kernel) (pa_cons (pe_lc (own := [("share", 2)]) (g := gName 2) rfl sc_check_parts.nd (pi_list (pv 1)) (blkOk_by (N := ["parts", "shares", "share", "_"]) (sc := defScope s_check_parts) (by decide +kernel)) (fun _ _ _ _ _ => pg_name (i := 2) sc_check_parts.nd rfl (Or.inl rfl)) (fun _ _ _ _ _ => pts_nil) (fun _ _ _ _ _ => (pe_cmpR (op_or (cmp_oi (op := .Lt) (fun _ _ => rfl) Mlt NE.si hr.units0 (hr.mono (by decide))) op_lt) (pv 2) (pe_int) (nomark _)))) pa_nil))) (pss_one (ps_raise rfl (takes_of rfl rfl rfl rfl) (pmk_own PySem.F.excBase_ValueError TS.x TS.g TS.k (raises_own TS.b TS.t) rfl))) pss_nil)
      (pss_one (ps_if (pt_cmpR (op_ne_ox NE Meq (hr.mono (by decide))) (pe_cal C_added (hr.mono (by decide)) (pa_cons (pv 1) pa_nil)) (pe_int) (nomark _)) (pss_one (ps_raise rfl (takes_of rfl rfl rfl rfl) (pmk_own PySem.F.excBase_ValueError TS.x TS.g TS.k (raises_own TS.b TS.t) rfl))) pss_nil))))), ?_⟩
    have nD : Dn ≠ 0 := by have := bd.p; omega
    refine ⟨_, rfl, L, _, rfl, .inl (SqL.of hvs), _, _, rfl, rfl, _, rfl, itF (by omega) ?_⟩
    refine ⟨_, rfl, L, rfl, ⟨_, SqL.of hvs⟩, fun D1 hD1 => lc_build (xs := vs) (fun H v n => NumQ C H v n Dn) ns (num_mono C Dn) hD1 hlen (SqL.of hvs) (by omega) ?_ ?_⟩
    · rintro i x n H1 Kc Ke hx hn s ⟨acc, hacc⟩ kk
      obtain ⟨x', hx', t, sv, y, rfl, ht, hq⟩ := hall i n hn
      rw [hx] at hx'
      cases hx'
      refine ⟨t, _, rfl, SqT.of (s _ _ ht), rfl, _, _, rfl, _, _, rfl, rfl, rfl, ?_⟩
      exact ⟨_, rfl, kk sv H1 (Same.refl _) ((hq.same s).wo hacc)⟩
    intro H1 s1 hS
    obtain ⟨us, hus, hlen2, hall2⟩ := hS
    refine ⟨_, rfl, D1, rfl, ⟨_, SqL.of hus⟩, fun D2 hD2 => lc_build (xs := us) (fun _ v b => v = V.bl b) (ns.map fun n => decide (n < 0)) (fun _ _ _ _ _ h => h) hD2 (by rw [List.length_map]; exact hlen2) (SqL.of hus) (by rw [List.length_map]; omega) ?_ ?_⟩
    · rintro i x b H2 Kc Ke hx hb s ⟨acc, hacc⟩ kk
      obtain ⟨n, hn⟩ := item hlen2 hx
      rw [List.getElem?_map, hn] at hb
      cases hb
      obtain ⟨x', hx', hq⟩ := hall2 i n hn
      rw [hx] at hx'
      cases hx'
      refine ⟨rfl, ?_⟩
      exact ⟨_, rfl, num_neg (hq.same s) (bd.one (List.mem_of_getElem? hn)) (kk _ H2 (Same.refl _) rfl)⟩
    intro H2 s2 hB
    refine ⟨D2, _, rfl, SqL.of (bl_list hB), _, rfl, ifB (fun hb => ?_) (fun hb => ?_)⟩
    · exact k1 hb _ (s1.trans s2)
    have hb : anyNeg ns = false := hb
    have hS2 := LAt.same (num_mono C Dn) ⟨us, hus, hlen2, hall2⟩ s2
    refine ⟨_, rfl, D1, ns, Dn, rfl, hS2, bd, fun z H3 s3 hz => ?_⟩
    obtain ⟨dz, hz'⟩ := id hz
    refine ⟨z, dz, _, rfl, hz', .inl ⟨1, rfl⟩, .inl ⟨z, .int 1, _, _, 1, 1, rfl, hz, .inl ⟨rfl, rfl⟩, _, rfl, ?_⟩⟩
    have one : (nT (sumI ns) Dn = 1 ∧ nU (sumI ns) Dn = 1) ↔ sumI ns = Dn := by
      constructor
      · rintro ⟨e1, e2⟩
        have c := n_cross (sumI ns) Dn
        rw [e1, e2] at c
        omega
      · intro e
        have := n_eq (t := sumI ns) (u := Dn) (n := 1) (m := 1) nD (by decide) (by omega)
        rw [this.1, this.2]
        exact n_one 1
    refine ⟨_, rfl, ?_⟩
    by_cases he : sumI ns = Dn
    · rw [decide_eq_true (one.2 he)]
      exact k3 hb he _ ((s1.trans s2).trans s3)
    · rw [decide_eq_false (fun h => he (one.1 h))]
      exact k2 hb he _ ((s1.trans s2).trans s3)
end
end L

set_option Elab.async false
set_option linter.all false
set_option maxRecDepth 100000
set_option maxHeartbeats 4000000
set_option pp.maxSteps 160
set_option pp.deepTerms false
namespace L
open PySem PySem.Spec PyProof.Rows L2 Fl
local macro_rules | `(tactic| walk_at "side") => `(tactic| first | (exact .inl ⟨by omega, by omega⟩) | (exact .inr ⟨by omega, by omega⟩) | (exact .inr ⟨by decide, by decide⟩) | (show (_ : Int) ≠ _; omega) | (exact ⟨by omega, by decide⟩) | (exact ⟨by decide, by decide, by decide⟩))
local macro_rules | `(tactic| walk_at "go") => `(tactic| repeat (first | refine ⟨_, rfl, ?_⟩ | refine ⟨_, _, rfl, rfl, ?_⟩ | refine .inl ⟨_, rfl, ?_⟩ | refine ⟨rfl, ?_⟩ | refine ⟨(by walk_at "side"), ?_⟩))
local macro_rules | `(tactic| walk_at "see") => `(tactic| (set_option pp.maxSteps 110 in set_option pp.deepTerms false in trace_state))
local macro_rules | `(tactic| walk_at "if") => `(tactic| first | refine ifE ?_ ?_ | refine ifNE ?_ ?_ | refine ifD ?_ ?_ | refine ifN ?_ ?_ | refine ifB ?_ ?_)
open Bx

/-! ### equal runs put together -/
def sameRun (p q : Pt) : Bool := decide (p.f = q.f) && decide (p.s = q.s) && decide (p.c = q.c)
theorem sameRun_iff {p q : Pt} : sameRun p q = true ↔ p.f = q.f ∧ p.s = q.s ∧ p.c = q.c := by
  unfold sameRun
  rw [Bool.and_eq_true, Bool.and_eq_true, decide_eq_true_iff, decide_eq_true_iff, decide_eq_true_iff, and_assoc]
def mkP (p : Pt) : List L2.Key := [.inl p.f, .inl p.s, .inl p.c]
theorem mkP_eq {p q : Pt} : mkP p = mkP q ↔ sameRun p q = true := by
  rw [sameRun_iff]
  unfold mkP
  constructor
  · intro h
    injection h with h1 h
    injection h with h2 h
    injection h with h3 h
    injection h1 with h1
    injection h2 with h2
    injection h3 with h3
    exact ⟨h1, h2, h3⟩
  · rintro ⟨h1, h2, h3⟩
    rw [h1, h2, h3]
def tog1 (acc : List Pt) (p : Pt) : List Pt := if p.n = 0 then acc else if acc.any (fun q => sameRun q p) = true then acc.map (fun q => if sameRun q p = true then { q with n := q.n + p.n } else q) else acc ++ [p]
def tog (ps : List Pt) : List Pt := ps.foldl tog1 []
theorem tog_snoc {ps : List Pt} {i : Nat} {p : Pt} (h : ps[i]? = some p) : tog (ps.take (i + 1)) = tog1 (tog (ps.take i)) p := by
  unfold tog
  rw [take_snoc h, List.foldl_append]
  rfl
structure KvOk (kvs : List (List L2.Key × V)) (acc : List Pt) : Prop where
  sm : ∀ (j : Nat) (q p : Pt), acc[j]? = some q → sameRun q p = true → valV kvs (mkP p) = some (.int (j : Int))
  nn : ∀ p : Pt, acc.any (fun q => sameRun q p) = false → valV kvs (mkP p) = none
  len : kvs.length = acc.length
theorem any_at {acc : List Pt} {p : Pt} (h : acc.any (fun q => sameRun q p) = true) : ∃ (j : Nat) (q : Pt), acc[j]? = some q ∧ sameRun q p = true := by
  rw [List.any_eq_true] at h
  obtain ⟨q, hq, e⟩ := h
  obtain ⟨j, hj⟩ := List.mem_iff_getElem?.mp hq
  exact ⟨j, q, hj, e⟩
theorem any_of {acc : List Pt} {p q : Pt} {j : Nat} (h : acc[j]? = some q) (e : sameRun q p = true) : acc.any (fun q => sameRun q p) = true := by
  rw [List.any_eq_true]
  exact ⟨q, List.mem_of_getElem? h, e⟩
theorem sr_comm {p q : Pt} (h : sameRun p q = true) : sameRun q p = true := by
  rw [sameRun_iff] at *
  exact ⟨h.1.symm, h.2.1.symm, h.2.2.symm⟩
theorem sr_trans {p q r : Pt} (h : sameRun p q = true) (k : sameRun q r = true) : sameRun p r = true := by
  rw [sameRun_iff] at *
  exact ⟨h.1.trans k.1, h.2.1.trans k.2.1, h.2.2.trans k.2.2⟩
theorem KvOk.uniq {kvs : List (List L2.Key × V)} {acc : List Pt} (k : KvOk kvs acc) {i j : Nat} {p q : Pt} (hi : acc[i]? = some p) (hj : acc[j]? = some q) (e : sameRun p q = true) : i = j := by
  have h1 := k.sm i p q hi e
  have h2 := k.sm j q q hj (sameRun_iff.2 ⟨rfl, rfl, rfl⟩)
  rw [h1] at h2
  injection h2 with h2
  injection h2 with h2
  omega
theorem KvOk.snoc {kvs : List (List L2.Key × V)} {acc : List Pt} (k : KvOk kvs acc) {p : Pt} (hn : acc.any (fun q => sameRun q p) = false) : KvOk (putK kvs (mkP p) (.int (acc.length : Int))) (acc ++ [p]) := by
  have h0 := k.nn p hn
  rw [putK_new _ h0]
  refine ⟨fun j q r hq e => ?_, fun r hr => ?_, by rw [List.length_append, List.length_append, k.len]; rfl⟩
  · rw [valV_snoc _ _ _ _ h0]
    by_cases hj : j < acc.length
    · rw [List.getElem?_append_left hj] at hq
      rw [if_neg, k.sm j q r hq e]
      intro z
      have := sr_trans e (mkP_eq.1 z)
      rw [any_of hq this] at hn
      cases hn
    · rw [List.getElem?_append_right (by omega)] at hq
      have hj0 : j = acc.length := by
        rcases Nat.lt_or_ge (j - acc.length) 1 with h | h
        · omega
        · rw [List.getElem?_eq_none (by simpa using h)] at hq
          cases hq
      subst hj0
      rw [Nat.sub_self] at hq
      cases hq
      rw [if_pos (mkP_eq.2 (sr_comm e))]
  · rw [List.any_append, Bool.or_eq_false_iff] at hr
    rw [valV_snoc _ _ _ _ h0, if_neg, k.nn r hr.1]
    intro z
    have h2 := hr.2
    rw [List.any_cons, Bool.or_eq_false_iff] at h2
    rw [sr_comm (mkP_eq.1 z)] at h2
    cases h2.1
theorem KvOk.merge {kvs : List (List L2.Key × V)} {acc : List Pt} (k : KvOk kvs acc) (p : Pt) : KvOk kvs (acc.map fun q => if sameRun q p = true then { q with n := q.n + p.n } else q) := by
  have sr : ∀ q r : Pt, sameRun (if sameRun q p = true then { q with n := q.n + p.n } else q) r = sameRun q r := fun q r => by split <;> rfl
  refine ⟨fun j q r hq e => ?_, fun r hr => ?_, by rw [List.length_map]; exact k.len⟩
  · rw [List.getElem?_map] at hq
    cases h : acc[j]? with
    | none => rw [h] at hq; cases hq
    | some u =>
      rw [h] at hq
      cases hq
      rw [sr] at e
      exact k.sm j u r h e
  · refine k.nn r ?_
    rw [List.any_map] at hr
    rw [← hr]
    congr 1
    funext q
    exact (sr q r).symm
theorem map_one {kvs : List (List L2.Key × V)} {acc : List Pt} (k : KvOk kvs acc) {p q : Pt} {j : Nat} (hj : acc[j]? = some q) (e : sameRun q p = true) :
    acc.map (fun q => if sameRun q p = true then { q with n := q.n + p.n } else q) = acc.set j { q with n := q.n + p.n } := by
  refine List.ext_getElem? fun i => ?_
  rw [List.getElem?_map, List.getElem?_set]
  by_cases h : j = i
  · subst h
    rw [if_pos rfl, if_pos (List.getElem?_eq_some_iff.mp hj).1, hj]
    show some (if sameRun q p = true then { q with n := q.n + p.n } else q) = _
    rw [if_pos e]
  · rw [if_neg h]
    cases hi : acc[i]? with
    | none => rfl
    | some u =>
      show some (if sameRun u p = true then { u with n := u.n + p.n } else u) = some u
      rw [if_neg]
      intro z
      exact h (k.uniq hj hi (sr_trans e (sr_comm z)))
/-- a mark: the three of a run -/
def MarkP (H : Hp) (v : V) (p : Pt) : Prop := ∃ t, v = .ref t ∧ H t = some (.tup [.int p.f, .int p.s, .int p.c])
theorem markP_mono : Mono MarkP := fun _ _ _ _ k ⟨t, e, h⟩ => ⟨t, e, k _ _ h⟩
def wo2 (H : Hp) (a b : Addr) : Hp := wo (wo H a) b
theorem wo2_sub (H : Hp) (a b : Addr) : Same (wo2 H a b) H := (wo_sub _ b).trans (wo_sub H a)
theorem wo2_same {H H' : Hp} (a b : Addr) (s : Same H H') : Same (wo2 H a b) (wo2 H' a b) := wo_same b (wo_same a s)
theorem wo2_updA {H : Hp} {a b : Addr} {o : HO} : Same (wo2 H a b) (wo2 (upd H a o) a b) := wo_same b wo_upd
theorem wo2_updB {H : Hp} {a b : Addr} {o : HO} : Same (wo2 H a b) (wo2 (upd H b o) a b) := fun c u h => by
  unfold wo2 wo at *
  split at h
  · cases h
  · rename_i n
    rw [if_neg n]
    split at h
    · cases h
    · rename_i n2
      rw [if_neg n2, upd_ne n]
      exact h
theorem wo2_of {H : Hp} {a b : Addr} (ha : H a = none) (hb : H b = none) : Same H (wo2 H a b) := fun c o e => by
  unfold wo2 wo
  rw [if_neg (ne_of_none e hb), if_neg (ne_of_none e ha)]
  exact e
theorem outP_wo2 {C D : Addr} {Dn : Int} {H : Hp} {v : V} {p : Pt} {a b : Addr} {kvs : List (List L2.Key × V)} {acc : List V} (h : OutP C D Dn H v p) (ha : H a = some (.dT kvs)) (hb : H b = some (.lst acc)) : OutP C D Dn (wo2 H a b) v p := by
  obtain ⟨t, x, r, e, h1, ⟨dx, h2⟩, ⟨dr, h3⟩⟩ := h
  have w : ∀ {c : Addr} {o : HO}, H c = some o → (∀ xs, o ≠ .lst xs) → (∀ xs, o ≠ .dT xs) → wo2 H a b c = some o := fun {c o} hc n1 n2 => wo_at (wo_at hc (ne_of hc ha (n2 _))) (ne_of hc hb (n1 _))
  exact ⟨t, x, r, e, w h1 (by intro _ z; cases z) (by intro _ z; cases z), ⟨dx, w h2 (by intro _ z; cases z) (by intro _ z; cases z)⟩, ⟨dr, w h3 (by intro _ z; cases z) (by intro _ z; cases z)⟩⟩
theorem num_zero {C : Addr} {K : PySem.W.Frag} {H : Hp} {v : V} {n D : Int} {Q : VK} (h : NumQ C H v n D) (p : 0 < D) (q : Q (.bl (decide (n = 0))) H) : cOI C (spEqR K C) v (.int 0) H Q ∨ rEq v (.int 0) H Q := by
  have nD : D ≠ 0 := by omega
  rcases h with ⟨z, rfl, e⟩ | ⟨x, rfl, hx⟩
  · refine .inr ⟨rfl, ?_⟩
    have := (pos_iff (x := z) p).2
    show Q (V.bl (decide (V.int z = V.int 0))) H
    rw [show decide (V.int z = V.int 0) = decide (n = 0) from decide_eq_decide.mpr ⟨fun h => by injection h; omega, fun h => by rw [show z = 0 by omega]⟩]
    exact q
  · obtain ⟨dx, hx'⟩ := id hx
    refine .inl ⟨x, dx, _, 0, rfl, hx', rfl, .inl ⟨x, .int 0, _, _, 0, 1, rfl, hx, .inl ⟨rfl, rfl⟩, _, rfl, ?_⟩⟩
    have sg := (sgn0 p (nU_pos (t := n) nD) (n_cross n D)).2
    rw [show decide (nT n D = 0 ∧ nU n D = 1) = decide (n = 0) from decide_eq_decide.mpr ⟨fun h => sg.1 h.1, fun h => by
      have := n_eq (t := n) (u := D) (n := 0) (m := 1) nD (by decide) (by omega)
      rw [this.1, this.2]
      exact n_one 0⟩]
    exact q
section
variable {P : Program} {w : World} {K : PySem.W.Frag} {mg : Str → Option Value} {base : Heap}

def spPutT (C D : Addr) : Sp := fun vs H Q _ => ∃ (L M : Addr) (ps : List Pt) (Dn : Int), vs = [.ref L, .ref M] ∧ LAt (InP C D Dn) H L ps ∧ LAt MarkP H M ps ∧ Bd (ps.map Pt.n) Dn ∧ ∀ (k : Addr) (H' : Hp), Same H H' → H k = none → LAt (OutP C D Dn) H' k (tog ps) → Q (.ref k) H'
abbrev CalPutT (P : Program) (w : World) (K : PySem.W.Frag) (mg : Str → Option Value) (base : Heap) (C D : Addr) := Cal P w K mg base 4 "put_together" ["parts", "marks"] (spPutT C D)
theorem ok_put_together {C D gR : Addr} {fiA riA : Option Value} (B : Blt mg) (hZip : mg "zip" = none) (hSF : PySem.W.selfFirst K C = true) (OAdd : OpOwn P w K mg base 3 C (PySem.dunder (Operator.info .Add).2) ["self", "other"] (spAdd C)) (hR : PySem.W.findIn K (.ref C) (dunderR (Operator.info .Add).2) = some (some (.ref gR)))
    (iAdd : PySem.W.findIn K (.type "int") (PySem.dunder (Operator.info .Add).2) = some fiA) (jAdd : PySem.W.findIn K (.type "int") (dunderR (Operator.info .Add).2) = some riA) (Meq : OpOwn P w K mg base 1 C "__eq__" ["self", "other"] (spEqR K C)) (NE : NeC K C) (C_as_ratio : CalAsRatio P w K mg base C)
    (Df : Dfn K mg "put_together" "put_together" s_put_together ["parts", "marks"]) : CalPutT P w K mg base C D := by
  refine Df.cal sc_put_together (fun vs H Q E h => ?_) (fun fA cdv A outer st H vs Q E hr h => ?_)
  · obtain ⟨L, M, ps, Dn, rfl, _⟩ := h
    rfl
  · obtain ⟨L, M, ps, Dn, rfl, ⟨vs, hvs, hlen, hall⟩, ⟨ms, hms, hlenm, hallm⟩, bd, k⟩ := h
    have nD : Dn ≠ 0 := by have := bd.p; omega
    have hu := hu_of hr
    refine ⟨_, (pss_cons (ps_set (i := 2) sc_put_together.nd rfl (Or.inl rfl) (pe_dnewT))
      (pss_cons (ps_set (i := 3) sc_put_together.nd rfl (Or.inl rfl) (pe_lst pa_nil))
      (pss_cons (ps_for PassesOwn.never rfl (pi_zip (by rfl) hZip (pa_cons (pv 0) (pa_cons (pv 1) pa_nil))) (pg_tup rfl (pgs_cons (pg_tup rfl (pgs_cons (pg_name (i := 4) sc_put_together.nd rfl (Or.inl rfl)) (pgs_cons (pg_name (i := 5) sc_put_together.nd rfl (Or.inl rfl)) pgs_nil))) (pgs_cons (pg_name (i := 6) sc_put_together.nd rfl (Or.inl rfl)) pgs_nil))) (pss_cons (ps_if (pt_cmpR (op_or (cmp_oi (op := .Eq) (fun _ _ => rfl) Meq NE.si hr.units0 (hr.mono (by decide))) op_eq) (pv 4) (pe_int) (nomark _)) (pss_one ps_continue) pss_nil)
      (pss_one (ps_if (pt_cmp (pc_din hu (pv 6) (pv 2))) (pss_cons (ps_asg (pe_ix ix_list (pv 3) (pe_dget hu (pv 2) (pv 6) (fun _ _ => rfl)) (fun _ _ => rfl)) (pg_tup rfl (pgs_cons (pg_name (i := 7) sc_put_together.nd rfl (Or.inl rfl)) (pgs_cons (pg_name (i := 8) sc_put_together.nd rfl (Or.inl rfl)) pgs_nil))))
      (pss_one (ps_asg (pe_tup (pa_cons (pe_op (op_or (op_oo (op := .Add) OAdd hSF (hr.mono (by decide))) (op_oi (op := .Add) OAdd hSF hR (.inr ⟨_, rfl⟩) iAdd jAdd NE.si (hr.mono (by decide)))) (pv 7) (pv 4)) (pa_cons (pv 5) pa_nil))) (pg_sub (pv 3) (pe_dget hu (pv 2) (pv 6) (fun _ _ => rfl)) set_list)))) (pss_cons (ps_dput hu (pv 2) (pv 6) (pe_callB call_len_seq (by rfl) B.len PySem.boot_len (pa_cons (pv 3) pa_nil)) rfl)
      (pss_one ((ps_expr (pe_bm PySem.F.plainAttrs_list PySem.F.slot_list_append PySem.F.type_list_append mt_append (pv 3) (pa_cons (pe_tup (pa_cons (pe_cal C_as_ratio (hr.mono (by decide)) (pa_cons (pv 4) pa_nil)) (pa_cons (pv 5) pa_nil))) pa_nil))))))))))
      (pss_one (ps_ret (pv 3)))))), ?_⟩
    refine fun d hd => ?_
    refine ⟨(by show 0 ≤ sizeLine; decide), fun l hl => ?_⟩
    have ndl : d ≠ l := ne_of_none upd_same hl
    have hl0 : H l = none := by rw [upd_ne ndl.symm] at hl; exact hl
    have s0 : Same H (upd (upd H d (.dT [])) l (.lst [])) := (same_upd hd).trans (same_upd hl)
    refine ⟨_, rfl, _, rfl, L, M, vs, ms, rfl, SqL.of (s0 _ _ hvs), SqL.of (s0 _ _ hms), RZ.for_zipL (by omega) (fun i σ' H' => Same H H' ∧ ∃ (kvs : List (List L2.Key × V)) (us : List V) (o4 o5 o6 o7 o8 : Option V), H' d = some (.dT kvs) ∧ H' l = some (.lst us) ∧ us.length = (tog (ps.take i)).length ∧ (tog (ps.take i)).length ≤ i ∧
        (∀ (j : Nat) (p : Pt), (tog (ps.take i))[j]? = some p → p.n.natAbs ≤ i * 2 ^ 4300 ∧ ∃ v, us[j]? = some v ∧ OutP C D Dn (wo2 H' d l) v p) ∧ KvOk kvs (tog (ps.take i)) ∧ σ' = [some (.ref L), some (.ref M), some (.ref d), some (.ref l), o4, o5, o6, o7, o8])
      ⟨s0, [], [], none, none, none, none, none, by rw [upd_ne ndl, upd_same], upd_same, rfl, Nat.le_refl 0, fun j p h => by simp [tog] at h, ⟨fun j q p h => by simp [tog] at h, fun _ _ => rfl, rfl⟩, rfl⟩ (fun i σ' H' h => ⟨SqL.of (h.1 _ _ hvs), SqL.of (h.1 _ _ hms)⟩) ?_ ?_⟩
    · rintro i x y T σ' H1 hx hy ⟨s1, kvs, us, o4, o5, o6, o7, o8, hdk, hlu, hlen1, hli, hacc, kv, rfl⟩ hT
      obtain ⟨p, hp⟩ := item hlen hx
      obtain ⟨x', hx', t, sv, r, rfl, ht, hq, hrun⟩ := hall i p hp
      rw [hx] at hx'
      cases hx'
      obtain ⟨y', hy', tm, rfl, htm⟩ := hallm i p hp
      rw [hy] at hy'
      cases hy'
      have sT := same_upd (o := .tup [.ref t, .ref tm]) hT
      have s2 := s1.trans sT
      have i1000 : i < 1000 := by
        have h1 := (List.getElem?_eq_some_iff.mp hp).1
        have h2 := bd.l
        rw [List.length_map] at h2
        omega
      have hdk2 := sT _ _ hdk
      have hlu2 := sT _ _ hlu
      have hacc2 : ∀ (j : Nat) (p : Pt), (tog (ps.take i))[j]? = some p → p.n.natAbs ≤ i * 2 ^ 4300 ∧ ∃ v, us[j]? = some v ∧ OutP C D Dn (wo2 (upd H1 T (.tup [.ref t, .ref tm])) d l) v p := fun j p hj => by
        obtain ⟨b, v, hv, ho⟩ := hacc j p hj
        exact ⟨b, v, hv, outP_mono C D Dn _ _ _ _ (wo2_same d l sT) ho⟩
      have hpn : p.n.natAbs < 2 ^ 4300 := bd.n _ (List.mem_map_of_mem (List.mem_of_getElem? hp))
      have e1 := tog_snoc hp
      have le1 : i * 2 ^ 4300 ≤ (i + 1) * 2 ^ 4300 := Nat.mul_le_mul_right _ (by omega)
      refine ⟨T, _, rfl, SqT.of upd_same, rfl, _, _, rfl, t, _, rfl, SqT.of (s2 _ _ ht), rfl, _, _, rfl, _, _, rfl, rfl, _, _, rfl, rfl, ?_⟩
      refine ⟨_, rfl, num_zero (hq.same s2) bd.p ⟨_, rfl, ?_⟩⟩
      refine ifD (fun h0 => ?_) (fun h0 => ?_)
      · have e : tog (ps.take (i + 1)) = tog (ps.take i) := by rw [e1, tog1, if_pos h0]
        refine ⟨s2, kvs, us, _, _, _, _, _, hdk2, hlu2, by rw [e]; exact hlen1, by rw [e]; omega, ?_, by rw [e]; exact kv, rfl⟩
        rw [e]
        intro j q hj
        obtain ⟨b, r⟩ := hacc2 j q hj
        exact ⟨Nat.le_trans b le1, r⟩
      generalize hH2 : upd H1 T (.tup [.ref t, .ref tm]) = H2 at *
      refine ⟨_, rfl, _, rfl, d, _, rfl, DGet.t (k := mkP p) hdk2 (s2 _ _ htm), ?_⟩
      by_cases hany : (tog (ps.take i)).any (fun q => sameRun q p) = true
      · obtain ⟨j, q, hj, e⟩ := any_at hany
        have hval := kv.sm j q p hj e
        rw [hval]
        refine ⟨_, rfl, iteT ?_⟩
        obtain ⟨bq, v, hv, te, xe, re, rfl, hte, hxe, hre⟩ := hacc2 j q hj
        have sub := wo2_sub H2 d l
        refine ⟨_, rfl, _, rfl, _, rfl, d, _, rfl, hval ▸ DGet.t (k := mkP p) hdk2 (s2 _ _ htm), _, _, _, _, rfl, rfl, SqL.of hlu2, atI_nat hv, ?_⟩
        refine ⟨te, _, rfl, SqT.of (sub _ _ hte), rfl, _, _, rfl, _, _, rfl, rfl, ?_⟩
        have b64 : (i * 2 ^ 4300 : Nat) < 2 ^ 4400 := by
          have : (2 : Nat) ^ 4400 = 2 ^ 100 * 2 ^ 4300 := by rw [← Nat.pow_add]
          rw [this]
          exact Nat.mul_lt_mul_of_pos_right (Nat.lt_of_lt_of_le i1000 (by decide)) (Nat.pow_pos (by decide))
        refine ⟨_, rfl, _, rfl, add_q (hxe.same sub) (hq.same s2) ⟨bd.p, Nat.lt_of_le_of_lt bq b64, ub bd.d (by decide)⟩ ⟨bd.p, ub hpn (by decide), ub bd.d (by decide)⟩ fun z H3 s3 hz => ?_⟩
        refine ⟨_, rfl, (by show 2 ≤ sizeLine; decide), fun tn htn => ?_⟩
        have sN := same_upd (o := .tup [.ref z, .ref r]) htn
        have s4 := s3.trans sN
        refine ⟨_, rfl, _, rfl, _, rfl, d, _, rfl, hval ▸ DGet.t (k := mkP p) (s4 _ _ hdk2) ((s2.trans s4) _ _ htm), ?_⟩
        have hjl : j < us.length := (List.getElem?_eq_some_iff.mp hv).1
        refine ⟨l, us, _, j, rfl, rfl, s4 _ _ hlu2, (by unfold ixN; rw [if_pos (by omega), if_pos (by omega)]; simp), ?_⟩
        have em := map_one kv hj e
        have e2 : tog (ps.take (i + 1)) = (tog (ps.take i)).set j { q with n := q.n + p.n } := by rw [e1, tog1, if_neg h0, if_pos hany, em]
        refine ⟨same_late (s2.trans s4) hl0, kvs, _, _, _, _, _, _, ?_, upd_same, by rw [e2, List.length_set, List.length_set]; exact hlen1, by rw [e2, List.length_set]; omega, ?_, by rw [e2, ← em]; exact kv.merge p, rfl⟩
        · rw [upd_ne ndl]
          exact s4 _ _ hdk2
        · rw [e2]
          intro m u hm
          rw [List.getElem?_set] at hm
          by_cases hjm : j = m
          · subst hjm
            rw [if_pos rfl, if_pos (List.getElem?_eq_some_iff.mp hj).1] at hm
            cases hm
            refine ⟨?_, .ref tn, by rw [List.getElem?_set, if_pos rfl, if_pos hjl], ?_⟩
            · show (q.n + p.n).natAbs ≤ (i + 1) * 2 ^ 4300
              rw [Nat.add_mul, Nat.one_mul]
              omega
            · have ho : OutP C D Dn (upd H3 tn (.tup [.ref z, .ref r])) (.ref tn) { q with n := q.n + p.n } := ⟨tn, z, r, rfl, upd_same, hz.same sN, by
                have hr3 := hrun.same (s2.trans s4)
                obtain ⟨ef, es, ec⟩ := sameRun_iff.1 e
                show RunAt D _ r q.f q.s q.c
                rw [ef, es, ec]
                exact hr3⟩
              exact outP_mono C D Dn _ _ _ _ wo2_updB (outP_wo2 ho (s4 _ _ hdk2) (s4 _ _ hlu2))
          · rw [if_neg hjm] at hm
            obtain ⟨b, v2, hv2, ho⟩ := hacc2 m u hm
            refine ⟨Nat.le_trans b le1, v2, by rw [List.getElem?_set, if_neg hjm]; exact hv2, outP_mono C D Dn _ _ _ _ ((wo2_same d l s4).trans wo2_updB) ho⟩
      · have hany' : (tog (ps.take i)).any (fun q => sameRun q p) = false := by simpa using hany
        have hval := kv.nn p hany'
        rw [hval]
        refine ⟨_, rfl, iteF ?_⟩
        refine ⟨_, rfl, l, _, rfl, .inl (SqL.of hlu2), _, rfl, _, rfl, d, _, rfl, DPut.t (k := mkP p) hdk2 (s2 _ _ htm) (by rw [kv.len]; exact small1000 (by omega)), ?_⟩
        have e2 : tog (ps.take (i + 1)) = tog (ps.take i) ++ [p] := by rw [e1, tog1, if_neg h0, if_neg hany]
        have nlT : l ≠ d := ndl.symm
        have fin : ∀ (xr : Addr) (H3 : Hp), Same (upd H2 d (.dT (putK kvs (mkP p) (.int ((us.length : Nat) : Int))))) H3 → RatQ C H3 xr p.n Dn → sizeLine ≥ 1001 → ∀ tn, H3 tn = none →
            Same H (upd (upd H3 tn (.tup [.ref xr, .ref r])) l (.lst (us ++ [.ref tn]))) ∧ ∃ (kvs : List (List L2.Key × V)) (us' : List V), (upd (upd H3 tn (.tup [.ref xr, .ref r])) l (.lst (us ++ [.ref tn]))) d = some (.dT kvs) ∧ us' = us ++ [.ref tn] ∧ us'.length = (tog (ps.take (i + 1))).length ∧ (tog (ps.take (i + 1))).length ≤ i + 1 ∧
            (∀ (j : Nat) (p : Pt), (tog (ps.take (i + 1)))[j]? = some p → p.n.natAbs ≤ (i + 1) * 2 ^ 4300 ∧ ∃ v, us'[j]? = some v ∧ OutP C D Dn (wo2 (upd (upd H3 tn (.tup [.ref xr, .ref r])) l (.lst (us ++ [.ref tn]))) d l) v p) ∧ KvOk kvs (tog (ps.take (i + 1))) := by
          intro xr H3 s3 hxr _ tn htn
          have sN := same_upd (o := .tup [.ref xr, .ref r]) htn
          have sd : Same H (upd H2 d (.dT (putK kvs (mkP p) (.int ((us.length : Nat) : Int))))) := same_late s2 hd
          have s4 := s3.trans sN
          have hl3 : (upd H3 tn (.tup [.ref xr, .ref r])) l = some (.lst us) := s4 _ _ (by rw [upd_ne nlT]; exact hlu2)
          have hd3 : (upd H3 tn (.tup [.ref xr, .ref r])) d = some (.dT (putK kvs (mkP p) (.int ((us.length : Nat) : Int)))) := s4 _ _ upd_same
          refine ⟨same_late (sd.trans s4) hl0, _, _, by rw [upd_ne ndl]; exact hd3, rfl, by rw [e2, List.length_append, List.length_append, hlen1]; rfl, by rw [e2, List.length_append]; show _ + 1 ≤ i + 1; omega, ?_, ?_⟩
          · rw [e2]
            intro m u hm
            by_cases hj : m < (tog (ps.take i)).length
            · rw [List.getElem?_append_left hj] at hm
              obtain ⟨b, v2, hv2, ho⟩ := hacc2 m u hm
              exact ⟨Nat.le_trans b le1, v2, by rw [List.getElem?_append_left (by omega)]; exact hv2, outP_mono C D Dn _ _ _ _ ((wo2_updA.trans (wo2_same d l s4)).trans wo2_updB) ho⟩
            · rw [List.getElem?_append_right (by omega)] at hm
              have hj0 : m = (tog (ps.take i)).length := by
                rcases Nat.lt_or_ge (m - (tog (ps.take i)).length) 1 with h | h
                · omega
                · rw [List.getElem?_eq_none (by simpa using h)] at hm
                  cases hm
              subst hj0
              rw [Nat.sub_self] at hm
              cases hm
              refine ⟨?_, .ref tn, by rw [List.getElem?_append_right (by omega), hlen1, Nat.sub_self]; rfl, ?_⟩
              · rw [Nat.add_mul, Nat.one_mul]
                omega
              · have ho : OutP C D Dn (upd H3 tn (.tup [.ref xr, .ref r])) (.ref tn) p := ⟨tn, xr, r, rfl, upd_same, hxr.same sN, hrun.same (sd.trans s4)⟩
                exact outP_mono C D Dn _ _ _ _ wo2_updB (outP_wo2 ho hd3 hl3)
          · rw [e2, hlen1]
            exact kv.snoc hany'
        have hl4 : (upd H2 d (.dT (putK kvs (mkP p) (.int ((us.length : Nat) : Int))))) l = some (.lst us) := by rw [upd_ne nlT]; exact hlu2
        have hq4 : NumQ C (upd H2 d (.dT (putK kvs (mkP p) (.int ((us.length : Nat) : Int))))) sv p.n Dn := hq.same (same_late s2 hd)
        refine ⟨_, rfl, .inl ⟨rfl, _, SqL.of hl4⟩, ?_⟩
        rcases hq4 with ⟨z, rfl, ez⟩ | ⟨xr, rfl, hxr⟩
        · refine ⟨_, rfl, .inr ⟨z, rfl, fun xr H3 nx s3 hx3 => ?_⟩⟩
          refine ⟨_, rfl, (by show 2 ≤ sizeLine; decide), fun tn htn => ?_⟩
          have hxr : RatQ C H3 xr p.n Dn := RatQ.of (t := z) (u := 1) (by rw [(n_one z).1, (n_one z).2]; exact hx3) (by decide) nD (by omega)
          obtain ⟨w1, kv1, us1, w2, rfl, w3, w4, w5, w6⟩ := fin xr H3 s3 hxr (by decide) tn htn
          refine ⟨l, us, _, rfl, rfl, (same_upd htn) _ _ (s3 _ _ hl4), by rw [hlen1]; exact small1000 (by omega), ?_⟩
          exact ⟨w1, kv1, _, _, _, _, _, _, w2, upd_same, w3, w4, w5, w6, rfl⟩
        · refine ⟨_, rfl, .inl ⟨xr, _, _, rfl, hxr, ?_⟩⟩
          refine ⟨_, rfl, (by show 2 ≤ sizeLine; decide), fun tn htn => ?_⟩
          obtain ⟨w1, kv1, us1, w2, rfl, w3, w4, w5, w6⟩ := fin xr _ (Same.refl _) hxr (by decide) tn htn
          refine ⟨l, us, _, rfl, rfl, (same_upd htn) _ _ hl4, by rw [hlen1]; exact small1000 (by omega), ?_⟩
          exact ⟨w1, kv1, _, _, _, _, _, _, w2, upd_same, w3, w4, w5, w6, rfl⟩
    · rintro σ' H1 ⟨s1, kvs, us, o4, o5, o6, o7, o8, hdk, hlu, hlen1, hli, hacc, kv, rfl⟩
      rw [hlen, List.take_length] at *
      refine ⟨_, rfl, k l H1 s1 hl0 ⟨us, hlu, hlen1, fun j p hj => ?_⟩⟩
      obtain ⟨_, v, hv, ho⟩ := hacc j p hj
      exact ⟨v, hv, outP_mono C D Dn _ _ _ _ (wo2_sub H1 d l) ho⟩
end
end L

set_option Elab.async false
set_option linter.all false
set_option maxRecDepth 100000
set_option maxHeartbeats 4000000
set_option pp.maxSteps 160
set_option pp.deepTerms false
namespace L
open PySem PySem.Spec PyProof.Rows L2 Fl
local macro_rules | `(tactic| walk_at "side") => `(tactic| first | (exact .inl ⟨by omega, by omega⟩) | (exact .inr ⟨by omega, by omega⟩) | (exact .inr ⟨by decide, by decide⟩) | (show (_ : Int) ≠ _; omega) | (exact ⟨by omega, by decide⟩) | (exact ⟨by decide, by decide, by decide⟩))
local macro_rules | `(tactic| walk_at "go") => `(tactic| repeat (first | refine ⟨_, rfl, ?_⟩ | refine ⟨_, _, rfl, rfl, ?_⟩ | refine .inl ⟨_, rfl, ?_⟩ | refine ⟨rfl, ?_⟩ | refine ⟨(by walk_at "side"), ?_⟩))
local macro_rules | `(tactic| walk_at "see") => `(tactic| (set_option pp.maxSteps 110 in set_option pp.deepTerms false in trace_state))
local macro_rules | `(tactic| walk_at "if") => `(tactic| first | refine ifE ?_ ?_ | refine ifNE ?_ ?_ | refine ifD ?_ ?_ | refine ifN ?_ ?_ | refine ifB ?_ ?_)
open Bx

/-! ### blends -/
def bf (l : V) : List (Str × V) := putF "parts" l []
theorem bf_parts (l : V) : (bf l).lookup ("parts" : Str) = some l := by
  unfold bf
  rw [lookup_putF, if_pos rfl]
structure BleC (K : PySem.W.Frag) (mg : Str → Option Value) (F : Addr) : Prop where
  cl : Cls K F
  nP : NoAttr K F "parts"
  g : mg "Blend" = some (.ref F)
  ha : PySem.W.findIn K (.ref F) "__class__" = some (some (.builtin "object.__class__"))
  hn : PySem.W.specialIn K (.builtin "object.__class__") "__get__" = some (some (.builtin "getset_descriptor.__get__"))
  htk : PySem.W.takesIn K (.builtin "object.__class__") = some true
  hm : PySem.W.mroIn K F (.type "object") = some true
theorem BleC.tyX {K : PySem.W.Frag} {mg : Str → Option Value} {F : Addr} (T : BleC K mg F) {H : Hp} {x dx : Addr} {fs : List (Str × V)} (h : H x = some (.ins F dx fs)) : TyX K H (.ref x) (.ref F) := .base (.ins h T.cl T.ha T.hn T.htk T.hm)
/-- the blend x of these parts -/
structure BlAt (C D F : Addr) (Dn : Int) (H : Hp) (x : Addr) (ps : List Pt) : Prop where
  ex : ∃ dx L, H x = some (.ins F dx (bf (.ref L))) ∧ LAt (OutP C D Dn) H L ps
theorem BlAt.same {C D F : Addr} {Dn : Int} {H H' : Hp} {x : Addr} {ps : List Pt} (h : BlAt C D F Dn H x ps) (k : Same H H') : BlAt C D F Dn H' x ps := by
  obtain ⟨dx, L, h1, h2⟩ := h.ex
  exact ⟨dx, L, k _ _ h1, h2.same (outP_mono C D Dn) k⟩
theorem markP_wo {H : Hp} {D1 : Addr} {v : V} {p : Pt} {acc : List V} (h : MarkP H v p) (hd : H D1 = some (.lst acc)) : MarkP (wo H D1) v p := by
  obtain ⟨t, e, h⟩ := h
  exact ⟨t, e, wo_at h (not_lst h hd (by intro _ z; cases z))⟩
theorem rf_nil {t u : Int} (h : rf t u = []) : False := by
  have e := congrArg (List.lookup ("top" : Str)) h
  rw [rf_top] at e
  cases e
theorem gf_nil {f s c : Int} (h : gf f s c = []) : False := by
  have e := congrArg (List.lookup ("first" : Str)) h
  rw [gf_first] at e
  cases e
theorem mem_at {α : Type} {xs : List α} {i : Nat} {x : α} (h : xs[i]? = some x) : x ∈ xs := List.mem_of_getElem? h
section
variable {P : Program} {w : World} {K : PySem.W.Frag} {mg : Str → Option Value} {base : Heap}

def spBlInit (C D F BS : Addr) : Sp := fun vs H Q E => ∃ (x dx L : Addr) (ps : List Pt) (Dn : Int), vs = [.ref x, .ref L] ∧ H x = some (.ins F dx []) ∧ LAt (InP C D Dn) H L ps ∧ Bd (ps.map Pt.n) Dn ∧ ps.length ≤ 64 ∧ (anyNeg (ps.map Pt.n) = true → ∀ H', Same H H' → E (.ref BS) none H') ∧ (anyNeg (ps.map Pt.n) = false → sumI (ps.map Pt.n) ≠ Dn → ∀ H', Same H H' → E (.ref BS) none H') ∧
  (anyNeg (ps.map Pt.n) = false → sumI (ps.map Pt.n) = Dn → ∀ (k : Addr) (H' : Hp), Keeps H H' x → H k = none → BlAt C D F Dn H' x (tog ps) → H' x = some (.ins F dx (bf (.ref k))) → LAt (OutP C D Dn) H' k (tog ps) → Q .non H')
abbrev CalBlend (P : Program) (w : World) (K : PySem.W.Frag) (mg : Str → Option Value) (base : Heap) (C D F BS : Addr) := CalC P w K mg base (L2.CX P w) 6 F "Blend" ["self", "parts"] [] (spBlInit C D F BS)
theorem ok_bl_init {C D F BS fI : Addr} {fd : FuncData} (TF : BleC K mg F) (TD : RunC K mg D) (C_check_parts : CalCheckP P w K mg base C BS) (C_put_together : CalPutT P w K mg base C D) (Fn : Fun K "__init__" "Blend.__init__" s_Blend_init fI fd) : FnOk P w K mg base (L2.CX P w) 6 fI fd ["self", "parts"] (spBlInit C D F BS) := by
  refine Fn.okX sc_Blend_init (fun vs H Q E h => ?_) (fun cdv A outer st H vs Q E hr h => ?_)
  · obtain ⟨x, dx, L, ps, Dn, rfl, _⟩ := h
    rfl
  · obtain ⟨x, dx, L, ps, Dn, rfl, hx, hL, bd, l64, k1, k2, k3⟩ := h
    refine ⟨_, (pss_cons (ps_expr (pe_calS C_check_parts (takes_of rfl rfl rfl rfl) (hr.mono (by decide)) (pa_cons (pv 1) pa_nil)))
      (PSs.nox (pss_one (ps_fld (pv 0) (pe_cal C_put_together (hr.mono (by decide)) (pa_cons (pv 1) (pa_cons (pe_lc (own := [("_", 2), ("run", 3)]) (g := (gTup K 2 (gCons (gName 2) (gCons (gName 3) gNil)))) rfl sc_Blend_init.nd (pi_list (pv 1)) (blkOk_by (N := ["self", "parts", "_", "run"]) (sc := defScope s_Blend_init) (by decide +kernel)) (fun _ _ _ _ _ => (pg_tup rfl (pgs_cons (pg_name (i := 2) sc_Blend_init.nd rfl (Or.inl rfl)) (pgs_cons (pg_name (i := 3) sc_Blend_init.nd rfl (Or.inl rfl)) pgs_nil)))) (fun _ _ _ _ _ => pts_nil) (fun _ _ _ _ _ => (pe_tup (pa_cons ((show PE _ _ (tFld K (tVar 3) "first") from pe_fld (pv 3) rfl)) (pa_cons ((show PE _ _ (tFld K (tVar 3) "step") from pe_fld (pv 3) rfl)) (pa_cons ((show PE _ _ (tFld K (tVar 3) "count") from pe_fld (pv 3) rfl)) pa_nil)))))) pa_nil))) rfl)))), ?_⟩
    refine ⟨_, rfl, L, ps.map Pt.n, Dn, rfl, hL.imp (f := Pt.n) (fun v p h => inP_inS h), bd, by rw [List.length_map]; exact l64, k1, k2, fun hn hs H1 s1 => ?_⟩
    have hL1 := hL.same (inP_mono C D Dn) s1
    obtain ⟨vs, hvs, hlen, hall⟩ := id hL1
    refine ⟨_, rfl, _, rfl, L, rfl, ⟨_, SqL.of hvs⟩, fun D1 hD1 => lc_build (xs := vs) MarkP ps markP_mono hD1 hlen (SqL.of hvs) (by omega) ?_ ?_⟩
    · rintro i y p H2 Kc Ke hy hp s ⟨acc, hacc⟩ kk
      obtain ⟨y', hy', t, sv, r, rfl, ht, hq, hrun⟩ := hall i p hp
      rw [hy] at hy'
      cases hy'
      obtain ⟨dr, hr1⟩ := hrun.same s
      refine ⟨t, _, rfl, SqT.of (s _ _ ht), rfl, _, _, rfl, _, _, rfl, rfl, rfl, ?_⟩
      refine ⟨_, rfl, r, D, dr, _, _, rfl, hr1, TD.cl, TD.nF, gf_first _ _ _, _, rfl, r, D, dr, _, _, rfl, hr1, TD.cl, TD.nS, gf_step _ _ _, _, rfl, r, D, dr, _, _, rfl, hr1, TD.cl, TD.nC, gf_count _ _ _, (by show 3 ≤ sizeLine; decide), fun tm htm => ?_⟩
      have sm := same_upd (o := .tup [.int p.f, .int p.s, .int p.c]) htm
      exact kk _ _ sm (markP_wo ⟨tm, rfl, upd_same⟩ (sm _ _ hacc))
    intro H2 s2 hM
    refine ⟨L, D1, ps, Dn, rfl, hL1.same (inP_mono C D Dn) s2, hM, bd, fun k H3 s3 hk hO => ?_⟩
    have sx := (s1.trans s2).trans s3
    refine ⟨_, rfl, x, F, dx, [], rfl, sx _ _ hx, TF.cl, TF.nP, (by show 0 < 1000; decide), ?_⟩
    have hx3 := sx _ _ hx
    have sU : Keeps H3 (upd H3 x (.ins F dx (putF "parts" (.ref k) []))) x := Keeps.upd
    have hk0 : H k = none := by
      cases e : H k with
      | none => rfl
      | some o => exact absurd hk (by rw [(s1.trans s2) _ _ e]; intro z; cases z)
    have hO2 : LAt (OutP C D Dn) (upd H3 x (.ins F dx (putF "parts" (.ref k) []))) k (tog ps) := by
      have nx : ∀ {c : Addr} {o : HO}, H3 c = some o → (∀ fs, o ≠ .ins F dx fs) → upd H3 x (.ins F dx (putF "parts" (.ref k) [])) c = some o := fun {c o} hc n => sU _ _ hc (ne_of hc hx3 (n _))
      obtain ⟨us, h1, h2, h3⟩ := hO
      refine ⟨us, nx h1 (by intro _ z; cases z), h2, fun i p hp => ?_⟩
      obtain ⟨v, hv, t, xr, r, ev, ht, ⟨dq, hq⟩, ⟨dr, hr⟩⟩ := h3 i p hp
      refine ⟨v, hv, t, xr, r, ev, nx ht (by intro _ z; cases z), ⟨dq, sU _ _ hq ?_⟩, ⟨dr, sU _ _ hr ?_⟩⟩
      · exact ne_of hq hx3 (by intro z; injection z with _ _ z; exact rf_nil z)
      · exact ne_of hr hx3 (by intro z; injection z with _ _ z; exact gf_nil z)
    exact k3 hn hs k _ ((same_keeps sx).trans sU) hk0 ⟨dx, k, upd_same, hO2⟩ upd_same hO2
end
end L

set_option Elab.async false
set_option linter.all false
set_option maxRecDepth 100000
set_option maxHeartbeats 4000000
set_option pp.maxSteps 160
set_option pp.deepTerms false
namespace L
open PySem PySem.Spec PyProof.Rows L2 Fl
local macro_rules | `(tactic| walk_at "side") => `(tactic| first | (exact .inl ⟨by omega, by omega⟩) | (exact .inr ⟨by omega, by omega⟩) | (exact .inr ⟨by decide, by decide⟩) | (show (_ : Int) ≠ _; omega) | (exact ⟨by omega, by decide⟩) | (exact ⟨by decide, by decide, by decide⟩))
local macro_rules | `(tactic| walk_at "go") => `(tactic| repeat (first | refine ⟨_, rfl, ?_⟩ | refine ⟨_, _, rfl, rfl, ?_⟩ | refine .inl ⟨_, rfl, ?_⟩ | refine ⟨rfl, ?_⟩ | refine ⟨(by walk_at "side"), ?_⟩))
local macro_rules | `(tactic| walk_at "see") => `(tactic| (set_option pp.maxSteps 110 in set_option pp.deepTerms false in trace_state))
local macro_rules | `(tactic| walk_at "if") => `(tactic| first | refine ifE ?_ ?_ | refine ifNE ?_ ?_ | refine ifD ?_ ?_ | refine ifN ?_ ?_ | refine ifB ?_ ?_)
open Bx
theorem pe_calM {X : Cx} {k : Nat} {C : Addr} {m : Str} {ps : List Str} {sp : Sp} {pl : Sem Bool} {o e : Expr} {es : List Expr} {apos pos : Pos} {ta : TE} {t : TA} (c : Cls X.K C) (M : CalM X.prog X.w X.K X.mg X.base k C m ps sp) (hr : Room k X.A) (he : PE X o ta) (ha : PA X (e :: es) t)
    (hst : starEach (e :: es) X.env = (false, eval e X.env) :: starEach es X.env := by rfl) (hpl : (backTo pos (starEach es X.env)).any (·.1) = false := by rfl)
    (ht : eval (.Call (.Attribute o m apos) (e :: es) [] pos) X.env = (do
      let ov ← eval o X.env
      standAt apos.atName
      let (f, first) ← holding [ov] (getMethod ov m pl)
      callWith pos f first (backTo pos (starEach (e :: es) X.env)) (backToKw pos (keywordEach [] X.env))) := by rfl) :
    PE X (.Call (.Attribute o m apos) (e :: es) [] pos) (tMeth C m sp [] E0 ta t) := by
  obtain ⟨f, fd, hm, F, b⟩ := M.ex
  exact pe_meth he c hm F hr b .nil pass0 ha hst hpl ht

/-! ### sums over the strengths of a run -/
def sumN (g : Nat → Int) : Nat → Int
  | 0 => 0
  | n + 1 => sumN g n + g n
theorem sumN_congr {g h : Nat → Int} : ∀ {n : Nat}, (∀ i, i < n → g i = h i) → sumN g n = sumN h n
  | 0, _ => rfl
  | n + 1, e => by
    show sumN g n + g n = sumN h n + h n
    rw [sumN_congr (fun i hi => e i (by omega)), e n (by omega)]
theorem sumN_split (g : Nat → Int) (m : Nat) : ∀ n : Nat, sumN g (m + n) = sumN g m + sumN (fun i => g (m + i)) n
  | 0 => by
    show sumN g m = sumN g m + 0
    omega
  | n + 1 => by
    show sumN g (m + n) + g (m + n) = sumN g m + (sumN (fun i => g (m + i)) n + g (m + n))
    rw [sumN_split g m n]
    omega
theorem sumN_const (c : Int) : ∀ n : Nat, sumN (fun _ => c) n = c * (n : Int)
  | 0 => by
    show (0 : Int) = c * 0
    omega
  | n + 1 => by
    show sumN (fun _ => c) n + c = c * ((n + 1 : Nat) : Int)
    rw [sumN_const c n, show ((n + 1 : Nat) : Int) = (n : Int) + 1 by omega, Int.mul_add, Int.mul_one]
theorem sumN_add (g h : Nat → Int) : ∀ n : Nat, sumN (fun i => g i + h i) n = sumN g n + sumN h n
  | 0 => rfl
  | n + 1 => by
    show sumN (fun i => g i + h i) n + (g n + h n) = sumN g n + g n + (sumN h n + h n)
    rw [sumN_add g h n]
    omega
/-- the pairs of a strength of the first run and a lesser one of the second -/
def pab (f s c f' s' c' : Int) : Int := sumN (fun i => bel f' s' c' (f + s * (i : Int))) c.toNat
theorem sumN_fs {m a b : Nat} (hm : 0 < m) : ∀ n : Nat, sumN (fun j => ((a : Int) * (j : Int) + (b : Int)) / (m : Int)) n = ((fs m a b n : Nat) : Int)
  | 0 => rfl
  | n + 1 => by
    show sumN _ n + ((a : Int) * (n : Int) + (b : Int)) / (m : Int) = ((fs m a b n + (a * n + b) / m : Nat) : Int)
    rw [sumN_fs hm n]
    have e : ((a : Int) * (n : Int) + (b : Int)) / (m : Int) = (((a * n + b) / m : Nat) : Int) := rfl
    rw [e]
    omega
theorem bel_low {f s c k : Int} (h : k ≤ f) : bel f s c k = 0 := by
  unfold bel
  rw [if_pos h]
theorem bel_high {f s c k : Int} (h : RunOk f s c) (hk : k > f + s * (c - 1)) : bel f s c k = c := by
  have h1 := h.c1
  unfold bel
  have : ¬ k ≤ f := by
    rcases s_cases h with rfl | rfl | rfl | rfl <;> omega
  rw [if_neg this, if_pos hk]
theorem bel_mid {f s c k : Int} (h : RunOk f s c) (h0 : f < k) (h1 : k ≤ f + s * (c - 1)) : bel f s c k = (k - f + s - 1) / s := by
  unfold bel
  rw [if_neg (by omega), if_neg (by omega), Int.fdiv_eq_ediv_of_nonneg _ (by have := h.s1; omega)]
/-- the strength with index i is below k just if i is below the count -/
theorem bel_iff {f s c k : Int} (h : RunOk f s c) {i : Int} (h0 : 0 ≤ i) (hi : i < c) : f + s * i < k ↔ i < bel f s c k := by
  obtain ⟨p1, p2, p3, p4⟩ := bel_ok (k := k) h
  generalize bel f s c k = b at *
  constructor
  · intro hk
    rcases (by omega : i < b ∨ b ≤ i) with h' | h'
    · exact h'
    · have := p4 (by omega)
      rcases s_cases h with rfl | rfl | rfl | rfl <;> omega
  · intro hb
    have := p3 (by omega)
    rcases s_cases h with rfl | rfl | rfl | rfl <;> omega
theorem pab_eq {f s c f' s' c' : Int} (h : RunOk f s c) (h' : RunOk f' s' c') {a b : Int} (ea : bel f s c (f' + 1) = a) (eb : bel f s c (f' + s' * (c' - 1) + 1) = b) :
    pab f s c f' s' c' = (c - b) * c' + (if a < b then ((fs s'.toNat s.toNat (f + s * a - f' + s' - 1).toNat (b - a).toNat : Nat) : Int) else 0) := by
  obtain ⟨p1, p2, p3, p4⟩ := bel_ok (k := f' + 1) h
  obtain ⟨q1, q2, q3, q4⟩ := bel_ok (k := f' + s' * (c' - 1) + 1) h
  have lo := fun (i : Int) (h0 : 0 ≤ i) (hi : i < c) => bel_iff (k := f' + 1) h h0 hi
  have hi' := fun (i : Int) (h0 : 0 ≤ i) (hi : i < c) => bel_iff (k := f' + s' * (c' - 1) + 1) h h0 hi
  rw [ea] at p1 p2 lo
  rw [eb] at q1 q2 hi'
  have s1 := h.s1
  have s1' := h'.s1
  have c1' := h'.c1
  have nn : 0 ≤ s' * (c' - 1) := Int.mul_nonneg (by omega) (by omega)
  have hab : a ≤ b := by
    rcases (by omega : b < a ∨ a ≤ b) with hh | hh
    · have h1 := (lo b q1 (by omega)).2 hh
      have h2 : ¬ f + s * b < f' + s' * (c' - 1) + 1 := fun z => by have := (hi' b q1 (by omega)).1 z; omega
      omega
    · exact hh
  have e1 : c.toNat = a.toNat + ((b - a).toNat + (c - b).toNat) := by omega
  unfold pab
  rw [e1, sumN_split, sumN_split]
  have z1 : sumN (fun i => bel f' s' c' (f + s * (i : Int))) a.toNat = 0 := by
    rw [sumN_congr (h := fun _ => 0) fun i hi => bel_low (by have := (lo i (by omega) (by omega)).2 (by omega); omega), sumN_const]
    omega
  have z3 : sumN (fun i => bel f' s' c' (f + s * ((a.toNat + ((b - a).toNat + i) : Nat) : Int))) (c - b).toNat = (c - b) * c' := by
    rw [sumN_congr (h := fun _ => c') fun i hi => bel_high h' (by
      have hx := fun z => (hi' ((a.toNat + ((b - a).toNat + i) : Nat) : Int) (by omega) (by omega)).1 z
      generalize f + s * ((a.toNat + ((b - a).toNat + i) : Nat) : Int) = w at hx ⊢
      rcases (by omega : w < f' + s' * (c' - 1) + 1 ∨ f' + s' * (c' - 1) + 1 ≤ w) with hw | hw
      · have := hx hw
        omega
      · omega), sumN_const, Int.mul_comm]
    rw [Int.toNat_of_nonneg (by omega)]
  rw [z1, z3]
  by_cases hc : a < b
  · rw [if_pos hc]
    have hx : ¬ f + s * a < f' + 1 := fun z => by have := (lo a p1 (by omega)).1 z; omega
    have z2 : sumN (fun i => bel f' s' c' (f + s * ((a.toNat + i : Nat) : Int))) (b - a).toNat = ((fs s'.toNat s.toNat (f + s * a - f' + s' - 1).toNat (b - a).toNat : Nat) : Int) := by
      rw [← sumN_fs (by omega)]
      refine sumN_congr fun i hi => ?_
      have g1 : ¬ f + s * ((a.toNat + i : Nat) : Int) < f' + 1 := fun z => by have := (lo _ (by omega) (by omega)).1 z; omega
      have g2 := (hi' ((a.toNat + i : Nat) : Int) (by omega) (by omega)).2 (by omega)
      show bel f' s' c' (f + s * ((a.toNat + i : Nat) : Int)) = _
      rw [bel_mid h' (by omega) (by omega), Int.toNat_of_nonneg (by omega), Int.toNat_of_nonneg (by omega), Int.toNat_of_nonneg (by omega)]
      rw [show ((a.toNat + i : Nat) : Int) = a + (i : Int) by omega, Int.mul_add]
      rw [show f + (s * a + s * (i : Int)) - f' + s' - 1 = s * (i : Int) + (f + s * a - f' + s' - 1) by omega]
    rw [z2]
    omega
  · rw [if_neg hc, show (b - a).toNat = 0 by omega]
    show 0 + (0 + (c - b) * c') = (c - b) * c' + 0
    omega
/-- one[i], one of the class C with the def sp for __getitem__ -/
structure CalMX (P : Program) (w : World) (K : PySem.W.Frag) (mg : Str → Option Value) (base : Heap) (k : Nat) (C : Addr) (m : Str) (ps : List Str) (sp : Sp) : Prop where
  ex : ∃ (f : Addr) (fd : FuncData), Meth K C m f ∧ PySem.W.fnIn K f = true ∧ FnOk P w K mg base (L2.CX P w) k f fd ps sp ∧ Binds K fd ps []
def rIxOwn (C : Addr) (sp : Sp) : R2 := fun x y H Q => ∃ (a dx : Addr) (gs : List (Str × V)), x = .ref a ∧ H a = some (.ins C dx gs) ∧ sp [.ref a, y] H Q E0
theorem pe_ixOwn {X : Cx} {k : Nat} {C : Addr} {ps : List Str} {sp : Sp} {a b : Expr} {ta tb : TE} {pos : Pos} (M : CalMX X.prog X.w X.K X.mg X.base k C "__getitem__" ps sp) (hr : Room (k + 1) X.A) (ha : PE X a ta) (hb : PE X b tb)
    (hs : ∀ o i, subscripted b true o i = runValue (.builtin "lifetime.subscript" ⟨[o, i], []⟩) := by intro _ _; with_unfolding_all rfl) : PE X (.Subscript a b pos) (tOp (rIxOwn C sp) ta tb) := by
  obtain ⟨f, fd, hM, hfn, F, bd⟩ := M.ex
  refine ⟨fun pins s σ H Q I h => ?_⟩
  refine Subscript_ (binT ha hb I h fun v u s2 x y H2 I2 rx ry q => ?_)
  obtain ⟨o, dx, gs, rfl, eo, q⟩ := q
  cases rx
  obtain ⟨mA, J, _⟩ := ins_get I2.hok eo
  obtain ⟨od, J, _⟩ := J.look
  obtain ⟨m, hF⟩ := I2.fr
  have hl := F.len _ _ _ _ q
  have r2 : Vals [V.ref o, y] [Value.ref o, u] := .cons (show RelV (.ref o) (.ref o) from rfl) (.cons ry .nil)
  have bb := bd s2 [.ref o, u] I2.kIn (by simpa using hl)
  rw [List.append_nil] at bb
  refine PySem.W.sub_K hF I2.ok.mod.kin J hM.at_ hfn hM.fn (wpAny_call (codeAny_mono (F.run X.A.in1 X.stack s2 H2 ⟨[.ref o, u], []⟩ [.ref o, u] [.ref o, y] Q E0 hr.in1 I2.env0.in1 bb r2 q) fun r s' hq => ?_)) (hs _ _)
  cases r with
  | error e => exact passL pins σ H2 s2 e s' I2 hq
  | ok fl =>
    cases fl with
    | ret z => exact I2.after hq
    | next => exact False.elim hq
    | brk => exact False.elim hq
    | cont => exact False.elim hq
section
variable {P : Program} {w : World} {K : PySem.W.Frag} {mg : Str → Option Value} {base : Heap}

def spCheck (BN : Addr) : Sp := fun vs H Q E => ∃ (n m a b : Int), vs = [.int n, .int m, .int a, .int b] ∧ (n < 0 → Ref E BN H "many" n) ∧ (0 ≤ n → m < 1 → Ref E BN H "under" m) ∧ (0 ≤ n → 1 ≤ m → a < 0 → Ref E BN H "step" a) ∧
  (0 ≤ n → 1 ≤ m → 0 ≤ a → b < 0 → Ref E BN H "start" b) ∧ (0 ≤ n → 1 ≤ m → 0 ≤ a → 0 ≤ b → Q .non H)
abbrev CalCheck (P : Program) (w : World) (K : PySem.W.Frag) (mg : Str → Option Value) (base : Heap) (BN : Addr) := CalX P w K mg base 3 "_check_floor_sum" ["many", "under", "step", "start"] (spCheck BN)
theorem ok_check {BN : Addr} (B : Blt mg) (TB : BnC K mg BN) (CE : CalE P w K mg base 1 BN) (D : Dfn K mg "_check_floor_sum" "_check_floor_sum" s_check_floor_sum ["many", "under", "step", "start"]) : CalCheck P w K mg base BN := by
  refine D.calX sc_check_floor_sum (fun vs H Q E h => ?_) (fun f cdv A outer st H vs Q E hr h => ?_)
  · obtain ⟨n, m, a, b, rfl, _⟩ := h
    rfl
  · obtain ⟨n, m, a, b, rfl, k1, k2, k3, k4, k⟩ := h
    have hr0 : Room 2 _ := hr
    refine ⟨_, (pss_cons (ps_if (pt_cmpR op_lt (pv 0) (pe_int) (nomark _)) (pss_one (ps_raise rfl (takes_of rfl rfl rfl rfl) (pmk_bn TB CE (hr0.mono (by decide)) (pa_cons pe_str (pa_cons (pv 0) pa_nil))))) pss_nil)
      (pss_cons (ps_if (pt_cmpR op_lt (pv 1) (pe_int) (nomark _)) (pss_one (ps_raise rfl (takes_of rfl rfl rfl rfl) (pmk_bn TB CE (hr0.mono (by decide)) (pa_cons pe_str (pa_cons (pv 1) pa_nil))))) pss_nil)
      (pss_cons (ps_if (pt_cmpR op_lt (pv 2) (pe_int) (nomark _)) (pss_one (ps_raise rfl (takes_of rfl rfl rfl rfl) (pmk_bn TB CE (hr0.mono (by decide)) (pa_cons pe_str (pa_cons (pv 2) pa_nil))))) pss_nil)
      (pss_one (ps_if (pt_cmpR op_lt (pv 3) (pe_int) (nomark _)) (pss_one (ps_raise rfl (takes_of rfl rfl rfl rfl) (pmk_bn TB CE (hr0.mono (by decide)) (pa_cons pe_str (pa_cons (pv 3) pa_nil))))) pss_nil))))), ?_⟩
    walk_at "go"
    walk_at "if"
    · intro h1
      exact ⟨_, rfl, bn_made (k1 h1)⟩
    intro h1
    walk_at "go"
    walk_at "if"
    · intro h2
      exact ⟨_, rfl, bn_made (k2 (by omega) h2)⟩
    intro h2
    walk_at "go"
    walk_at "if"
    · intro h3
      exact ⟨_, rfl, bn_made (k3 (by omega) (by omega) h3)⟩
    intro h3
    walk_at "go"
    walk_at "if"
    · intro h4
      exact ⟨_, rfl, bn_made (k4 (by omega) (by omega) (by omega) h4)⟩
    intro h4
    exact k (by omega) (by omega) (by omega) (by omega)
def spFloor (BN : Addr) : Sp := fun vs H Q E => ∃ (n m a b : Int), vs = [.int n, .int m, .int a, .int b] ∧ (n < 0 → Ref E BN H "many" n) ∧ (0 ≤ n → m < 1 → Ref E BN H "under" m) ∧ (0 ≤ n → 1 ≤ m → a < 0 → Ref E BN H "step" a) ∧
  (0 ≤ n → 1 ≤ m → 0 ≤ a → b < 0 → Ref E BN H "start" b) ∧ (0 ≤ n → 1 ≤ m → 0 ≤ a → 0 ≤ b → n.natAbs < 2 ^ 250 ∧ m.natAbs < 2 ^ 250 ∧ a.natAbs < 2 ^ 250 ∧ b.natAbs < 2 ^ 250 ∧ Q (.int ((fs m.toNat a.toNat b.toNat n.toNat : Nat) : Int)) H)
abbrev CalFloor (P : Program) (w : World) (K : PySem.W.Frag) (mg : Str → Option Value) (base : Heap) (BN : Addr) := CalX P w K mg base 4 "floor_sum" ["many", "under", "step", "start"] (spFloor BN)
theorem ok_floor {BN : Addr} (B : Blt mg) (D : Dfn K mg "floor_sum" "floor_sum" s_floor_sum ["many", "under", "step", "start"]) (C_check : CalCheck P w K mg base BN) : CalFloor P w K mg base BN := by
  refine D.calX sc_floor_sum (fun vs H Q E h => ?_) (fun f cdv A outer st H vs Q E hr h => ?_)
  · obtain ⟨n, m, a, b, rfl, _⟩ := h
    rfl
  · obtain ⟨n, m, a, b, rfl, k1, k2, k3, k4, k⟩ := h
    refine ⟨_, (pss_cons (ps_expr (pe_calS C_check (takes_of rfl rfl rfl rfl) (hr.mono (by decide)) (pa_cons (pv 0) (pa_cons (pv 1) (pa_cons (pv 2) (pa_cons (pv 3) pa_nil))))))
      (PSs.nox (pss_cons (ps_set (i := 4) sc_floor_sum.nd rfl (Or.inl rfl) (pe_int))
      (pss_cons (ps_while PassesOwn.never (pt_cmpR op_gt (pv 0) (pe_int) (nomark _)) (pss_cons (ps_set (i := 4) sc_floor_sum.nd rfl (Or.inl rfl) (pe_op op_add (pe_op op_add (pv 4) (pe_op op_mulW (pe_op op_fdivW (pe_op op_mulW (pv 0) (pe_op op_sub (pv 0) (pe_int))) (pe_int)) (pe_op op_fdivW (pv 2) (pv 1)))) (pe_op op_mulW (pv 0) (pe_op op_fdivW (pv 3) (pv 1)))))
      (pss_cons (ps_set (i := 2) sc_floor_sum.nd rfl (Or.inl rfl) (pe_op op_mod (pv 2) (pv 1)))
      (pss_cons (ps_set (i := 5) sc_floor_sum.nd rfl (Or.inl rfl) (pe_op op_add (pe_op op_mulW (pv 2) (pv 0)) (pe_op op_mod (pv 3) (pv 1))))
      (pss_cons (ps_set (i := 0) sc_floor_sum.nd rfl (Or.inl rfl) (pe_op op_fdivW (pv 5) (pv 1)))
      (pss_cons (ps_set (i := 3) sc_floor_sum.nd rfl (Or.inl rfl) (pe_op op_mod (pv 5) (pv 1)))
      (pss_one (ps_par (i := 2) (j := 1) (by rfl) sc_floor_sum.nd rfl rfl (by decide) rfl rfl (pa_cons (pv 1) (pa_cons (pv 2) pa_nil)) (by rfl)))))))))
      (pss_one (ps_ret (pv 4))))))), ?_⟩
    refine ⟨_, rfl, _, rfl, _, rfl, _, rfl, n, m, a, b, rfl, k1, k2, k3, k4, fun h1 h2 h3 h4 => ?_⟩
    obtain ⟨z1, z2, z3, z4, q⟩ := k h1 h2 h3 h4
    obtain ⟨n, rfl⟩ : ∃ x : Nat, n = (x : Int) := ⟨n.toNat, by omega⟩
    obtain ⟨m, rfl⟩ : ∃ x : Nat, m = (x : Int) := ⟨m.toNat, by omega⟩
    obtain ⟨a, rfl⟩ : ∃ x : Nat, a = (x : Int) := ⟨a.toNat, by omega⟩
    obtain ⟨b, rfl⟩ : ∃ x : Nat, b = (x : Int) := ⟨b.toNat, by omega⟩
    simp only [Int.toNat_natCast, Int.natAbs_natCast] at q z1 z2 z3 z4
    refine while_by (fun σ H' => H' = H ∧ ∃ (n' m' a' b' t' : Nat) (v : Option V), σ = [some (.int n'), some (.int m'), some (.int a'), some (.int b'), some (.int t'), v] ∧ (0 < n' → 0 < m') ∧ n' < 2 ^ 250 ∧ m' < 2 ^ 250 ∧ a' < 2 ^ 250 ∧ b' < 2 ^ 250 ∧ t' + fs m' a' b' n' = fs m a b n)
      (fun σ _ => match σ with | _ :: some (.int m') :: _ => m'.toNat | _ => 0) ⟨rfl, n, m, a, b, 0, none, rfl, fun _ => by omega, z1, z2, z3, z4, by omega⟩ ?_ ?_
    · rintro σ H' ⟨rfl, n', m', a', b', t', v, rfl, hm, y1, y2, y3, y4, hsum⟩
      walk_at "go"
      walk_at "if"
      · intro hn
        have hn' : 0 < n' := by omega
        have hm' : 0 < m' := hm hn'
        have e2 : (n' : Int) * ((n' : Int) - 1) / 2 = ((n' * (n' - 1) / 2 : Nat) : Int) := by
          rw [show (n' : Int) - 1 = ((n' - 1 : Nat) : Int) by omega]
          rfl
        have w2 : n' * (n' - 1) / 2 < 2 ^ 500 := by
          have h1 : n' * (n' - 1) ≤ n' * n' := Nat.mul_le_mul_left _ (Nat.sub_le _ _)
          have h2 : n' * n' < 2 ^ 250 * 2 ^ 250 := Nat.mul_lt_mul'' y1 y1
          rw [← Nat.pow_add] at h2
          exact Nat.lt_of_le_of_lt (Nat.le_trans (Nat.div_le_self _ _) h1) h2
        have dA : a' / m' < 2 ^ 250 := Nat.lt_of_le_of_lt (Nat.div_le_self _ _) y3
        have dB : b' / m' < 2 ^ 250 := Nat.lt_of_le_of_lt (Nat.div_le_self _ _) y4
        have mA : a' % m' < m' := Nat.mod_lt _ hm'
        have mB : b' % m' < m' := Nat.mod_lt _ hm'
        have cD : ∀ x : Int, CDivW x (m' : Int) := fun x => wide_div (b := 250) (by omega) (by omega) (by decide) (by decide)
        walk_at "go"
        refine ⟨wide_mul (a := 250) (b := 250) (by omega) (by omega) (by decide) (by decide) (by decide), ?_⟩
        refine ⟨_, _, rfl, rfl, ⟨by decide, by decide⟩, ?_⟩
        refine ⟨_, rfl, _, rfl, _, _, rfl, rfl, cD _, ?_⟩
        refine ⟨_, _, rfl, rfl, ?_, ?_⟩
        · show CMulW ((n' : Int) * ((n' : Int) - 1) / 2) ((a' / m' : Nat) : Int)
          rw [e2]
          exact wide_mul (a := 500) (b := 250) w2 dA (by decide) (by decide) (by decide)
        refine ⟨_, _, rfl, rfl, ?_⟩
        refine ⟨_, rfl, _, rfl, _, rfl, _, _, rfl, rfl, cD _, ?_⟩
        refine ⟨_, _, rfl, rfl, wide_mul (a := 250) (b := 250) (by omega) (show ((b' / m' : Nat) : Int).natAbs < 2 ^ 250 from dB) (by decide) (by decide) (by decide), ?_⟩
        refine ⟨_, _, rfl, rfl, ?_⟩
        refine ⟨_, rfl, _, rfl, _, _, rfl, rfl, (show (0 : Int) < (m' : Int) by omega), ?_⟩
        refine ⟨_, rfl, _, rfl, _, _, rfl, rfl, wide_mul (a := 250) (b := 250) (show ((a' % m' : Nat) : Int).natAbs < 2 ^ 250 by omega) (by omega) (by decide) (by decide) (by decide), ?_⟩
        refine ⟨_, rfl, _, rfl, _, _, rfl, rfl, (show (0 : Int) < (m' : Int) by omega), ?_⟩
        refine ⟨_, _, rfl, rfl, ?_⟩
        refine ⟨_, rfl, _, rfl, _, _, rfl, rfl, cD _, ?_⟩
        refine ⟨_, rfl, _, rfl, _, _, rfl, rfl, (show (0 : Int) < (m' : Int) by omega), ?_⟩
        refine ⟨_, rfl, _, rfl, _, _, rfl, ⟨rfl, (a' % m' * n' + b' % m') / m', a' % m', m', (a' % m' * n' + b' % m') % m', t' + n' * (n' - 1) / 2 * (a' / m') + n' * (b' / m'), some (.int ((a' % m' * n' + b' % m' : Nat) : Int)), ?_, ?_, ?_, ?_, y2, ?_, ?_⟩, ?_⟩
        · rw [← fs_tot hn']
          rfl
        · intro h0
          by_cases hz : a' % m' = 0
          · rw [hz, Nat.zero_mul, Nat.zero_add, Nat.div_eq_of_lt mB] at h0
            exact absurd h0 (by decide)
          · omega
        · exact Nat.lt_of_le_of_lt (fs_many_le hm' hn') y1
        · omega
        · exact Nat.lt_trans (Nat.mod_lt _ hm') y2
        · have := fs_turn hm' a' b' n'
          omega
        · show ((a' % m' : Nat) : Int).toNat < ((m' : Nat) : Int).toNat
          rw [Int.toNat_natCast, Int.toNat_natCast]
          exact mA
      · intro hn
        have hn' : n' = 0 := by omega
        subst hn'
        walk_at "go"
        have e : t' = fs m a b n := hsum
        rw [e]
        exact q
    · rintro σ H' Q' Q'' m' h
      obtain ⟨v, hv, i, j, e1, e2, x, ex, hx⟩ := h
      exact ⟨v, hv, i, j, e1, e2, x, ex, m' _ _ hx⟩

def spGet (D : Addr) : Sp := fun vs H Q _ => ∃ (x : Addr) (f s c i : Int), vs = [.ref x, .int i] ∧ RunAt D H x f s c ∧ RunOk f s c ∧ 0 ≤ i ∧ i < c ∧ Q (.int (f + s * i)) H
theorem ok_getitem {D fA : Addr} {fd : FuncData} (T : RunC K mg D) (F : Fun K "__getitem__" "Run.__getitem__" s_Run_getitem fA fd) : FnOk P w K mg base (L2.CX P w) 1 fA fd ["self", "at"] (spGet D) := by
  refine F.okX sc_Run_getitem (fun vs H Q E h => ?_) (fun cdv A outer st H vs Q E hr h => ?_)
  · obtain ⟨x, f, s, c, i, rfl, _⟩ := h
    rfl
  · obtain ⟨x, f, s, c, i, rfl, ⟨dx, hx⟩, ok, i0, ic, q⟩ := h
    have := ok.s1
    have := ok.s4
    refine ⟨_, (pss_cons (ps_if (pt_not (pt_chain op_le op_lt pe_int (pv 1) (pe_fld (pv 0) rfl))) (pss_one (ps_never)) pss_nil)
      (pss_one (ps_ret (pe_op op_add (pe_fld (pv 0) rfl) (pe_op op_mul (pe_fld (pv 0) rfl) (pv 1)))))), ?_⟩
    refine ⟨_, rfl, _, _, rfl, rfl, _, rfl, ?_⟩
    rw [decide_eq_true i0]
    refine iteT ?_
    refine ⟨_, rfl, x, D, dx, _, _, rfl, hx, T.cl, T.nC, gf_count _ _ _, _, _, rfl, rfl, _, rfl, ?_⟩
    rw [decide_eq_true ic]
    refine iteF ?_
    refine ⟨_, rfl, x, D, dx, _, _, rfl, hx, T.cl, T.nF, gf_first _ _ _, ?_⟩
    refine ⟨_, rfl, x, D, dx, _, _, rfl, hx, T.cl, T.nS, gf_step _ _ _, ?_⟩
    exact ⟨_, rfl, _, _, rfl, rfl, .inl ⟨by omega, by omega⟩, _, _, rfl, rfl, q⟩
def spTies (BN : Addr) : Sp := fun vs H Q E => ∃ (v : Int), vs = [.int v] ∧ ((v = -1 ∨ v = 0 ∨ v = 1) → ∀ H', Same H H' → Q .non H') ∧ (¬ (v = -1 ∨ v = 0 ∨ v = 1) → Ref E BN H "ties" v)
abbrev CalTies (P : Program) (w : World) (K : PySem.W.Frag) (mg : Str → Option Value) (base : Heap) (BN : Addr) := CalX P w K mg base 3 "check_ties" ["ties"] (spTies BN)
theorem ok_ties {BN : Addr} (TB : BnC K mg BN) (CE : CalE P w K mg base 1 BN) (D : Dfn K mg "check_ties" "check_ties" s_check_ties ["ties"]) : CalTies P w K mg base BN := by
  refine D.calX sc_check_ties (fun vs H Q E h => ?_) (fun f cdv A outer st H vs Q E hr h => ?_)
  · obtain ⟨v, rfl, _⟩ := h
    rfl
  · obtain ⟨v, rfl, k1, k2⟩ := h
    have hr0 : Room 2 _ := hr
    refine ⟨_, (pss_one (ps_if (pt_cmpR op_notIn_seq (pv 0) (pe_tup (pa_cons (pe_un un_neg pe_int) (pa_cons pe_int (pa_cons pe_int pa_nil)))) (by rfl)) (pss_one (ps_raise rfl (takes_of rfl rfl rfl rfl) (pmk_bn TB CE (hr0.mono (by decide)) (pa_cons pe_str (pa_cons (pv 0) pa_nil))))) pss_nil)), ?_⟩
    refine ⟨_, rfl, _, rfl, (by show 3 ≤ sizeLine; decide), fun t ht => ?_⟩
    refine ⟨t, _, rfl, .inr (SqT.of upd_same), rfl, rfl, _, rfl, ?_⟩
    show if (!inV (V.int v) [V.int (-1), V.int 0, V.int 1]) = true then _ else _
    by_cases h : v = -1 ∨ v = 0 ∨ v = 1
    · have e : inV (V.int v) [V.int (-1), V.int 0, V.int 1] = true := by
        rcases h with rfl | rfl | rfl <;> rfl
      rw [e]
      exact iteF (k1 h _ (same_upd ht))
    · have e : inV (V.int v) [V.int (-1), V.int 0, V.int 1] = false := by
        show ((-1 : Int) == v || ((0 : Int) == v || ((1 : Int) == v || false))) = false
        rw [beq_eq_false_iff_ne.mpr (show (-1 : Int) ≠ v by omega), beq_eq_false_iff_ne.mpr (show (0 : Int) ≠ v by omega), beq_eq_false_iff_ne.mpr (show (1 : Int) ≠ v by omega)]
        rfl
      rw [e]
      refine iteT ?_
      exact ⟨_, rfl, bn_made ((k2 h).same (same_upd ht))⟩
/-- numbers of a run that are not too great -/
def RunSm (f s c : Int) : Prop := f.natAbs < 2 ^ 240 ∧ c.natAbs < 2 ^ 240
def spPA (D : Addr) : Sp := fun vs H Q _ => ∃ (x y : Addr) (f s c f' s' c' : Int), vs = [.ref x, .ref y] ∧ RunAt D H x f s c ∧ RunOk f s c ∧ RunSm f s c ∧ RunAt D H y f' s' c' ∧ RunOk f' s' c' ∧ RunSm f' s' c' ∧ Q (.int (pab f s c f' s' c')) H
abbrev CalPA (P : Program) (w : World) (K : PySem.W.Frag) (mg : Str → Option Value) (base : Heap) (D : Addr) := Cal P w K mg base 5 "pairs_above" ["one", "other"] (spPA D)
theorem ok_pairs_above {D BN : Addr} (T : RunC K mg D) (CL : CalP P w K mg base 1 D "last" (spLast D)) (C_above : CalM P w K mg base 4 D "above" ["self", "k"] (spAbove D)) (CG : CalMX P w K mg base 1 D "__getitem__" ["self", "at"] (spGet D)) (C_floor_sum : CalFloor P w K mg base BN)
    (Df : Dfn K mg "pairs_above" "pairs_above" s_pairs_above ["one", "other"]) : CalPA P w K mg base D := by
  obtain ⟨_, _, m_above, F_above, b_above⟩ := C_above.ex
  refine Df.cal sc_pairs_above (fun vs H Q E h => ?_) (fun fA cdv A outer st H vs Q E hr h => ?_)
  · obtain ⟨x, y, f, s, c, f', s', c', rfl, _⟩ := h
    rfl
  · obtain ⟨x, y, f, s, c, f', s', c', rfl, ⟨dx, hx⟩, ok, sm, ⟨dy, hy⟩, ok', sm', q⟩ := h
    obtain ⟨p1, p2, p3, p4⟩ := bel_ok (k := f' + 1) ok
    obtain ⟨q1, q2, q3, q4⟩ := bel_ok (k := f' + s' * (c' - 1) + 1) ok
    have lo := fun (i : Int) (h0 : 0 ≤ i) (hi : i < c) => bel_iff (k := f' + 1) ok h0 hi
    rw [pab_eq ok ok' (a := bel f s c (f' + 1)) (b := bel f s c (f' + s' * (c' - 1) + 1)) rfl rfl] at q
    generalize ha : bel f s c (f' + 1) = a at *
    generalize hb : bel f s c (f' + s' * (c' - 1) + 1) = b at *
    have s1 := ok.s1
    have s4 := ok.s4
    have s1' := ok'.s1
    have s4' := ok'.s4
    have f0 := ok.f0
    have f0' := ok'.f0
    obtain ⟨z1, z2⟩ := sm
    obtain ⟨z3, z4⟩ := sm'
    refine ⟨_, (pss_cons (ps_set (i := 2) sc_pairs_above.nd rfl (Or.inl rfl) (pe_op op_sub (pe_fld (pv 0) rfl) (pe_meth (pv 0) T.cl m_above F_above (hr.mono (by decide)) b_above .nil pass0 (pa_cons (pe_fld (pv 1) rfl) pa_nil))))
      (Evl.pss_cut (ps_set (i := 3) sc_pairs_above.nd rfl (Or.inl rfl) (pe_op op_sub (pe_fld (pv 0) rfl) (pe_meth (pv 0) T.cl m_above F_above (hr.mono (by decide)) b_above .nil pass0 (pa_cons (pe_calP T.cl CL (hr.mono (by decide)) (pv 1)) pa_nil))))
      (pss_cons (ps_set (i := 4) sc_pairs_above.nd rfl (Or.inl rfl) (pe_op op_mulW (pe_op op_sub (pe_fld (pv 0) rfl) (pv 3)) (pe_fld (pv 1) rfl)))
      (pss_cons (ps_if (pt_cmpR op_lt (pv 2) (pv 3) (nomark _)) (pss_cons (ps_set (i := 5) sc_pairs_above.nd rfl (Or.inl rfl) (pe_op op_sub (pe_op op_add (pe_op op_sub (pe_ixOwn CG (hr.mono (by decide)) (pv 0) (pv 2)) (pe_fld (pv 1) rfl)) (pe_fld (pv 1) rfl)) (pe_int)))
      (pss_one (ps_set (i := 4) sc_pairs_above.nd rfl (Or.inl rfl) (pe_op op_add (pv 4) (pe_calX C_floor_sum (hr.mono (by decide)) (pa_cons (pe_op op_sub (pv 3) (pv 2)) (pa_cons (pe_fld (pv 1) rfl) (pa_cons (pe_fld (pv 0) rfl) (pa_cons (pv 5) pa_nil))))))))) pss_nil)
      (pss_one (ps_ret (pv 4))))))), ?_⟩
    refine ⟨_, rfl, x, D, dx, _, _, rfl, hx, T.cl, T.nC, gf_count _ _ _, ?_⟩
    refine ⟨_, rfl, x, dx, _, rfl, hx, gf_no _ _ _ (by decide +kernel) (by decide +kernel) (by decide +kernel), ?_⟩
    refine ⟨_, rfl, y, D, dy, _, _, rfl, hy, T.cl, T.nF, gf_first _ _ _, x, f, s, c, f', rfl, ⟨dx, hx⟩, ok, ?_⟩
    rw [ha]
    refine ⟨_, _, rfl, rfl, ?_⟩
    refine ⟨fun σ' H' => σ' = [some (.ref x), some (.ref y), some (.int a), some (.int b), none, none] ∧ H = H', ?_, ?_⟩
    · refine ⟨_, rfl, x, D, dx, _, _, rfl, hx, T.cl, T.nC, gf_count _ _ _, ?_⟩
      refine ⟨_, rfl, x, dx, _, rfl, hx, gf_no _ _ _ (by decide +kernel) (by decide +kernel) (by decide +kernel), ?_⟩
      refine ⟨_, rfl, y, dy, _, rfl, hy, y, f', s', c', rfl, ⟨dy, hy⟩, ok', x, f, s, c, _, rfl, ⟨dx, hx⟩, ok, ?_⟩
      rw [hb]
      refine ⟨_, _, rfl, rfl, ?_, rfl⟩
      show [some (V.ref x), some (V.ref y), some (V.int (c - (c - a))), some (V.int (c - (c - b))), none, none] = _
      rw [show c - (c - a) = a by omega, show c - (c - b) = b by omega]
    rintro σ' H' ⟨rfl, rfl⟩
    refine ⟨_, rfl, x, D, dx, _, _, rfl, hx, T.cl, T.nC, gf_count _ _ _, ?_⟩
    refine ⟨_, rfl, _, _, rfl, rfl, _, rfl, y, D, dy, _, _, rfl, hy, T.cl, T.nC, gf_count _ _ _, ?_⟩
    refine ⟨_, _, rfl, rfl, wide_mul (a := 241) (b := 240) (by omega) z4 (by decide) (by decide) (by decide), ?_⟩
    walk_at "go"
    walk_at "if"
    · intro hab
      rw [if_pos hab] at q
      have hx1 : f' + 1 ≤ f + s * a := by
        rcases (by omega : f + s * a < f' + 1 ∨ f' + 1 ≤ f + s * a) with hw | hw
        · have := (lo a p1 (by omega)).1 hw
          omega
        · exact hw
      have hx2 : f + s * a < 2 ^ 240 + 4 * 2 ^ 240 := by
        rcases s_cases ok with rfl | rfl | rfl | rfl <;> omega
      refine ⟨_, rfl, _, rfl, x, dx, _, rfl, hx, x, f, s, c, a, rfl, ⟨dx, hx⟩, ok, p1, by omega, ?_⟩
      refine ⟨_, rfl, y, D, dy, _, _, rfl, hy, T.cl, T.nF, gf_first _ _ _, ?_⟩
      refine ⟨_, _, rfl, rfl, _, rfl, y, D, dy, _, _, rfl, hy, T.cl, T.nS, gf_step _ _ _, ?_⟩
      refine ⟨_, _, rfl, rfl, _, _, rfl, rfl, ?_⟩
      refine ⟨_, rfl, _, rfl, _, rfl, _, _, rfl, rfl, ?_⟩
      refine ⟨_, rfl, y, D, dy, _, _, rfl, hy, T.cl, T.nS, gf_step _ _ _, ?_⟩
      refine ⟨_, rfl, x, D, dx, _, _, rfl, hx, T.cl, T.nS, gf_step _ _ _, ?_⟩
      refine ⟨_, rfl, _, _, _, _, rfl, fun h => absurd h (by omega), fun _ h => absurd h (by omega), fun _ _ h => absurd h (by omega), fun _ _ _ h => absurd h (by omega), fun _ _ _ _ => ⟨by omega, by omega, by omega, by omega, ?_⟩⟩
      exact ⟨_, _, rfl, rfl, _, rfl, q⟩
    · intro hab
      rw [if_neg hab, Int.add_zero] at q
      exact ⟨_, rfl, q⟩
def spPK (D : Addr) : Sp := fun vs H Q _ => ∃ (x y : Addr) (f s c f' s' c' : Int), vs = [.ref x, .ref y] ∧ RunAt D H x f s c ∧ RunOk f s c ∧ RunSm f s c ∧ RunAt D H y f' s' c' ∧ RunOk f' s' c' ∧ RunSm f' s' c' ∧ Q (.int (c * c' - pab f s c f' s' c' - pab f' s' c' f s c)) H
abbrev CalPK (P : Program) (w : World) (K : PySem.W.Frag) (mg : Str → Option Value) (base : Heap) (D : Addr) := Cal P w K mg base 6 "pairs_alike" ["one", "other"] (spPK D)
theorem ok_pairs_alike {D : Addr} (T : RunC K mg D) (C_pairs_above : CalPA P w K mg base D) (Df : Dfn K mg "pairs_alike" "pairs_alike" s_pairs_alike ["one", "other"]) : CalPK P w K mg base D := by
  refine Df.cal sc_pairs_alike (fun vs H Q E h => ?_) (fun fA cdv A outer st H vs Q E hr h => ?_)
  · obtain ⟨x, y, f, s, c, f', s', c', rfl, _⟩ := h
    rfl
  · obtain ⟨x, y, f, s, c, f', s', c', rfl, ⟨dx, hx⟩, ok, sm, ⟨dy, hy⟩, ok', sm', q⟩ := h
    refine ⟨_, (pss_one (ps_ret (pe_op op_sub (pe_op op_sub (pe_op op_mulW (pe_fld (pv 0) rfl) (pe_fld (pv 1) rfl)) (pe_cal C_pairs_above (hr.mono (by decide)) (pa_cons (pv 0) (pa_cons (pv 1) pa_nil)))) (pe_cal C_pairs_above (hr.mono (by decide)) (pa_cons (pv 1) (pa_cons (pv 0) pa_nil)))))), ?_⟩
    refine ⟨_, rfl, x, D, dx, _, _, rfl, hx, T.cl, T.nC, gf_count _ _ _, ?_⟩
    refine ⟨_, rfl, y, D, dy, _, _, rfl, hy, T.cl, T.nC, gf_count _ _ _, ?_⟩
    refine ⟨_, _, rfl, rfl, wide_mul sm.2 sm'.2 (by decide) (by decide) (by decide), ?_⟩
    refine ⟨_, rfl, _, rfl, x, y, f, s, c, f', s', c', rfl, ⟨dx, hx⟩, ok, sm, ⟨dy, hy⟩, ok', sm', ?_⟩
    refine ⟨_, _, rfl, rfl, ?_⟩
    refine ⟨_, rfl, _, rfl, y, x, f', s', c', f, s, c, rfl, ⟨dy, hy⟩, ok', sm', ⟨dx, hx⟩, ok, sm, ?_⟩
    exact ⟨_, _, rfl, rfl, q⟩

/-- a def with the keyword-only parameter ties, 0 if it is left out -/
structure CalKW (P : Program) (w : World) (K : PySem.W.Frag) (mg : Str → Option Value) (base : Heap) (k : Nat) (x : Str) (ps : List Str) (sp : Sp) : Prop where
  ex : ∃ (f : Addr) (fd : FuncData) (ds : List Value), FnOk P w K mg base (L2.CX P w) k f fd ps sp ∧ mg x = some (.ref f) ∧ PySem.W.keepIn K (.ref f) = true ∧ Vals [V.int 0] ds ∧ Binds K fd ps ds ∧ KBn K fd ps 2 [("ties" : Str)] (fun us ws => us ++ ws) (fun vs zs => vs ++ zs)
theorem pe_calK0 {X : Cx} {k : Nat} {x : Str} {ps : List Str} {sp : Sp} {p pos : Pos} {e : Expr} {es : List Expr} {t : TA} (C : CalKW X.prog X.w X.K X.mg X.base k x ps sp) (hr : Room k X.A) (ha : PA X (e :: es) t) (hg : Gl X x := by rfl)
    (hdb : (x == ("__debug__" : Str)) = false := by decide) (he : starEach (e :: es) X.env = (false, eval e X.env) :: starEach es X.env := by rfl) (hpl : (backTo pos (starEach es X.env)).any (·.1) = false := by rfl) :
    PE X (.Call (.Name x p) (e :: es) [] pos) (tCall sp [V.int 0] E0 t) := by
  obtain ⟨f, fd, ds, F, m, kp, d, b, _⟩ := C.ex
  exact pe_call F hr hg m kp b d passL ha hdb he hpl
theorem pe_calK1 {X : Cx} {k : Nat} {x : Str} {ps : List Str} {sp : Sp} {p pos : Pos} {e : Expr} {es : List Expr} {kws : List Keyword} {t tk : TA} (C : CalKW X.prog X.w X.K X.mg X.base k x ps sp) (hr : Room k X.A) (ha : PA X (e :: es) t) (hkw : PK X kws tk) (hg : Gl X x := by rfl)
    (hall : (backToKw pos (keywordEach kws X.env)).all (·.1.isSome) = true := by rfl) (hks : (backToKw pos (keywordEach kws X.env)).filterMap (·.1) = [("ties" : Str)] := by rfl)
    (hdb : (x == ("__debug__" : Str)) = false := by decide) (he : starEach (e :: es) X.env = (false, eval e X.env) :: starEach es X.env := by rfl)
    (hpl : ((backTo pos (starEach (e :: es) X.env)).any (·.1) || (backToKw pos (keywordEach kws X.env)).any (·.1.isNone)) = false := by rfl) :
    PE X (.Call (.Name x p) (e :: es) kws pos) (tCallN 2 1 sp (fun vs zs => vs ++ zs) E0 t tk) := by
  obtain ⟨f, fd, ds, F, m, kp, d, b, kb⟩ := C.ex
  exact pe_callN F hr hg m kp kb passL ha hkw hall hks hdb he hpl
def spRG (C D BN : Addr) : Sp := fun vs H Q E => ∃ (x y : Addr) (f s c f' s' c' v : Int), vs = [.ref x, .ref y, .int v] ∧ RunAt D H x f s c ∧ RunOk f s c ∧ RunSm f s c ∧ RunAt D H y f' s' c' ∧ RunOk f' s' c' ∧ RunSm f' s' c' ∧ (¬ (v = -1 ∨ v = 0 ∨ v = 1) → Ref E BN H "ties" v) ∧
  ((v = -1 ∨ v = 0 ∨ v = 1) → ∀ (z : Addr) (H' : Hp), Same H H' → RatAt C H' z (nT (pab f s c f' s' c' - pab f' s' c' f s c + v * (c * c' - pab f s c f' s' c' - pab f' s' c' f s c)) (c * c')) (nU (pab f s c f' s' c' - pab f' s' c' f s c + v * (c * c' - pab f s c f' s' c' - pab f' s' c' f s c)) (c * c')) → Q (.ref z) H')
theorem ok_run_gain {C ZU D BN fA : Addr} {fd : FuncData} (T : RunC K mg D) (C_check_ties : CalTies P w K mg base BN) (C_pairs_above : CalPA P w K mg base D) (M2 : CalRatio P w K mg base C ZU []) (F : FunD K "run_gain" "run_gain" (defArgs s_run_gain) (defBody s_run_gain) (defScope s_run_gain) [] [("ties", .int 0)] fA fd) :
    FnOk P w K mg base (L2.CX P w) 6 fA fd ["one", "other", "ties"] (spRG C D BN) := by
  refine F.ok sc_run_gain (fun vs H Q E h => ?_) (fun cdv A outer st H vs Q E hr h => ?_)
  · obtain ⟨x, y, f, s, c, f', s', c', v, rfl, _⟩ := h
    rfl
  · obtain ⟨x, y, f, s, c, f', s', c', v, rfl, ⟨dx, hx⟩, ok, sm, ⟨dy, hy⟩, ok', sm', k1, k2⟩ := h
    refine ⟨_, (pss_cons (ps_expr (pe_calS C_check_ties (takes_of rfl rfl rfl rfl) (hr.mono (by decide)) (pa_cons (pv 2) pa_nil)))
      (PSs.nox (pss_cons (ps_set (i := 3) sc_run_gain.nd rfl (Or.inl rfl) (pe_cal C_pairs_above (hr.mono (by decide)) (pa_cons (pv 0) (pa_cons (pv 1) pa_nil))))
      (pss_cons (ps_set (i := 4) sc_run_gain.nd rfl (Or.inl rfl) (pe_cal C_pairs_above (hr.mono (by decide)) (pa_cons (pv 1) (pa_cons (pv 0) pa_nil))))
      (pss_cons (ps_set (i := 5) sc_run_gain.nd rfl (Or.inl rfl) (pe_op op_mulW (pe_fld (pv 0) rfl) (pe_fld (pv 1) rfl)))
      (pss_one (ps_ret (pe_mk M2 (hr.mono (by decide)) (pa_cons (pe_op op_add (pe_op op_sub (pv 3) (pv 4)) (pe_op op_mul (pv 2) (pe_op op_sub (pe_op op_sub (pv 5) (pv 3)) (pv 4)))) (pa_cons (pv 5) pa_nil)))))))))), ?_⟩
    refine ⟨_, rfl, v, rfl, fun hv H1 s1 => ?_, fun hv => k1 hv⟩
    have hx1 := s1 _ _ hx
    have hy1 := s1 _ _ hy
    have o1 := ok.c1
    have o2 := ok'.c1
    refine ⟨_, rfl, _, rfl, x, y, f, s, c, f', s', c', rfl, ⟨dx, hx1⟩, ok, sm, ⟨dy, hy1⟩, ok', sm', ?_⟩
    refine ⟨_, rfl, _, rfl, y, x, f', s', c', f, s, c, rfl, ⟨dy, hy1⟩, ok', sm', ⟨dx, hx1⟩, ok, sm, ?_⟩
    refine ⟨_, rfl, x, D, dx, _, _, rfl, hx1, T.cl, T.nC, gf_count _ _ _, ?_⟩
    refine ⟨_, rfl, y, D, dy, _, _, rfl, hy1, T.cl, T.nC, gf_count _ _ _, ?_⟩
    refine ⟨_, _, rfl, rfl, wide_mul sm.2 sm'.2 (by decide) (by decide) (by decide), ?_⟩
    refine ⟨_, rfl, _, rfl, _, _, rfl, rfl, ?_⟩
    refine ⟨_, rfl, _, rfl, _, rfl, _, _, rfl, rfl, _, rfl, _, _, rfl, rfl, ?_⟩
    refine ⟨_, _, rfl, rfl, .inl ⟨by omega, by omega⟩, _, _, rfl, rfl, ?_⟩
    have pp : 0 < c * c' := Int.mul_pos (by omega) (by omega)
    refine ⟨_, rfl, fun z dz nz ndz ne => ?_⟩
    refine ⟨z, dz, _, c * c', rfl, upd_same, ub (wide_lt sm.2 sm'.2) (by decide), fun _ H2 hz hk => ⟨rfl, ?_⟩, fun h => absurd h (by omega)⟩
    exact k2 hv z H2 (s1.trans (made nz ndz hk)) ⟨dz, hz⟩
end
end L

set_option Elab.async false
set_option linter.all false
set_option maxRecDepth 100000
set_option maxHeartbeats 4000000
set_option pp.maxSteps 160
set_option pp.deepTerms false
namespace L
open PySem PySem.Spec PyProof.Rows L2 Fl
local macro_rules | `(tactic| walk_at "side") => `(tactic| first | (exact .inl ⟨by omega, by omega⟩) | (exact .inr ⟨by omega, by omega⟩) | (exact .inr ⟨by decide, by decide⟩) | (show (_ : Int) ≠ _; omega) | (exact ⟨by omega, by decide⟩) | (exact ⟨by decide, by decide, by decide⟩))
local macro_rules | `(tactic| walk_at "go") => `(tactic| repeat (first | refine ⟨_, rfl, ?_⟩ | refine ⟨_, _, rfl, rfl, ?_⟩ | refine .inl ⟨_, rfl, ?_⟩ | refine ⟨rfl, ?_⟩ | refine ⟨(by walk_at "side"), ?_⟩))
local macro_rules | `(tactic| walk_at "see") => `(tactic| (set_option pp.maxSteps 110 in set_option pp.deepTerms false in trace_state))
local macro_rules | `(tactic| walk_at "if") => `(tactic| first | refine ifE ?_ ?_ | refine ifNE ?_ ?_ | refine ifD ?_ ?_ | refine ifN ?_ ?_ | refine ifB ?_ ?_)
open Bx

/-! ### the sums over all pairs of runs -/
def prs (p q : Pt) : Int := pab p.f p.s p.c q.f q.s q.c
def alkP (p q : Pt) : Int := p.c * q.c - prs p q - prs q p
def gainP (v : Int) (p q : Pt) : Int := prs p q - prs q p + v * alkP p q
theorem sumN_bd {g : Nat → Int} {c : Int} : ∀ {n : Nat}, (∀ i, i < n → 0 ≤ g i ∧ g i ≤ c) → 0 ≤ sumN g n ∧ sumN g n ≤ c * (n : Int)
  | 0, _ => by
    show (0 : Int) ≤ 0 ∧ (0 : Int) ≤ c * 0
    omega
  | n + 1, h => by
    have ih := sumN_bd (n := n) fun i hi => h i (by omega)
    have h1 := h n (by omega)
    show 0 ≤ sumN g n + g n ∧ sumN g n + g n ≤ c * ((n + 1 : Nat) : Int)
    rw [show ((n + 1 : Nat) : Int) = (n : Int) + 1 by omega, Int.mul_add, Int.mul_one]
    omega
theorem prs_bd {p q : Pt} (hp : RunOk p.f p.s p.c) (hq : RunOk q.f q.s q.c) : 0 ≤ prs p q ∧ prs p q ≤ p.c * q.c := by
  have h := sumN_bd (g := fun i => bel q.f q.s q.c (p.f + p.s * (i : Int))) (c := q.c) (n := p.c.toNat) fun i _ => ⟨(bel_ok hq).1, (bel_ok hq).2.1⟩
  have c1 := hp.c1
  rw [Int.toNat_of_nonneg (by omega), Int.mul_comm] at h
  exact h
abbrev Tie (v : Int) : Prop := v = -1 ∨ v = 0 ∨ v = 1
theorem gainP_bd {v : Int} {p q : Pt} (hp : RunOk p.f p.s p.c) (hq : RunOk q.f q.s q.c) (hv : Tie v) (bp : p.c.natAbs < 2 ^ 204) (bq : q.c.natAbs < 2 ^ 204) : (gainP v p q).natAbs < 2 ^ 411 := by
  have h1 := prs_bd hp hq
  have h2 := prs_bd hq hp
  have h3 := wide_lt bp bq
  have e : (2 : Nat) ^ 411 = 8 * 2 ^ (204 + 204) := by decide +kernel
  rw [Int.mul_comm q.c] at h2
  rw [e]
  unfold gainP alkP
  generalize p.c * q.c = m at *
  generalize prs p q = a at *
  generalize prs q p = b at *
  generalize 2 ^ (204 + 204) = X at *
  rcases hv with rfl | rfl | rfl <;> omega
theorem div_le {P c : Int} (hP : 0 ≤ P) (hc : 1 ≤ c) : (P / c).natAbs ≤ P.natAbs := by
  have h1 := Int.ediv_nonneg hP (show 0 ≤ c by omega)
  have h2 := Int.ediv_le_self c hP
  omega
structure MkOk (W P : Int) (ps : List Pt) : Prop where
  w : 0 < W
  wb : W.natAbs < 2 ^ 210
  p : 0 < P
  pb : P.natAbs < 2 ^ 1300
  ok : ∀ p ∈ ps, RunOk p.f p.s p.c ∧ RunSm p.f p.s p.c ∧ p.c.natAbs < 2 ^ 204 ∧ p.n.natAbs < 2 ^ 200 ∧ p.c ∣ P
def mnum (g : Pt → Pt → Int) (P1 P2 : Int) (p q : Pt) : Int := p.n * q.n * g p q * ((P1 / p.c) * (P2 / q.c))
def mrow (g : Pt → Pt → Int) (P1 P2 : Int) (qs : List Pt) (p : Pt) : List Int := qs.map (mnum g P1 P2 p)
def meetL (g : Pt → Pt → Int) (P1 P2 : Int) (ps qs : List Pt) : List Int := ps.flatMap (mrow g P1 P2 qs)
theorem mnum_bd {v W1 W2 P1 P2 : Int} {ps qs : List Pt} (h1 : MkOk W1 P1 ps) (h2 : MkOk W2 P2 qs) (hv : Tie v) {p q : Pt} (hp : p ∈ ps) (hq : q ∈ qs) : (mnum (gainP v) P1 P2 p q).natAbs < 2 ^ 4300 := by
  obtain ⟨o1, _, c1, n1, _⟩ := h1.ok p hp
  obtain ⟨o2, _, c2, n2, _⟩ := h2.ok q hq
  have d1 := Nat.lt_of_le_of_lt (div_le (show 0 ≤ P1 by have := h1.p; omega) o1.c1) h1.pb
  have d2 := Nat.lt_of_le_of_lt (div_le (show 0 ≤ P2 by have := h2.p; omega) o2.c1) h2.pb
  exact ub (wide_lt (wide_lt (wide_lt n1 n2) (gainP_bd o1 o2 hv c1 c2)) (wide_lt d1 d2)) (by decide)
theorem meetL_len (g : Pt → Pt → Int) (P1 P2 : Int) (qs : List Pt) : ∀ ps : List Pt, (meetL g P1 P2 ps qs).length = ps.length * qs.length
  | [] => by rw [List.length_nil, Nat.zero_mul]; rfl
  | p :: r => by
    show (mrow g P1 P2 qs p ++ meetL g P1 P2 r qs).length = _
    rw [List.length_append, meetL_len g P1 P2 qs r, List.length_cons, Nat.succ_mul]
    unfold mrow
    rw [List.length_map, Nat.add_comm]
theorem meet_bd {v W1 W2 P1 P2 : Int} {ps qs : List Pt} (h1 : MkOk W1 P1 ps) (h2 : MkOk W2 P2 qs) (hv : Tie v) (hl : ps.length * qs.length ≤ 1000) : Bd (meetL (gainP v) P1 P2 ps qs) (W1 * W2 * (P1 * P2)) := by
  refine ⟨Int.mul_pos (Int.mul_pos h1.w h2.w) (Int.mul_pos h1.p h2.p), ub (wide_lt (wide_lt h1.wb h2.wb) (wide_lt h1.pb h2.pb)) (by decide), fun n hn => ?_, by rw [meetL_len]; exact hl⟩
  obtain ⟨p, hp, hn⟩ := List.mem_flatMap.mp hn
  obtain ⟨q, hq, rfl⟩ := List.mem_map.mp hn
  exact mnum_bd h1 h2 hv hp hq
/-- the list at L, told number by number, while it grows -/
def GL (C : Addr) (D : Int) (H : Hp) (L : Addr) (us : List V) (ns : List Int) : Prop := us.length = ns.length ∧ ∀ (t : Nat) (n : Int), ns[t]? = some n → ∃ v, us[t]? = some v ∧ NumQ C (wo H L) v n D
theorem GL.same {C L : Addr} {D : Int} {H H' : Hp} {us : List V} {ns : List Int} (h : GL C D H L us ns) (s : Same H H') : GL C D H' L us ns := ⟨h.1, fun t n e => by
  obtain ⟨v, hv, q⟩ := h.2 t n e
  exact ⟨v, hv, q.same (wo_same L s)⟩⟩
theorem GL.snoc {C L : Addr} {D : Int} {H : Hp} {us : List V} {ns : List Int} {v : V} {n : Int} {o : HO} (h : GL C D H L us ns) (hv : NumQ C (wo H L) v n D) : GL C D (upd H L o) L (us ++ [v]) (ns ++ [n]) := by
  have s : Same (wo H L) (wo (upd H L o) L) := wo_upd
  refine ⟨by rw [List.length_append, List.length_append, h.1]; rfl, fun t m e => ?_⟩
  by_cases ht : t < ns.length
  · rw [List.getElem?_append_left ht] at e
    obtain ⟨u, hu, q⟩ := h.2 t m e
    exact ⟨u, by rw [List.getElem?_append_left (by rw [h.1]; exact ht)]; exact hu, q.same s⟩
  · rw [List.getElem?_append_right (by omega)] at e
    have e0 : t = ns.length := by
      rcases Nat.lt_or_ge (t - ns.length) 1 with h | h
      · omega
      · rw [List.getElem?_eq_none (by simpa using h)] at e
        cases e
    subst e0
    rw [Nat.sub_self] at e
    cases e
    exact ⟨v, by rw [← h.1, List.getElem?_append_right (Nat.le_refl _), Nat.sub_self]; rfl, hv.same s⟩
theorem GL.lat {C L : Addr} {D : Int} {H : Hp} {us : List V} {ns : List Int} (h : GL C D H L us ns) (e : H L = some (.lst us)) : LAt (fun H v n => NumQ C H v n D) H L ns := ⟨us, e, h.1, fun t n q => by
  obtain ⟨v, hv, r⟩ := h.2 t n q
  exact ⟨v, hv, r.same (wo_sub H L)⟩⟩
theorem flat_snoc {f : Pt → List Int} {ps : List Pt} {i : Nat} {p : Pt} (h : ps[i]? = some p) : (ps.take (i + 1)).flatMap f = (ps.take i).flatMap f ++ f p := by
  rw [take_snoc h, List.flatMap_append]
  congr 1
  exact List.append_nil _
theorem mrow_snoc {g : Pt → Pt → Int} {P1 P2 : Int} {qs : List Pt} {p q : Pt} {j : Nat} (h : qs[j]? = some q) : (mrow g P1 P2 qs p).take (j + 1) = (mrow g P1 P2 qs p).take j ++ [mnum g P1 P2 p q] := take_snoc (by
  unfold mrow
  rw [List.getElem?_map, h]
  rfl)
theorem same_lateM {H0 H : Hp} {L : Addr} {o : HO} (s : Same H0 H) (h : H0 L = none) : Same H0 (upd H L o) := fun b u e => by
  rw [upd_ne (ne_of_none e h)]
  exact s b u e
section
variable {P : Program} {w : World} {K : PySem.W.Frag} {mg : Str → Option Value} {base : Heap}

def spIterBl (C D F : Addr) : Prop := True
theorem ok_bl_iter {F fA : Addr} {fd : FuncData} (B : Blt mg) (gIter : mg "iter" = none) (TF : BleC K mg F) (Fn : Fun K "__iter__" "Blend.__iter__" s_Blend_iter fA fd) : FnOkN P w K mg base CX0 1 fA fd ["self"] (spIterF F "parts") := by
  refine fn_at Fn sc_Blend_iter (fun n vs H Q E h => ?_) (fun cdv A outer st H vs Q E hr h => ?_)
  · obtain ⟨a, dx, fs, L, zs, rfl, _⟩ := h
    rfl
  · obtain ⟨a, dx, fs, L, zs, rfl, ha, hf, hL, q⟩ := h
    refine ⟨_, PSs.nox (pss_one (ps_ret (pe_callB ItX.call_iterN (by rfl) gIter (by first | rfl | decide +kernel) (pa_cons (pe_fld (pv 0) rfl) pa_nil)))), ?_⟩
    exact ⟨_, rfl, a, F, dx, _, _, rfl, ha, TF.cl, TF.nP, hf, L, zs, rfl, SqL.of hL, q⟩
def spMeet (C D F BN : Addr) : Sp := fun vs H Q E => ∃ (x y : Addr) (v : Int) (ps qs : List Pt) (W1 W2 P1 P2 : Int), vs = [.ref x, .ref y, .int v] ∧ BlAt C D F W1 H x ps ∧ BlAt C D F W2 H y qs ∧ (¬ Tie v → Ref E BN H "ties" v) ∧
  (Tie v → MkOk W1 P1 ps ∧ MkOk W2 P2 qs ∧ ps.length * qs.length ≤ 1000 ∧ ∀ (z : Addr) (H' : Hp), Same H H' → RatQ C H' z (sumI (meetL (gainP v) P1 P2 ps qs)) (W1 * W2 * (P1 * P2)) → Q (.ref z) H')
theorem ok_meet {C D F BN fA : Addr} {fd : FuncData} (TF : BleC K mg F) (TD : RunC K mg D) (hSF : PySem.W.selfFirst K C = true) (NE : NeC K C) (OMult : OpOwn P w K mg base 3 C (PySem.dunder (Operator.info .Mult).2) ["self", "other"] (spMul C)) {gM : Addr} (hRM : PySem.W.findIn K (.ref C) (dunderR (Operator.info .Mult).2) = some (some (.ref gM)))
    {fiM riM : Option Value} (iMult : PySem.W.findIn K (.type "int") (PySem.dunder (Operator.info .Mult).2) = some fiM) (jMult : PySem.W.findIn K (.type "int") (dunderR (Operator.info .Mult).2) = some riM) (C_check_ties : CalTies P w K mg base BN) (C_added : CalAdded P w K mg base C) (CRG : CalKW P w K mg base 6 "run_gain" ["one", "other", "ties"] (spRG C D BN)) (BIT : OwnIt P w K mg base 1 F "parts")
    (Fn : FunD K "meet" "meet" (defArgs s_meet) (defBody s_meet) (defScope s_meet) [] [("ties", .int 0)] fA fd) : FnOk P w K mg base (L2.CX P w) 7 fA fd ["one", "other", "ties"] (spMeet C D F BN) := by
  refine Fn.ok sc_meet (fun vs H Q E h => ?_) (fun cdv A outer st H vs Q E hr h => ?_)
  · obtain ⟨x, y, v, ps, qs, W1, W2, P1, P2, rfl, _⟩ := h
    rfl
  · obtain ⟨x, y, v, ps, qs, W1, W2, P1, P2, rfl, hB0, hB0', k1, k2⟩ := h
    refine ⟨_, (pss_cons (ps_expr (pe_calS C_check_ties (takes_of rfl rfl rfl rfl) (hr.mono (by decide)) (pa_cons (pv 2) pa_nil)))
      (PSs.nox (pss_cons (ps_set (i := 3) sc_meet.nd rfl (Or.inl rfl) (pe_lst pa_nil))
      (pss_cons (ps_for PassesOwn.never rfl (pi_own BIT (hr.mono (by decide)) (pv 0)) (pg_tup rfl (pgs_cons (pg_name (i := 4) sc_meet.nd rfl (Or.inl rfl)) (pgs_cons (pg_name (i := 5) sc_meet.nd rfl (Or.inl rfl)) pgs_nil))) (pss_one (ps_for PassesOwn.never rfl (pi_own BIT (hr.mono (by decide)) (pv 1)) (pg_tup rfl (pgs_cons (pg_name (i := 6) sc_meet.nd rfl (Or.inl rfl)) (pgs_cons (pg_name (i := 7) sc_meet.nd rfl (Or.inl rfl)) pgs_nil))) (pss_one (ps_expr (pe_bm PySem.F.plainAttrs_list PySem.F.slot_list_append PySem.F.type_list_append mt_append (pv 3) (pa_cons (pe_op (op_or (op_oo (op := .Mult) OMult hSF (hr.mono (by decide))) (op_oi (op := .Mult) OMult hSF hRM (.inr ⟨_, rfl⟩) iMult jMult NE.si (hr.mono (by decide)))) (pe_op (op_or (op_oo (op := .Mult) OMult hSF (hr.mono (by decide))) (op_oi (op := .Mult) OMult hSF hRM (.inr ⟨_, rfl⟩) iMult jMult NE.si (hr.mono (by decide)))) (pv 4) (pv 6)) (pe_calK1 CRG (hr.mono (by decide)) (pa_cons (pv 5) (pa_cons (pv 7) pa_nil)) (pk_cons (pv 2) pk_nil))) pa_nil)))))))
      (pss_one (ps_ret (pe_cal C_added (hr.mono (by decide)) (pa_cons (pv 3) pa_nil)))))))), ?_⟩
    refine ⟨_, rfl, v, rfl, fun hv H1 s1 => ?_, fun hv => k1 hv⟩
    obtain ⟨m1, m2, hlen, kq⟩ := k2 hv
    have bd := meet_bd m1 m2 hv hlen
    refine ⟨(by show 0 ≤ sizeLine; decide), fun l hl => ?_⟩
    have sl := same_upd (o := .lst []) hl
    obtain ⟨dx, L, hx, vs, hvs, hlen1, hall⟩ := (hB0.same s1).ex
    obtain ⟨dy, M, hy, us, hus, hlen2, hall2⟩ := (hB0'.same s1).ex
    refine ⟨_, rfl, x, dx, _, L, vs, rfl, sl _ _ hx, bf_parts _, sl _ _ hvs, for_list (K := K) (a := L) (xs := vs) (fun i σ' H' => Same H1 H' ∧ ∃ (as : List V) (o4 o5 o6 o7 : Option V), H' l = some (.lst as) ∧ GL C (W1 * W2 * (P1 * P2)) H' l as ((ps.take i).flatMap (mrow (gainP v) P1 P2 qs)) ∧ σ' = [some (.ref x), some (.ref y), some (.int v), some (.ref l), o4, o5, o6, o7])
      ⟨sl, [], none, none, none, none, upd_same, ⟨rfl, fun t n h => by simp at h⟩, rfl⟩ (fun i σ' H' _ h => SqL.of (h.1 _ _ hvs)) ?_ ?_⟩
    · rintro i a σ' H2 ha ⟨s2, as, o4, o5, o6, o7, hl2, gl, rfl⟩
      obtain ⟨p, hp⟩ := item hlen1 ha
      obtain ⟨a', ha', t, xr, r, rfl, ht, hq, hrun⟩ := hall i p hp
      rw [ha] at ha'
      cases ha'
      obtain ⟨po, psm, pcb, pnb, pdv⟩ := m1.ok p (mem_at hp)
      refine ⟨t, _, rfl, SqT.of (s2 _ _ ht), rfl, _, _, rfl, _, _, rfl, rfl, ?_⟩
      refine ⟨_, rfl, y, dy, _, M, us, rfl, s2 _ _ hy, bf_parts _, s2 _ _ hus, for_list (K := K) (a := M) (xs := us) (fun j σ' H' => Same H1 H' ∧ ∃ (as : List V) (o6 o7 : Option V), H' l = some (.lst as) ∧ GL C (W1 * W2 * (P1 * P2)) H' l as ((ps.take i).flatMap (mrow (gainP v) P1 P2 qs) ++ (mrow (gainP v) P1 P2 qs p).take j) ∧ σ' = [some (.ref x), some (.ref y), some (.int v), some (.ref l), some (.ref xr), some (.ref r), o6, o7])
        ⟨s2, as, o6, o7, hl2, by rw [List.take_zero, List.append_nil]; exact gl, rfl⟩ (fun i σ' H' _ h => SqL.of (h.1 _ _ hus)) ?_ ?_⟩
      · rintro j b σ' H3 hb ⟨s3, as, o6, o7, hl3, gl, rfl⟩
        obtain ⟨q, hqq⟩ := item hlen2 hb
        obtain ⟨b', hb', t', yr, r', rfl, ht', hq', hrun'⟩ := hall2 j q hqq
        rw [hb] at hb'
        cases hb'
        obtain ⟨qo, qsm, qcb, qnb, qdv⟩ := m2.ok q (mem_at hqq)
        refine ⟨t', _, rfl, SqT.of (s3 _ _ ht'), rfl, _, _, rfl, _, _, rfl, rfl, ?_⟩
        have w12 := Int.mul_pos m1.w m2.w
        have c12 : 0 < p.c * q.c := Int.mul_pos (by have := po.c1; omega) (by have := qo.c1; omega)
        refine ⟨_, rfl, .inl ⟨rfl, _, SqL.of hl3⟩, _, rfl, _, rfl, mul_q (hq.same s3) (.inr ⟨yr, rfl, hq'.same s3⟩) ⟨m1.w, ub pnb (by decide), ub m1.wb (by decide)⟩ ⟨m2.w, ub qnb (by decide), ub m2.wb (by decide)⟩ fun z1 H4 s4 hz1 => ?_⟩
        have s14 := s3.trans s4
        refine ⟨_, rfl, _, rfl, _, rfl, rfl, rfl, r, r', p.f, p.s, p.c, q.f, q.s, q.c, v, rfl, hrun.same s14, po, psm, hrun'.same s14, qo, qsm, fun h => absurd hv h, fun _ z2 H5 s5 hz2 => ?_⟩
        refine mul_q (hz1.same s5) (.inr ⟨z2, rfl, (show RatQ C H5 z2 (gainP v p q) (p.c * q.c) from hz2)⟩) ⟨w12, ub (wide_lt pnb qnb) (by decide), ub (wide_lt m1.wb m2.wb) (by decide)⟩ ⟨c12, ub (gainP_bd po qo hv pcb qcb) (by decide), ub (wide_lt pcb qcb) (by decide)⟩ fun z3 H6 s6 hz3 => ?_
        have s36 := (s4.trans s5).trans s6
        have hl6 := s36 _ _ hl3
        have hr3 : RatQ C H6 z3 (mnum (gainP v) P1 P2 p q) (W1 * W2 * (P1 * P2)) := by
          refine hz3.re ?_ ?_ ?_
          · exact Int.ne_of_gt (Int.mul_pos w12 c12)
          · exact Int.ne_of_gt bd.p
          · have e1 : P1 / p.c * p.c = P1 := Int.ediv_mul_cancel pdv
            have e2 : P2 / q.c * q.c = P2 := Int.ediv_mul_cancel qdv
            unfold mnum
            generalize P1 / p.c = d1 at *
            generalize P2 / q.c = d2 at *
            rw [← e1, ← e2]
            ac_rfl
        have al : as.length < sizeLine := by
          have h1 := gl.1
          rw [List.length_append, List.length_take] at h1
          have h2 : ((ps.take i).flatMap (mrow (gainP v) P1 P2 qs)).length = (ps.take i).length * qs.length := meetL_len _ _ _ _ _
          have il := (List.getElem?_eq_some_iff.mp hp).1
          have jl := (List.getElem?_eq_some_iff.mp hqq).1
          have h3 : (ps.take i).length = i := by rw [List.length_take]; omega
          have h4 : (mrow (gainP v) P1 P2 qs p).length = qs.length := List.length_map ..
          rw [h2, h3, h4] at h1
          have h5 : (i + 1) * qs.length ≤ ps.length * qs.length := Nat.mul_le_mul_right _ il
          rw [Nat.succ_mul] at h5
          exact small1000 (by omega)
        refine ⟨l, as, _, rfl, rfl, hl6, al, ?_⟩
        refine ⟨same_lateM (s3.trans s36) hl, _, _, _, upd_same, ?_, rfl⟩
        rw [mrow_snoc hqq, ← List.append_assoc]
        exact (gl.same s36).snoc (.inr ⟨z3, rfl, hr3.wo hl6⟩)
      · rintro σ' H3 ⟨s3, as, o6, o7, hl3, gl, rfl⟩
        refine ⟨s3, as, _, _, _, _, hl3, ?_, rfl⟩
        rw [flat_snoc hp]
        have e : us.length = (mrow (gainP v) P1 P2 qs p).length := by unfold mrow; rw [List.length_map]; exact hlen2
        rw [e, List.take_length] at gl
        exact gl
    · rintro σ' H2 ⟨s2, as, o4, o5, o6, o7, hl2, gl, rfl⟩
      rw [hlen1, List.take_length] at gl
      exact ⟨_, rfl, l, _, _, rfl, gl.lat hl2, bd, fun z H3 s3 hz => kq z H3 ((s1.trans s2).trans s3) hz⟩
end
end L

set_option Elab.async false
set_option linter.all false
set_option maxRecDepth 100000
set_option maxHeartbeats 4000000
set_option pp.maxSteps 160
set_option pp.deepTerms false
namespace L
open PySem PySem.Spec PyProof.Rows L2 Fl
local macro_rules | `(tactic| walk_at "side") => `(tactic| first | (exact .inl ⟨by omega, by omega⟩) | (exact .inr ⟨by omega, by omega⟩) | (exact .inr ⟨by decide, by decide⟩) | (show (_ : Int) ≠ _; omega) | (exact ⟨by omega, by decide⟩) | (exact ⟨by decide, by decide, by decide⟩))
local macro_rules | `(tactic| walk_at "go") => `(tactic| repeat (first | refine ⟨_, rfl, ?_⟩ | refine ⟨_, _, rfl, rfl, ?_⟩ | refine .inl ⟨_, rfl, ?_⟩ | refine ⟨rfl, ?_⟩ | refine ⟨(by walk_at "side"), ?_⟩))
local macro_rules | `(tactic| walk_at "see") => `(tactic| (set_option pp.maxSteps 110 in set_option pp.deepTerms false in trace_state))
local macro_rules | `(tactic| walk_at "if") => `(tactic| first | refine ifE ?_ ?_ | refine ifNE ?_ ?_ | refine ifD ?_ ?_ | refine ifN ?_ ?_ | refine ifB ?_ ?_)
open Bx
section
variable {P : Program} {w : World} {K : PySem.W.Frag} {mg : Str → Option Value} {base : Heap}
def Row (H : Hp) (t : Addr) (f s c : Int) : Prop := H t = some (.tup [.int f, .int s, .int c])
theorem Row.ne_pool {H : Hp} {t : Addr} {p : Pla} {f s c : Int} (h : Row H t f s c) (hp : Pool H p) : t ≠ p := by
  obtain ⟨ns, i, b, c, d, h1, _⟩ := hp
  exact ne_of h h1 (by intro z; cases z)
theorem Row.keep {H H' : Hp} {t p : Addr} {f s c : Int} (h : Row H t f s c) (k : Keeps H H' p) (n : t ≠ p) : Row H' t f s c := k _ _ h n
structure RowOk (f s c : Int) : Prop where
  ok : RunOk f s c
  fb : f < 2 ^ 212
  cb : c ≤ 10 ^ 60
  one : c = 1 → s = 1
def spGR : Sp := fun vs H Q _ => ∃ (p : Pla), vs = [.ref p] ∧ Pool H p ∧ ∀ (t : Addr) (f s c : Int) (H' : Hp), Pool H' p → Keeps H H' p → H t = none → Row H' t f s c → RowOk f s c → f < 10 ^ 60 → Q (.ref t) H'
abbrev CalGR (P : Program) (w : World) (K : PySem.W.Frag) (mg : Str → Option Value) (base : Heap) := Cal P w K mg base 5 "_law_great_run" ["_law_pool_here"] spGR
theorem ok_great_run (B : Blt mg) (D : Dfn K mg "_law_great_run" "_law_great_run" s_great_run ["_law_pool_here"]) (C_draw : CalDraw P w K mg base) (C_any : CalAny P w K mg base) : CalGR P w K mg base := by
  refine D.cal sc_great_run (fun vs H Q E h => ?_) (fun f cdv A outer st H vs Q E hr h => ?_)
  · obtain ⟨p, rfl, _⟩ := h
    rfl
  · obtain ⟨p, rfl, hP, k⟩ := h
    refine ⟨_, (pss_cons (ps_set (i := 1) sc_great_run.nd rfl (Or.inl rfl) (pe_cal C_draw (hr.mono (by decide)) (pa_cons (pv 0) (pa_cons (pe_int) pa_nil))))
      (pss_cons (ps_set (i := 2) sc_great_run.nd rfl (Or.inl rfl) (pe_op op_add (pe_int) (pe_cal C_draw (hr.mono (by decide)) (pa_cons (pv 0) (pa_cons (pe_int) pa_nil)))))
      (Evl.pss_cut (ps_if (pt_cmpR op_eq (pe_cal C_draw (hr.mono (by decide)) (pa_cons (pv 0) (pa_cons (pe_int) pa_nil))) (pe_int) (nomark _)) (pss_one (ps_set (i := 1) sc_great_run.nd rfl (Or.inl rfl) (pe_cal C_any (hr.mono (by decide)) (pa_cons (pv 0) pa_nil)))) pss_nil)
      (Evl.pss_cut (ps_if (pt_cmpR op_eq (pe_cal C_draw (hr.mono (by decide)) (pa_cons (pv 0) (pa_cons (pe_int) pa_nil))) (pe_int) (nomark _)) (pss_one (ps_set (i := 2) sc_great_run.nd rfl (Or.inl rfl) (pe_op op_add (pe_int) (pe_cal C_any (hr.mono (by decide)) (pa_cons (pv 0) pa_nil))))) pss_nil)
      (pss_cons (ps_set (i := 3) sc_great_run.nd rfl (Or.inl rfl) (pe_op op_add (pe_int) (pe_cal C_draw (hr.mono (by decide)) (pa_cons (pv 0) (pa_cons (pe_int) pa_nil)))))
      (Evl.pss_cut (ps_if (pt_cmpR op_eq (pv 2) (pe_int) (nomark _)) (pss_one (ps_set (i := 3) sc_great_run.nd rfl (Or.inl rfl) (pe_int))) pss_nil)
      (pss_one (ps_ret (pe_tup (pa_cons (pv 1) (pa_cons (pv 3) (pa_cons (pv 2) pa_nil)))))))))))), ?_⟩
    refine ⟨_, rfl, p, 9, rfl, hP, by decide, by decide, fun f0 Ha fa fb hPa ka => ?_⟩
    refine ⟨_, rfl, p, 7, rfl, hPa, by decide, by decide, fun c0 Hb ca cb hPb kb => ?_⟩
    refine ⟨_, _, rfl, rfl, ?_⟩
    refine ⟨fun σ' H' => ∃ f : Int, σ' = [some (.ref (p : Addr)), some (.int f), some (.int (1 + c0)), none] ∧ 0 ≤ f ∧ f < 10 ^ 60 ∧ Pool H' p ∧ Keeps H H' p, ?_, ?_⟩
    · refine ⟨_, rfl, p, 2, rfl, hPb, by decide, by decide, fun r Hc r0 r1 hPc kc => ?_⟩
      walk_at "go"
      walk_at "if"
      · intro _
        refine ⟨_, rfl, p, rfl, hPc, fun f Hd f0 f1 hPd kd => ?_⟩
        exact ⟨f, rfl, f0, f1, hPd, ((ka.trans kb).trans kc).trans kd⟩
      · intro _
        exact ⟨f0, rfl, fa, by omega, hPc, (ka.trans kb).trans kc⟩
    rintro σ' H1 ⟨f, rfl, f0, f1, hP1, k1⟩
    refine ⟨fun σ' H' => ∃ c : Int, σ' = [some (.ref (p : Addr)), some (.int f), some (.int c), none] ∧ 1 ≤ c ∧ c ≤ 10 ^ 60 ∧ Pool H' p ∧ Keeps H H' p, ?_, ?_⟩
    · refine ⟨_, rfl, p, 2, rfl, hP1, by decide, by decide, fun r Hc r0 r1 hPc kc => ?_⟩
      walk_at "go"
      walk_at "if"
      · intro _
        refine ⟨_, rfl, p, rfl, hPc, fun c Hd c0 c1 hPd kd => ?_⟩
        exact ⟨_, _, rfl, rfl, 1 + c, rfl, by omega, by omega, hPd, (k1.trans kc).trans kd⟩
      · intro _
        exact ⟨1 + c0, rfl, by omega, by omega, hPc, k1.trans kc⟩
    rintro σ' H2 ⟨c, rfl, c1, c2, hP2, k2⟩
    refine ⟨_, rfl, p, 4, rfl, hP2, by decide, by decide, fun s H3 s0 s1 hP3 k3 => ?_⟩
    refine ⟨_, _, rfl, rfl, ?_⟩
    refine ⟨fun σ' H' => ∃ s : Int, σ' = [some (.ref (p : Addr)), some (.int f), some (.int c), some (.int s)] ∧ 1 ≤ s ∧ s ≤ 4 ∧ (c = 1 → s = 1) ∧ H' = H3, ?_, ?_⟩
    · walk_at "go"
      walk_at "if"
      · intro hc
        exact ⟨1, rfl, by decide, by decide, fun _ => rfl, rfl⟩
      · intro hc
        exact ⟨1 + s, rfl, by omega, by omega, fun h => absurd h hc, rfl⟩
    rintro σ' H4 ⟨s, rfl, s1, s4, hs, rfl⟩
    refine ⟨_, rfl, _, rfl, _, rfl, (by show 3 ≤ sizeLine; decide), fun t ht => ?_⟩
    have ht0 : H t = none := (k2.trans k3).free ht (hP3.apart ht).1
    exact k t f s c _ (hP3.upd ht) ((k2.trans k3).trans (same_keeps (same_upd ht))) ht0 upd_same ⟨⟨f0, s1, s4, c1⟩, by omega, c2, hs⟩ f1
def spLastRow : Sp := fun vs H Q _ => ∃ (t : Addr) (f s c : Int), vs = [.ref t] ∧ Row H t f s c ∧ RowOk f s c ∧ Q (.int (f + s * (c - 1))) H
abbrev CalLastRow (P : Program) (w : World) (K : PySem.W.Frag) (mg : Str → Option Value) (base : Heap) := Cal P w K mg base 1 "_law_last" ["_law_row"] spLastRow
theorem ok_last_row (D : Dfn K mg "_law_last" "_law_last" s_last ["_law_row"]) : CalLastRow P w K mg base := by
  refine D.cal sc_last (fun vs H Q E h => ?_) (fun f cdv A outer st H vs Q E hr h => ?_)
  · obtain ⟨t, f, s, c, rfl, _⟩ := h
    rfl
  · obtain ⟨t, f, s, c, rfl, ht, ok, q⟩ := h
    have := ok.ok.s1
    have := ok.ok.s4
    refine ⟨_, (pss_one (ps_ret (pe_op op_add (pe_ix ix_tup (pv 0) (pe_int) (fun _ _ => rfl)) (pe_op op_mul (pe_ix ix_tup (pv 0) (pe_int) (fun _ _ => rfl)) (pe_op op_sub (pe_ix ix_tup (pv 0) (pe_int) (fun _ _ => rfl)) (pe_int)))))), ?_⟩
    refine ⟨_, rfl, _, _, _, _, rfl, rfl, SqT.of ht, rfl, ?_⟩
    refine ⟨_, rfl, _, _, _, _, rfl, rfl, SqT.of ht, rfl, ?_⟩
    refine ⟨_, rfl, _, _, _, _, rfl, rfl, SqT.of ht, rfl, ?_⟩
    exact ⟨_, _, rfl, rfl, _, _, rfl, rfl, .inl ⟨by omega, by omega⟩, _, _, rfl, rfl, q⟩
theorem near_ix {r : Int} (h0 : 0 ≤ r) (h1 : r < 4) : ∃ M : Int, atI [V.int 0, V.int 1, V.int 2, V.int (-1)] r = some (V.int M) ∧ -1 ≤ M ∧ M ≤ 2 := by
  have : r = 0 ∨ r = 1 ∨ r = 2 ∨ r = 3 := by omega
  rcases this with rfl | rfl | rfl | rfl
  · exact ⟨0, rfl, by omega, by omega⟩
  · exact ⟨1, rfl, by omega, by omega⟩
  · exact ⟨2, rfl, by omega, by omega⟩
  · exact ⟨-1, rfl, by omega, by omega⟩
def spBeside : Sp := fun vs H Q _ => ∃ (p : Pla) (t : Addr) (f s c : Int), vs = [.ref p, .ref t] ∧ Pool H p ∧ Row H t f s c ∧ RowOk f s c ∧ f < 10 ^ 60 ∧ ∀ (k : Int) (H' : Hp), k.natAbs < 2 ^ 210 → Pool H' p → Keeps H H' p → Q (.int k) H'
abbrev CalBeside (P : Program) (w : World) (K : PySem.W.Frag) (mg : Str → Option Value) (base : Heap) := Cal P w K mg base 6 "_law_beside" ["_law_pool_here", "_law_row"] spBeside
theorem ok_beside (B : Blt mg) (D : Dfn K mg "_law_beside" "_law_beside" s_beside ["_law_pool_here", "_law_row"]) (C_draw : CalDraw P w K mg base) (C_any : CalAny P w K mg base) (C_last : CalLastRow P w K mg base) : CalBeside P w K mg base := by
  refine D.cal sc_beside (fun vs H Q E h => ?_) (fun f cdv A outer st H vs Q E hr h => ?_)
  · obtain ⟨p, t, f, s, c, rfl, _⟩ := h
    rfl
  · obtain ⟨p, t, f, s, c, rfl, hP, ht, ok, flow, k⟩ := h
    have := ok.ok.s1
    have := ok.ok.s4
    have := ok.ok.c1
    have := ok.ok.f0
    have := ok.fb
    have := ok.cb
    have lb : 0 ≤ s * (c - 1) ∧ s * (c - 1) ≤ 4 * 10 ^ 60 := by
      rcases s_cases ok.ok with rfl | rfl | rfl | rfl <;> omega
    have tp := ht.ne_pool hP
    refine ⟨_, (pss_cons (ps_set (i := 2) sc_beside.nd rfl (Or.inl rfl) (pe_cal C_draw (hr.mono (by decide)) (pa_cons (pv 0) (pa_cons (pe_int) pa_nil))))
      (pss_cons (ps_if (pt_cmpR op_eq (pv 2) (pe_int) (nomark _)) (pss_one (ps_ret (pe_op op_add (pe_ix ix_tup (pv 1) (pe_int) (fun _ _ => rfl)) (pe_ix ix_tup (pe_tup (pa_cons (pe_int) (pa_cons (pe_int) (pa_cons (pe_int) (pa_cons (pe_un un_neg (pe_int)) pa_nil))))) (pe_cal C_draw (hr.mono (by decide)) (pa_cons (pv 0) (pa_cons (pe_int) pa_nil))) (fun _ _ => rfl))))) pss_nil)
      (pss_cons (ps_if (pt_cmpR op_eq (pv 2) (pe_int) (nomark _)) (pss_one (ps_ret (pe_op op_add (pe_cal C_last (hr.mono (by decide)) (pa_cons (pv 1) pa_nil)) (pe_ix ix_tup (pe_tup (pa_cons (pe_int) (pa_cons (pe_int) (pa_cons (pe_int) (pa_cons (pe_un un_neg (pe_int)) pa_nil))))) (pe_cal C_draw (hr.mono (by decide)) (pa_cons (pv 0) (pa_cons (pe_int) pa_nil))) (fun _ _ => rfl))))) pss_nil)
      (pss_cons (ps_if (pt_cmpR op_eq (pv 2) (pe_int) (nomark _)) (pss_one (ps_ret (pe_cal C_any (hr.mono (by decide)) (pa_cons (pv 0) pa_nil)))) pss_nil)
      (pss_cons (ps_if (pt_cmpR op_eq (pv 2) (pe_int) (nomark _)) (pss_one (ps_ret (pe_op op_sub (pe_un un_neg (pe_int)) (pe_cal C_any (hr.mono (by decide)) (pa_cons (pv 0) pa_nil))))) pss_nil)
      (pss_one (ps_ret (pe_op op_add (pe_ix ix_tup (pv 1) (pe_int) (fun _ _ => rfl)) (pe_op op_modN (pe_callTy call_int1 (by rfl) B.int (by decide +kernel) (pa_cons (pe_cal C_any (hr.mono (by decide)) (pa_cons (pv 0) pa_nil)) pa_nil)) (pe_op op_add (pe_op op_sub (pe_cal C_last (hr.mono (by decide)) (pa_cons (pv 1) pa_nil)) (pe_ix ix_tup (pv 1) (pe_int) (fun _ _ => rfl))) (pe_int))))))))))), ?_⟩
    refine ⟨_, rfl, p, 5, rfl, hP, by decide, by decide, fun r H1 r0 r1 hP1 k1 => ?_⟩
    have ht1 := ht.keep k1 tp
    walk_at "go"
    walk_at "if"
    · intro _
      refine ⟨_, rfl, _, _, _, _, rfl, rfl, SqT.of ht1, rfl, ?_⟩
      walk_at "go"
      refine ⟨(by show 4 ≤ sizeLine; decide), fun u hu => ?_⟩
      refine ⟨_, rfl, p, 4, rfl, hP1.upd hu, by decide, by decide, fun r H2 r0 r1 hP2 k2 => ?_⟩
      obtain ⟨M, eM, M1, M2⟩ := near_ix r0 r1
      have hu2 := k2 _ _ upd_same ((hP1.apart hu).1)
      refine ⟨_, _, _, _, rfl, rfl, SqT.of hu2, eM, ?_⟩
      exact ⟨_, _, rfl, rfl, k _ _ (by omega) hP2 ((k1.trans (same_keeps (same_upd hu))).trans k2)⟩
    intro _
    walk_at "go"
    walk_at "if"
    · intro _
      refine ⟨_, rfl, t, f, s, c, rfl, ht1, ok, ?_⟩
      walk_at "go"
      refine ⟨(by show 4 ≤ sizeLine; decide), fun u hu => ?_⟩
      refine ⟨_, rfl, p, 4, rfl, hP1.upd hu, by decide, by decide, fun r H2 r0 r1 hP2 k2 => ?_⟩
      obtain ⟨M, eM, M1, M2⟩ := near_ix r0 r1
      have hu2 := k2 _ _ upd_same ((hP1.apart hu).1)
      refine ⟨_, _, _, _, rfl, rfl, SqT.of hu2, eM, ?_⟩
      exact ⟨_, _, rfl, rfl, k _ _ (by omega) hP2 ((k1.trans (same_keeps (same_upd hu))).trans k2)⟩
    intro _
    walk_at "go"
    walk_at "if"
    · intro _
      exact ⟨_, rfl, p, rfl, hP1, fun x H2 x0 x1 hP2 k2 => k _ _ (by omega) hP2 (k1.trans k2)⟩
    intro _
    walk_at "go"
    walk_at "if"
    · intro _
      exact ⟨_, rfl, _, rfl, p, rfl, hP1, fun x H2 x0 x1 hP2 k2 => ⟨_, _, rfl, rfl, k _ _ (by omega) hP2 (k1.trans k2)⟩⟩
    intro _
    refine ⟨_, rfl, _, _, _, _, rfl, rfl, SqT.of ht1, rfl, ?_⟩
    refine ⟨_, rfl, p, rfl, hP1, fun x H2 x0 x1 hP2 k2 => ?_⟩
    have ht2 := ht1.keep k2 tp
    refine .inl ⟨_, rfl, ?_⟩
    refine ⟨_, rfl, t, f, s, c, rfl, ht2, ok, ?_⟩
    refine ⟨_, rfl, _, _, _, _, rfl, rfl, SqT.of ht2, rfl, ?_⟩
    refine ⟨_, _, rfl, rfl, _, _, rfl, rfl, ?_⟩
    have hd : (0 : Int) < f + s * (c - 1) - f + 2 := by omega
    have bm := fm x hd
    refine ⟨_, _, rfl, rfl, (show f + s * (c - 1) - f + 2 ≠ 0 by omega), ?_⟩
    exact ⟨_, _, rfl, rfl, k _ _ (by omega) hP2 (k1.trans k2)⟩
def spHeld (D : Addr) : Sp := fun vs H Q _ => ∃ (x t : Addr) (f s c : Int), vs = [.ref x, .ref t] ∧ RunAt D H x f s c ∧ Row H t f s c ∧ ∀ H', Same H H' → Q (.bl true) H'
abbrev CalHeld (P : Program) (w : World) (K : PySem.W.Frag) (mg : Str → Option Value) (base : Heap) (D : Addr) := Cal P w K mg base 3 "_law_held" ["_law_run", "_law_row"] (spHeld D)
theorem ok_held {D : Addr} (B : Blt mg) (T : RunC K mg D) (Df : Dfn K mg "_law_held" "_law_held" s_held ["_law_run", "_law_row"]) (C_whole : CalWhole P w K mg base) : CalHeld P w K mg base D := by
  refine Df.cal sc_held (fun vs H Q E h => ?_) (fun f cdv A outer st H vs Q E hr h => ?_)
  · obtain ⟨x, t, f, s, c, rfl, _⟩ := h
    rfl
  · obtain ⟨x, t, f, s, c, rfl, ⟨dx, hx⟩, ht, q⟩ := h
    refine ⟨_, (pss_cons (ps_if (PW.pt (pw_or (pt_not (pt_val (pe_callB call_isi (by rfl) B.isinstance (by decide +kernel) (pa_cons (pv 0) (pa_cons (pe_glob (v := .ref _) (by rfl) T.g rfl) pa_nil))))) (pw_or (pt_not (pt_val (pe_cal C_whole (hr.mono (by decide)) (pa_cons (pe_fld (pv 0) rfl) pa_nil)))) (pw_or1 (pt_not (pt_val (pe_cal C_whole (hr.mono (by decide)) (pa_cons (pe_fld (pv 0) rfl) pa_nil)))))))) (pss_one (ps_ret (pe_bl))) pss_nil)
      (pss_one (ps_ret ((pe_and (pe_cal C_whole (hr.mono (by decide)) (pa_cons (pe_fld (pv 0) rfl) pa_nil)) (pe_one (pe_cmpR (op_eqD hr.units) (pe_tup (pa_cons (pe_fld (pv 0) rfl) (pa_cons (pe_fld (pv 0) rfl) (pa_cons (pe_fld (pv 0) rfl) pa_nil)))) (pv 1) (nomark _)))))))), ?_⟩
    refine ⟨_, rfl, _, _, _, _, true, rfl, .own _, T.tyX hx, kit_self _, _, rfl, iteF ?_⟩
    refine ⟨_, rfl, x, D, dx, _, _, rfl, hx, T.cl, T.nF, gf_first _ _ _, _, rfl, _, rfl, iteF ?_⟩
    refine ⟨_, rfl, x, D, dx, _, _, rfl, hx, T.cl, T.nS, gf_step _ _ _, _, rfl, _, rfl, iteF ?_⟩
    refine ⟨_, rfl, x, D, dx, _, _, rfl, hx, T.cl, T.nC, gf_count _ _ _, _, rfl, _, rfl, iteT ?_⟩
    refine ⟨_, rfl, x, D, dx, _, _, rfl, hx, T.cl, T.nF, gf_first _ _ _, ?_⟩
    refine ⟨_, rfl, x, D, dx, _, _, rfl, hx, T.cl, T.nS, gf_step _ _ _, ?_⟩
    refine ⟨_, rfl, x, D, dx, _, _, rfl, hx, T.cl, T.nC, gf_count _ _ _, ?_⟩
    refine ⟨(by show 3 ≤ sizeLine; decide), fun u hu => ?_⟩
    refine ⟨_, rfl, .tuple [.int f, .int s, .int c], .tuple [.int f, .int s, .int c], .tup (SqT.of upd_same) (.cons (.int _) (.cons (.int _) (.cons (.int _) .nil))), .tup (SqT.of (same_upd hu _ _ ht)) (.cons (.int _) (.cons (.int _) (.cons (.int _) .nil))), rfl, rfl, ?_⟩
    rw [SeqAt.eqv_refl _ rfl]
    exact q _ (same_upd hu)
end

/-! ### the law's rows -/
def RowP (H : Hp) (v : V) (p : Pt) : Prop := ∃ t r, v = .ref t ∧ H t = some (.tup [.int p.n, .ref r]) ∧ Row H r p.f p.s p.c
theorem rowP_mono : Mono RowP := fun _ _ _ _ k ⟨t, r, e, h1, h2⟩ => ⟨t, r, e, k _ _ h1, k _ _ h2⟩
structure POk (p : Pt) : Prop where
  n1 : 1 ≤ p.n
  nb : p.n ≤ 10 ^ 60
  ok : RowOk p.f p.s p.c
def cprod : List Pt → Int
  | [] => 1
  | p :: r => p.c * cprod r
structure PsOk (ps : List Pt) : Prop where
  l1 : 0 < ps.length
  l64 : ps.length ≤ 64
  ok : ∀ p ∈ ps, POk p
  nd : ∀ (i j : Nat) (p q : Pt), ps[i]? = some p → ps[j]? = some q → sameRun p q = true → i = j
  pc : (cprod ps).natAbs < 2 ^ 1300
def wsum (ps : List Pt) : Int := sumI (ps.map Pt.n)
theorem sumI_eq : ∀ ns : List Int, ns.sum = sumI ns
  | [] => rfl
  | n :: r => by
    show n + r.sum = n + sumI r
    rw [sumI_eq r]
theorem POk.nlt {p : Pt} (h : POk p) : p.n.natAbs < 2 ^ 200 := by
  have := h.n1
  have := h.nb
  omega
theorem wsum_bd {ps : List Pt} (h : PsOk ps) : (wsum ps).natAbs < 2 ^ 210 := by
  have e := sumI_bd (b := 200) (ns := ps.map Pt.n) fun n hn => by
    obtain ⟨p, hp, rfl⟩ := List.mem_map.mp hn
    exact (h.ok p hp).nlt
  rw [List.length_map] at e
  have l := h.l64
  have : ps.length * 2 ^ 200 ≤ 64 * 2 ^ 200 := Nat.mul_le_mul_right _ l
  have k : 64 * 2 ^ 200 < 2 ^ 210 := by decide
  show (sumI (ps.map Pt.n)).natAbs < _
  omega
theorem sumI_nn : ∀ {ns : List Int}, (∀ n ∈ ns, 0 ≤ n) → 0 ≤ sumI ns
  | [], _ => by show (0 : Int) ≤ 0; omega
  | n :: r, h => by
    have := h n (List.mem_cons_self ..)
    have := sumI_nn (ns := r) fun m hm => h m (List.mem_cons_of_mem _ hm)
    show 0 ≤ n + sumI r
    omega
theorem wsum_pos {ps : List Pt} (h : PsOk ps) : 0 < wsum ps := by
  have l := h.l1
  cases ps with
  | nil => simp at l
  | cons p r =>
    have h1 := (h.ok p (List.mem_cons_self ..)).n1
    have h2 : 0 ≤ sumI (r.map Pt.n) := sumI_nn fun n hn => by
      obtain ⟨q, hq, rfl⟩ := List.mem_map.mp hn
      have := (h.ok q (List.mem_cons_of_mem _ hq)).n1
      omega
    show 0 < p.n + sumI (r.map Pt.n)
    omega
theorem noNeg {ps : List Pt} (h : PsOk ps) : anyNeg (ps.map Pt.n) = false := by
  unfold anyNeg
  rw [Bool.eq_false_iff]
  intro z
  rw [List.any_eq_true] at z
  obtain ⟨b, hb, e⟩ := z
  obtain ⟨n, hn, rfl⟩ := List.mem_map.mp hb
  obtain ⟨p, hp, rfl⟩ := List.mem_map.mp hn
  have := (h.ok p hp).n1
  have e2 : decide (p.n < 0) = true := e
  rw [decide_eq_true_iff] at e2
  omega
theorem ps_bd {ps : List Pt} (h : PsOk ps) : Bd (ps.map Pt.n) (wsum ps) := ⟨wsum_pos h, ub (wsum_bd h) (by decide), fun n hn => by
  obtain ⟨p, hp, rfl⟩ := List.mem_map.mp hn
  exact ub (h.ok p hp).nlt (by decide), by rw [List.length_map]; have := h.l64; omega⟩
/-- unlike runs stay as they are -/
theorem tog_self : ∀ {ps : List Pt} (_ : ∀ p ∈ ps, POk p) (_ : ∀ (i j : Nat) (p q : Pt), ps[i]? = some p → ps[j]? = some q → sameRun p q = true → i = j) (i : Nat), tog (ps.take i) = ps.take i
  | ps, ok, nd, 0 => rfl
  | ps, ok, nd, i + 1 => by
    cases h : ps[i]? with
    | none =>
      rw [List.getElem?_eq_none_iff] at h
      rw [List.take_of_length_le (show ps.length ≤ i + 1 by omega)]
      have := tog_self ok nd i
      rw [List.take_of_length_le h] at this
      exact this
    | some p =>
      rw [tog_snoc h, tog_self ok nd i, take_snoc h]
      unfold tog1
      have n1 := (ok p (mem_at h)).n1
      rw [if_neg (by omega), if_neg]
      intro z
      obtain ⟨j, q, hj, e⟩ := any_at z
      have jl : j < i := by
        have := (List.getElem?_eq_some_iff.mp hj).1
        rw [List.length_take] at this
        omega
      rw [List.getElem?_take, if_pos jl] at hj
      have := nd j i q p hj h e
      omega
theorem tog_id {ps : List Pt} (h : PsOk ps) : tog ps = ps := by
  have := tog_self h.ok h.nd ps.length
  rw [List.take_length] at this
  exact this
section
variable {P : Program} {w : World} {K : PySem.W.Frag} {mg : Str → Option Value} {base : Heap}

def spWeights : Sp := fun vs H Q _ => ∃ (L : Addr) (ps : List Pt), vs = [.ref L] ∧ LAt RowP H L ps ∧ ps.length ≤ 64 ∧ ∀ H', Same H H' → Q (.int (wsum ps)) H'
abbrev CalWeights (P : Program) (w : World) (K : PySem.W.Frag) (mg : Str → Option Value) (base : Heap) := Cal P w K mg base 1 "_law_weights" ["_law_parts_here"] spWeights
theorem ok_weights (B : Blt mg) (Df : Dfn K mg "_law_weights" "_law_weights" s_weights ["_law_parts_here"]) : CalWeights P w K mg base := by
  refine Df.cal sc_weights (fun vs H Q E h => ?_) (fun fA cdv A outer st H vs Q E hr h => ?_)
  · obtain ⟨L, ps, rfl, _⟩ := h
    rfl
  · obtain ⟨L, ps, rfl, ⟨vs, hvs, hlen, hall⟩, l64, q⟩ := h
    refine ⟨_, (pss_one (ps_ret (pe_callB (cr_sum rfl) (by rfl) B.sum (by decide +kernel) (pa_cons (pe_lc (own := [("_law_part", 1)]) (g := gName 1) rfl sc_weights.nd (pi_list (pv 0)) (blkOk_by (N := ["_law_parts_here", "_law_part"]) (sc := defScope s_weights) (by decide +kernel)) (fun _ _ _ _ _ => pg_name (i := 1) sc_weights.nd rfl (Or.inl rfl)) (fun _ _ _ _ _ => pts_nil) (fun _ _ _ _ _ => (pe_ix (show IxR _ (rIxT K) from ix_tup) (pv 1) (pe_int) (fun _ _ => rfl)))) pa_nil)))), ?_⟩
    refine ⟨_, rfl, L, rfl, ⟨_, SqL.of hvs⟩, fun D1 hD1 => lc_build (xs := vs) (fun _ v (b : Int) => v = V.int b) (ps.map Pt.n) (fun _ _ _ _ _ h => h) hD1 (by rw [List.length_map]; exact hlen) (SqL.of hvs) (by rw [List.length_map]; omega) ?_ ?_⟩
    · rintro i y n H2 Kc Ke hy hn s ⟨acc, hacc⟩ kk
      obtain ⟨p, hp⟩ := item hlen hy
      rw [List.getElem?_map, hp] at hn
      cases hn
      obtain ⟨y', hy', t, r, rfl, ht, hrow⟩ := hall i p hp
      rw [hy] at hy'
      cases hy'
      refine ⟨rfl, ?_⟩
      exact ⟨_, rfl, _, _, _, _, rfl, rfl, SqT.of (s _ _ ht), rfl, kk _ H2 (Same.refl _) rfl⟩
    intro H2 s2 hS
    refine ⟨D1, ps.map Pt.n, rfl, SqL.of (hS.map fun v x e => e), ?_⟩
    rw [sumI_eq]
    exact q H2 s2
def spBlendL (C D F : Addr) : Sp := fun vs H Q _ => ∃ (L : Addr) (ps : List Pt), vs = [.ref L] ∧ LAt RowP H L ps ∧ PsOk ps ∧ ∀ (x k : Addr) (H' : Hp), Same H H' → H k = none → (∃ dx, H' x = some (.ins F dx (bf (.ref k)))) → LAt (OutP C D (wsum ps)) H' k ps → Q (.ref x) H'
abbrev CalBlendL (P : Program) (w : World) (K : PySem.W.Frag) (mg : Str → Option Value) (base : Heap) (C D F : Addr) := Cal P w K mg base 8 "_law_blend" ["_law_parts_here"] (spBlendL C D F)
theorem new2 {C x dx : Addr} {fs : List (Str × V)} {H : Hp} (nx : H x = none) (nd : H dx = none) (ne : dx ≠ x) : Same H (upd (upd H dx (.own x)) x (.ins C dx fs)) := (same_upd nd).trans (same_upd (by rw [upd_ne ne.symm]; exact nx))
theorem none_of_same {H H' : Hp} {k : Addr} (s : Same H H') (h : H' k = none) : H k = none := by
  cases e : H k with
  | none => rfl
  | some o => rw [s _ _ e] at h; cases h
theorem ok_blendL {C D F BS BN ZU : Addr} (B : Blt mg) (C_weights : CalWeights P w K mg base) (M2 : CalRatio P w K mg base C ZU []) (MR : CalRun P w K mg base D BN) (MB : CalBlend P w K mg base C D F BS) (Df : Dfn K mg "_law_blend" "_law_blend" s_blend ["_law_parts_here"]) : CalBlendL P w K mg base C D F := by
  refine Df.cal sc_blend (fun vs H Q E h => ?_) (fun fA cdv A outer st H vs Q E hr h => ?_)
  · obtain ⟨L, ps, rfl, _⟩ := h
    rfl
  · obtain ⟨L, ps, rfl, hL, pk, q⟩ := h
    have l64 := pk.l64
    refine ⟨_, (pss_cons (ps_set (i := 1) sc_blend.nd rfl (Or.inr rfl) (pe_cal C_weights (hr.mono (by decide)) (pa_cons (pv 0) pa_nil)))
      (pss_one (ps_ret (pe_mk MB (hr.mono (by decide)) (pa_cons (pe_lc (own := [("_law_part", 2)]) (g := gName 2) rfl sc_blend.nd (pi_list (pv 0)) (blkOk_by (N := ["_law_parts_here", "_law_total", "_law_part"]) (sc := defScope s_blend) (by decide +kernel)) (fun _ _ _ _ _ => pg_name (i := 2) sc_blend.nd rfl (Or.inl rfl)) (fun _ _ _ _ _ => pts_nil) (fun _ _ _ _ _ => (pe_tup (pa_cons (pe_mk M2 (hr.mono (by decide)) (pa_cons (pe_ix (show IxR _ (rIxT K) from ix_tup) (pv 2) (pe_int) (fun _ _ => rfl)) (pa_cons (pv 1) pa_nil))) (pa_cons (pe_mk MR (hr.mono (by decide)) (pa_cons (pe_ix (show IxR _ (rIxT K) from ix_tup) (pe_ix (show IxR _ (rIxT K) from ix_tup) (pv 2) (pe_int) (fun _ _ => rfl)) (pe_int) (fun _ _ => rfl)) (pa_cons (pe_ix (show IxR _ (rIxT K) from ix_tup) (pe_ix (show IxR _ (rIxT K) from ix_tup) (pv 2) (pe_int) (fun _ _ => rfl)) (pe_int) (fun _ _ => rfl)) (pa_cons (pe_ix (show IxR _ (rIxT K) from ix_tup) (pe_ix (show IxR _ (rIxT K) from ix_tup) (pv 2) (pe_int) (fun _ _ => rfl)) (pe_int) (fun _ _ => rfl)) pa_nil)))) pa_nil))))) pa_nil))))), ?_⟩
    refine ⟨_, rfl, L, ps, rfl, hL, l64, fun H0 s0 => ?_⟩
    obtain ⟨vs, hvs, hlen, hall⟩ := hL.same rowP_mono s0
    have W0 := wsum_pos pk
    refine ⟨_, rfl, L, rfl, ⟨_, SqL.of hvs⟩, fun D1 hD1 => lc_build (xs := vs) (InP C D (wsum ps)) ps (inP_mono C D _) hD1 hlen (SqL.of hvs) (by omega) ?_ ?_⟩
    · rintro i y p H2 Kc Ke hy hp s ⟨acc, hacc⟩ kk
      obtain ⟨y', hy', t, r, rfl, ht, hrow⟩ := hall i p hp
      rw [hy] at hy'
      cases hy'
      have po := pk.ok p (mem_at hp)
      refine ⟨rfl, ?_⟩
      refine ⟨_, rfl, _, _, _, _, rfl, rfl, SqT.of (s _ _ ht), rfl, _, rfl, fun x dx nx nd ne => ⟨x, dx, p.n, wsum ps, rfl, upd_same, ub (wsum_bd pk) (by decide), fun _ H3 h3 k3 => ⟨rfl, ?_⟩, fun h => absurd h (by omega)⟩⟩
      have s3 := made nx nd k3
      have ht3 := s3 _ _ (s _ _ ht)
      have hr3 : H3 r = some (.tup [.int p.f, .int p.s, .int p.c]) := s3 _ _ (s _ _ hrow)
      refine ⟨_, rfl, _, _, _, _, rfl, rfl, SqT.of (ht3), rfl, _, _, _, _, rfl, rfl, SqT.of (hr3), rfl, _, rfl, _, _, _, _, rfl, rfl, SqT.of (ht3), rfl, _, _, _, _, rfl, rfl, SqT.of (hr3), rfl, _, rfl, _, _, _, _, rfl, rfl, SqT.of (ht3), rfl, _, _, _, _, rfl, rfl, SqT.of (hr3), rfl, fun u du nu ndu neu => ⟨u, du, p.f, p.s, p.c, rfl, upd_same, fun h => absurd h (by have := po.ok.ok.f0; omega), fun _ h => absurd h (by have := po.ok.ok.s1; have := po.ok.ok.s4; omega), fun _ _ _ h => absurd h (by have := po.ok.ok.c1; omega), fun _ _ _ _ H4 h4 k4 => ⟨rfl, ?_⟩⟩⟩
      have s4 := made nu ndu k4
      have es : (if p.c > 1 then p.s else 1) = p.s := by
        split
        · rfl
        · rw [po.ok.one (by have := po.ok.ok.c1; omega)]
      rw [es] at h4
      refine ⟨(by show 2 ≤ sizeLine; decide), fun tm htm => ?_⟩
      have sm := same_upd (o := .tup [.ref x, .ref u]) htm
      have hacc5 := sm _ _ (s4 _ _ (s3 _ _ hacc))
      refine kk _ _ ((s3.trans s4).trans sm) ?_
      exact ⟨tm, .ref x, u, rfl, wo_at upd_same (ne_of upd_same hacc5 (by intro z; cases z)), NumQ.wo (.inr ⟨x, rfl, (show RatQ C _ x p.n (wsum ps) from ⟨dx, (s4.trans sm) _ _ h3⟩)⟩) hacc5, RunAt.wo ⟨du, sm _ _ h4⟩ hacc5⟩
    intro H2 s2 hS
    refine fun x dx nx nd ne => ⟨x, dx, D1, ps, wsum ps, rfl, upd_same, hS.same (inP_mono C D _) (new2 nx nd ne), ps_bd pk, l64, fun h => absurd h (by rw [noNeg pk]; exact Bool.false_ne_true), fun _ h => absurd rfl h, fun _ _ k H' kp hk hB hxk hO => ⟨rfl, ?_⟩⟩
    have s5 := made nx nd kp
    have hk2 := none_of_same (new2 nx nd ne) hk
    rw [tog_id pk] at hO
    exact q x k H' ((s0.trans s2).trans s5) (none_of_same (s0.trans s2) hk2) ⟨dx, hxk⟩ hO
end
end L

set_option Elab.async false
set_option linter.all false
set_option maxRecDepth 100000
set_option maxHeartbeats 4000000
set_option pp.maxSteps 160
set_option pp.deepTerms false
namespace L
open PySem PySem.Spec PyProof.Rows L2 Fl
local macro_rules | `(tactic| walk_at "side") => `(tactic| first | (exact .inl ⟨by omega, by omega⟩) | (exact .inr ⟨by omega, by omega⟩) | (exact .inr ⟨by decide, by decide⟩) | (show (_ : Int) ≠ _; omega) | (exact ⟨by omega, by decide⟩) | (exact ⟨by decide, by decide, by decide⟩))
local macro_rules | `(tactic| walk_at "go") => `(tactic| repeat (first | refine ⟨_, rfl, ?_⟩ | refine ⟨_, _, rfl, rfl, ?_⟩ | refine .inl ⟨_, rfl, ?_⟩ | refine ⟨rfl, ?_⟩ | refine ⟨(by walk_at "side"), ?_⟩))
local macro_rules | `(tactic| walk_at "see") => `(tactic| (set_option pp.maxSteps 110 in set_option pp.deepTerms false in trace_state))
local macro_rules | `(tactic| walk_at "if") => `(tactic| first | refine ifE ?_ ?_ | refine ifNE ?_ ?_ | refine ifD ?_ ?_ | refine ifN ?_ ?_ | refine ifB ?_ ?_)
open Bx

section
variable {P : Program} {w : World} {K : PySem.W.Frag} {mg : Str → Option Value} {base : Heap}

/-- the number in x has the value n / m, of any size that can be reckoned with -/
def spSameW (C : Addr) : Sp := fun vs H Q _ => ∃ (x t : Addr) (a b n m : Int), vs = [.ref x, .ref t] ∧ RatQ C H x a b ∧ Sq a b ∧ H t = some (.tup [.int n, .int m]) ∧ a * m = n * b ∧ n.natAbs < 2 ^ 700000 ∧ m.natAbs < 2 ^ 700000 ∧ Q (.bl true) H
abbrev CalSameW (P : Program) (w : World) (K : PySem.W.Frag) (mg : Str → Option Value) (base : Heap) (C : Addr) := Cal P w K mg base 3 "_law_same" ["_law_actual", "_law_due"] (spSameW C)
theorem ok_sameW {C : Addr} (B : Blt mg) (T : RatC K mg C) (Df : Dfn K mg "_law_same" "_law_same" s_same ["_law_actual", "_law_due"]) (C_ratio : CalRatioQ P w K mg base C) : CalSameW P w K mg base C := by
  refine Df.cal sc_same (fun vs H Q E h => ?_) (fun f cdv A outer st H vs Q E hr h => ?_)
  · obtain ⟨x, t, a, b, n, m, rfl, _⟩ := h
    rfl
  · obtain ⟨x, t, a, b, n, m, rfl, ⟨dx, hx⟩, sq, ht, eq, bn, bm, q⟩ := h
    have b0 : b ≠ 0 := Int.ne_of_gt sq.p
    have z1 := Nat.lt_of_le_of_lt (nT_le (t := a) b0) sq.n
    have z2 := Nat.lt_of_le_of_lt (nU_le (t := a) b0) sq.m
    refine ⟨_, (pss_cons (ps_if (pt_not (pt_val (pe_cal C_ratio (hr.mono (by decide)) (pa_cons (pv 0) pa_nil)))) (pss_one (ps_ret (pe_bl))) pss_nil)
      (pss_one (ps_ret (pe_cmpR op_eq (pe_op op_mulW (pe_fld (pv 0) rfl) (pe_ix ix_tup (pv 1) (pe_int) (fun _ _ => rfl))) (pe_op op_mulW (pe_ix ix_tup (pv 1) (pe_int) (fun _ _ => rfl)) (pe_fld (pv 0) rfl)) (nomark _))))), ?_⟩
    refine ⟨_, rfl, x, _, _, rfl, ⟨dx, hx⟩, _, rfl, ?_⟩
    rw [decide_eq_true (nU_pos (t := a) b0)]
    refine iteF ?_
    refine ⟨_, rfl, x, C, dx, _, _, rfl, hx, T.cl, T.nT, rf_top _ _, ?_⟩
    refine ⟨_, rfl, _, _, _, _, rfl, rfl, SqT.of ht, rfl, _, _, rfl, rfl, wide_mul z1 bm (by decide) (by decide) (by decide), ?_⟩
    refine ⟨_, rfl, _, _, _, _, rfl, rfl, SqT.of ht, rfl, ?_⟩
    refine ⟨_, rfl, x, C, dx, _, _, rfl, hx, T.cl, T.nU, rf_under _ _, _, _, rfl, rfl, wide_mul bn z2 (by decide) (by decide) (by decide), rfl, ?_⟩
    have e0 : nT a b * m = n * nU a b := by
      have c := n_cross a b
      refine Int.eq_of_mul_eq_mul_right b0 ?_
      grind
    have e2 : decide (V.int (nT a b * m) = V.int (n * nU a b)) = true := decide_eq_true (by rw [e0])
    show Q (V.bl (decide (V.int (nT a b * m) = V.int (n * nU a b)))) _
    rw [e2]
    exact q
def spSame (C : Addr) : Sp := fun vs H Q _ => ∃ (x t : Addr) (n m : Int), vs = [.ref x, .ref t] ∧ RatQ C H x n m ∧ Sq n m ∧ H t = some (.tup [.int n, .int m]) ∧ Q (.bl true) H
abbrev CalSame (P : Program) (w : World) (K : PySem.W.Frag) (mg : Str → Option Value) (base : Heap) (C : Addr) := Cal P w K mg base 3 "_law_same" ["_law_actual", "_law_due"] (spSame C)
theorem same_of {C : Addr} (M : CalSameW P w K mg base C) : CalSame P w K mg base C := by
  obtain ⟨f, fd, F, h1, h2, h3⟩ := M.ex
  refine ⟨f, fd, F.imp fun vs H Q E h => ?_, h1, h2, h3⟩
  obtain ⟨x, t, n, m, e, hx, sq, ht, q⟩ := h
  exact ⟨x, t, n, m, n, m, e, hx, sq, ht, rfl, ub sq.n (by decide), ub sq.m (by decide), q⟩
def spListed (C D : Addr) : Sp := fun vs H Q _ => ∃ (L M : Addr) (ps : List Pt), vs = [.ref L, .ref M, .int (wsum ps)] ∧ LAt (OutP C D (wsum ps)) H L ps ∧ LAt RowP H M ps ∧ PsOk ps ∧ ∀ H', Same H H' → Q (.bl true) H'
abbrev CalListed (P : Program) (w : World) (K : PySem.W.Frag) (mg : Str → Option Value) (base : Heap) (C D : Addr) := Cal P w K mg base 4 "_law_listed" ["_law_pairs", "_law_due", "_law_total"] (spListed C D)
theorem ok_listed {C D : Addr} (B : Blt mg) (hTup : mg "tuple" = none) (C_same : CalSame P w K mg base C) (C_held : CalHeld P w K mg base D) (Df : Dfn K mg "_law_listed" "_law_listed" s_listed ["_law_pairs", "_law_due", "_law_total"]) : CalListed P w K mg base C D := by
  refine Df.cal sc_listed (fun vs H Q E h => ?_) (fun fA cdv A outer st H vs Q E hr h => ?_)
  · obtain ⟨L, M, ps, rfl, _⟩ := h
    rfl
  · obtain ⟨L, M, ps, rfl, ⟨vs, hvs, hlen, hall⟩, ⟨ms, hms, hlenm, hallm⟩, pk, q⟩ := h
    have l64 := pk.l64
    refine ⟨_, (pss_cons (ps_if (PW.pt (pw_or (pt_not (pt_val (pe_callB call_isi (by rfl) B.isinstance (by decide +kernel) (pa_cons (pv 0) (pa_cons (pe_bltn (v := .ty "list") (by rfl) B.list (by decide +kernel) rfl) pa_nil))))) (pw_or1 (pt_cmpR op_ne (pe_callB call_len_seq (by rfl) B.len PySem.boot_len (pa_cons (pv 0) pa_nil)) (pe_callB call_len_seq (by rfl) B.len PySem.boot_len (pa_cons (pv 1) pa_nil)) (nomark _))))) (pss_one (ps_ret (pe_bl))) pss_nil)
      (pss_cons (ps_for PassesOwn.never rfl (pi_range1 (by rfl) B.range (pa_cons (pe_callB call_len_seq (by rfl) B.len PySem.boot_len (pa_cons (pv 1) pa_nil)) pa_nil)) (pg_name (i := 3) sc_listed.nd rfl (Or.inl rfl)) (pss_cons (ps_set (i := 4) sc_listed.nd rfl (Or.inl rfl) (pe_ix ix_list (pv 0) (pv 3) (fun _ _ => rfl)))
      (pss_cons (ps_if (PW.pt (pw_or (pt_not (pt_val (pe_callB call_isi (by rfl) B.isinstance (by decide +kernel) (pa_cons (pv 4) (pa_cons (pe_bltn (v := .ty "tuple") (by rfl) hTup (by decide +kernel) rfl) pa_nil))))) (pw_or1 (pt_cmpR op_ne (pe_callB call_len_seq (by rfl) B.len PySem.boot_len (pa_cons (pv 4) pa_nil)) (pe_int) (nomark _))))) (pss_one (ps_ret (pe_bl))) pss_nil)
      (pss_one (ps_if (PW.pt (pw_or (pt_not (pt_val (pe_cal C_same (hr.mono (by decide)) (pa_cons (pe_ix ix_tup (pv 4) (pe_int) (fun _ _ => rfl)) (pa_cons (pe_tup (pa_cons (pe_ix ix_tup (pe_ix ix_list (pv 1) (pv 3) (fun _ _ => rfl)) (pe_int) (fun _ _ => rfl)) (pa_cons (pv 2) pa_nil))) pa_nil))))) (pw_or1 (pt_not (pt_val (pe_cal C_held (hr.mono (by decide)) (pa_cons (pe_ix ix_tup (pv 4) (pe_int) (fun _ _ => rfl)) (pa_cons (pe_ix ix_tup (pe_ix ix_list (pv 1) (pv 3) (fun _ _ => rfl)) (pe_int) (fun _ _ => rfl)) pa_nil)))))))) (pss_one (ps_ret (pe_bl))) pss_nil)))))
      (pss_one (ps_ret (pe_bl))))), ?_⟩
    refine ⟨_, rfl, _, _, _, _, true, rfl, .ty _, .base (.lst hvs), kit_ty (by decide +kernel), _, rfl, iteF ?_⟩
    refine ⟨_, rfl, L, _, rfl, .inl (SqL.of hvs), _, rfl, M, _, rfl, .inl (SqL.of hms), rfl, _, rfl, jeT (by rw [hlen, hlenm]) ?_⟩
    refine ⟨_, rfl, M, _, rfl, .inl (SqL.of hms), _, rfl, by omega, by omega, for_range (n := ms.length) (fun i σ' H' => Same H H' ∧ ∃ o3 o4 : Option V, σ' = [some (.ref L), some (.ref M), some (.int (wsum ps)), o3, o4])
      ⟨Same.refl H, none, none, rfl⟩ ?_ ?_⟩
    · rintro i σ' H1 hi ⟨s, o3, o4, rfl⟩
      have hp : ps[i]? = some ps[i] := List.getElem?_eq_getElem (by omega)
      generalize ps[i] = p at hp
      obtain ⟨v, hv, t, x, r, rfl, ht, hq, hrun⟩ := hall i p hp
      obtain ⟨u, hu, tm, rm, rfl, htm, hrow⟩ := hallm i p hp
      have hvs1 := s _ _ hvs
      have hms1 := s _ _ hms
      have ht1 := s _ _ ht
      have htm1 := s _ _ htm
      refine ⟨_, rfl, _, rfl, _, _, _, _, rfl, rfl, SqL.of hvs1, at_of (j := i) (by omega) hv, ?_⟩
      refine ⟨_, rfl, _, _, _, _, true, rfl, .ty _, .base (.tup ht1), kit_ty (by decide +kernel), _, rfl, iteF ?_⟩
      refine ⟨_, rfl, t, _, rfl, .inr (SqT.of ht1), rfl, _, rfl, jeT rfl ?_⟩
      refine ⟨_, rfl, _, _, _, _, rfl, rfl, SqT.of (ht1), rfl, _, rfl, _, rfl, _, _, _, _, rfl, rfl, SqL.of hms1, at_of (j := i) (by omega) hu, _, _, _, _, rfl, rfl, SqT.of (htm1), rfl, _, rfl, (by show 2 ≤ sizeLine; decide), fun n hn => ?_⟩
      have sn := same_upd (o := .tup [.int p.n, .int (wsum ps)]) hn
      have s2 := s.trans sn
      refine ⟨x, n, p.n, wsum ps, rfl, hq.same s2, (ps_bd pk).one (List.mem_map_of_mem (mem_at hp)), upd_same, _, rfl, iteF ?_⟩
      refine ⟨_, rfl, _, _, _, _, rfl, rfl, SqT.of (sn _ _ ht1), rfl, _, rfl, _, rfl, _, _, _, _, rfl, rfl, SqL.of (sn _ _ hms1), at_of (j := i) (by omega) hu, _, _, _, _, rfl, rfl, SqT.of (sn _ _ htm1), rfl, r, rm, p.f, p.s, p.c, rfl, hrun.same s2, s2 _ _ hrow, fun H5 s5 => ⟨_, rfl, iteF ?_⟩⟩
      exact ⟨s2.trans s5, _, _, rfl⟩
    · rintro σ' H1 ⟨s, o3, o4, rfl⟩
      exact q H1 s
end
end L

set_option Elab.async false
set_option linter.all false
set_option maxRecDepth 100000
set_option maxHeartbeats 4000000
set_option pp.maxSteps 160
set_option pp.deepTerms false
namespace L
open PySem PySem.Spec PyProof.Rows L2 Fl
local macro_rules | `(tactic| walk_at "side") => `(tactic| first | (exact .inl ⟨by omega, by omega⟩) | (exact .inr ⟨by omega, by omega⟩) | (exact .inr ⟨by decide, by decide⟩) | (show (_ : Int) ≠ _; omega) | (exact ⟨by omega, by decide⟩) | (exact ⟨by decide, by decide, by decide⟩))
local macro_rules | `(tactic| walk_at "go") => `(tactic| repeat (first | refine ⟨_, rfl, ?_⟩ | refine ⟨_, _, rfl, rfl, ?_⟩ | refine .inl ⟨_, rfl, ?_⟩ | refine ⟨rfl, ?_⟩ | refine ⟨(by walk_at "side"), ?_⟩))
local macro_rules | `(tactic| walk_at "see") => `(tactic| (set_option pp.maxSteps 110 in set_option pp.deepTerms false in trace_state))
local macro_rules | `(tactic| walk_at "if") => `(tactic| first | refine ifE ?_ ?_ | refine ifNE ?_ ?_ | refine ifD ?_ ?_ | refine ifN ?_ ?_ | refine ifB ?_ ?_)
open Bx

/-! ### sums over one denominator -/
theorem cprod_app (xs ys : List Pt) : cprod (xs ++ ys) = cprod xs * cprod ys := by
  induction xs with
  | nil => show cprod ys = 1 * cprod ys; rw [Int.one_mul]
  | cons p r ih => show p.c * cprod (r ++ ys) = p.c * cprod r * cprod ys; rw [ih, Int.mul_assoc]
theorem cprod_one (p : Pt) : cprod [p] = p.c := Int.mul_one _
theorem cprod_pos : ∀ {ps : List Pt}, (∀ p ∈ ps, 1 ≤ p.c) → 1 ≤ cprod ps
  | [], _ => by show (1 : Int) ≤ 1; omega
  | p :: r, h => by
    have h1 := h p (List.mem_cons_self ..)
    have h2 := cprod_pos (ps := r) fun q hq => h q (List.mem_cons_of_mem _ hq)
    have := Int.mul_le_mul h1 h2 (by omega) (by omega)
    show 1 ≤ p.c * cprod r
    omega
theorem cprod_dvd : ∀ {ps : List Pt} {p : Pt}, p ∈ ps → p.c ∣ cprod ps
  | q :: r, p, h => by
    rcases List.mem_cons.mp h with rfl | h
    · exact ⟨cprod r, rfl⟩
    · exact Int.dvd_trans (cprod_dvd h) ⟨q.c, Int.mul_comm _ _⟩
theorem cprod_take {ps : List Pt} (h : ∀ p ∈ ps, 1 ≤ p.c) (i : Nat) : 1 ≤ cprod (ps.take i) ∧ cprod (ps.take i) ≤ cprod ps := by
  have h1 := cprod_pos (ps := ps.take i) fun p hp => h p (List.mem_of_mem_take hp)
  have h2 := cprod_pos (ps := ps.drop i) fun p hp => h p (List.mem_of_mem_drop hp)
  have e : cprod ps = cprod (ps.take i) * cprod (ps.drop i) := by rw [← cprod_app, List.take_append_drop]
  refine ⟨h1, ?_⟩
  rw [e]
  have := Int.mul_le_mul_of_nonneg_left h2 (show 0 ≤ cprod (ps.take i) by omega)
  rw [Int.mul_one] at this
  exact this

def alk (f s c f' s' c' : Int) : Int := c * c' - pab f s c f' s' c' - pab f' s' c' f s c
theorem alk_comm (f s c f' s' c' : Int) : alk f s c f' s' c' = alk f' s' c' f s c := by
  unfold alk
  rw [Int.mul_comm c' c]
  omega
theorem bel_part {f s c k : Int} (h : RunOk f s c) : ∀ n : Nat, (n : Int) ≤ c → sumN (fun j => if f + s * (j : Int) < k then 1 else 0) n = (if (n : Int) ≤ bel f s c k then (n : Int) else bel f s c k)
  | 0, _ => by
    have := (bel_ok (k := k) h).1
    show (0 : Int) = if ((0 : Nat) : Int) ≤ bel f s c k then ((0 : Nat) : Int) else bel f s c k
    rw [if_pos (by omega)]
    rfl
  | n + 1, hn => by
    show sumN _ n + (if f + s * (n : Int) < k then 1 else 0) = _
    rw [bel_part h n (by omega)]
    have e := bel_iff (k := k) h (i := (n : Int)) (by omega) (by omega)
    by_cases hb : (n : Int) < bel f s c k
    · rw [if_pos (e.2 hb)]
      split <;> split <;> omega
    · rw [if_neg (fun z => hb (e.1 z))]
      split <;> split <;> omega
theorem bel_sum {f s c k : Int} (h : RunOk f s c) : sumN (fun j => if f + s * (j : Int) < k then 1 else 0) c.toNat = bel f s c k := by
  have h1 := h.c1
  have h2 := (bel_ok (k := k) h).2.1
  rw [bel_part h c.toNat (by omega)]
  split <;> omega
theorem sumN_swap (g : Nat → Nat → Int) (m : Nat) : ∀ n : Nat, sumN (fun i => sumN (fun j => g i j) m) n = sumN (fun j => sumN (fun i => g i j) n) m
  | 0 => by
    show (0 : Int) = sumN (fun _ => 0) m
    rw [sumN_const]
    omega
  | n + 1 => by
    show sumN (fun i => sumN (fun j => g i j) m) n + sumN (fun j => g n j) m = sumN (fun j => sumN (fun i => g i j) n + g n j) m
    rw [sumN_swap g m n, ← sumN_add]
def gap (f s f' s' : Int) (i j : Nat) : Int := f + s * (i : Int) - f' - s' * (j : Int)
def gA (f s f' s' c' : Int) (i : Nat) : Int := sumN (fun j => if gap f s f' s' i j > 0 then 1 else 0) c'.toNat
def gE (f s f' s' c' : Int) (i : Nat) : Int := sumN (fun j => if gap f s f' s' i j = 0 then 1 else 0) c'.toNat
theorem gA_sum {f s c f' s' c' : Int} (h' : RunOk f' s' c') : sumN (gA f s f' s' c') c.toNat = pab f s c f' s' c' := by
  unfold pab
  refine sumN_congr fun i _ => ?_
  rw [← bel_sum h']
  unfold gA gap
  refine sumN_congr fun j _ => ?_
  by_cases hh : f' + s' * (j : Int) < f + s * (i : Int)
  · rw [if_pos hh, if_pos (by omega)]
  · rw [if_neg hh, if_neg (by omega)]
theorem gE_sum {f s c f' s' c' : Int} (h : RunOk f s c) (h' : RunOk f' s' c') : sumN (gE f s f' s' c') c.toNat = alk f s c f' s' c' := by
  have e1 := gA_sum (f := f) (s := s) (c := c) h'
  have e2 : sumN (fun i => sumN (fun j => if f + s * ((i : Nat) : Int) < f' + s' * ((j : Nat) : Int) then 1 else 0) c'.toNat) c.toNat = pab f' s' c' f s c := by
    rw [sumN_swap]
    unfold pab
    exact sumN_congr fun j _ => bel_sum h
  have e3 : sumN (fun i => gA f s f' s' c' i + (gE f s f' s' c' i + sumN (fun j => if f + s * ((i : Nat) : Int) < f' + s' * ((j : Nat) : Int) then 1 else 0) c'.toNat)) c.toNat = c * c' := by
    have e4 : ∀ i : Nat, gA f s f' s' c' i + (gE f s f' s' c' i + sumN (fun j => if f + s * ((i : Nat) : Int) < f' + s' * ((j : Nat) : Int) then 1 else 0) c'.toNat) = c' := fun i => by
      unfold gA gE
      rw [← sumN_add, ← sumN_add, sumN_congr (h := fun _ => 1) fun j _ => ?_, sumN_const]
      · have := h'.c1
        omega
      · unfold gap
        generalize f + s * (i : Int) = a
        generalize s' * (j : Int) = b
        rcases (by omega : a < f' + b ∨ a = f' + b ∨ f' + b < a) with z | z | z
        · rw [if_neg (by omega), if_neg (by omega), if_pos z]
          rfl
        · rw [if_neg (by omega), if_pos (by omega), if_neg (by omega)]
          rfl
        · rw [if_pos (by omega), if_neg (by omega), if_neg (by omega)]
          rfl
    rw [sumN_congr (h := fun _ => c') fun i _ => e4 i, sumN_const, Int.toNat_of_nonneg (by have := h.c1; omega), Int.mul_comm]
  rw [sumN_add, sumN_add, e1, e2] at e3
  unfold alk
  omega
def wonV (f s c k v : Int) : Int := (c - bel f s c (k + 1)) - bel f s c k + v * (c - (c - bel f s c (k + 1)) - bel f s c k)

theorem upto_eq {f s c y : Int} (h : RunOk f s c) : (let m := (y - f).fdiv s + 1; let z := if m < c then m else c; if z > 0 then z else 0) = bel f s c (y + 1) := by
  have h1 := h.s1
  have h0 := h.c1
  unfold bel
  simp only [Int.fdiv_eq_ediv_of_nonneg _ (show (0 : Int) ≤ s by omega)]
  rcases s_cases h with rfl | rfl | rfl | rfl <;> split <;> split <;> (try split) <;> (try split) <;> omega

/-! ### sums over one denominator, of any numbers -/
def tpL (e : Pt → Int) (P : Int) (ps : List Pt) : List Int := ps.map fun p => p.n * e p * (P / p.c)
def tpG (e : Pt → Int) (ps : List Pt) : Int := sumI (tpL e (cprod ps) ps)
theorem tpL_mul {e : Pt → Int} {P c : Int} : ∀ {ps : List Pt}, (∀ p ∈ ps, p.c ∣ P) → sumI (tpL e (P * c) ps) = sumI (tpL e P ps) * c
  | [], _ => by show (0 : Int) = 0 * c; rw [Int.zero_mul]
  | p :: r, h => by
    have ih := tpL_mul (e := e) (P := P) (c := c) (ps := r) fun q hq => h q (List.mem_cons_of_mem _ hq)
    have e1 : P * c / p.c = P / p.c * c := Int.mul_ediv_assoc' c (h p (List.mem_cons_self ..))
    show p.n * e p * (P * c / p.c) + sumI (tpL e (P * c) r) = (p.n * e p * (P / p.c) + sumI (tpL e P r)) * c
    rw [ih, e1, Int.add_mul, Int.mul_assoc (p.n * e p)]
theorem tpG_snoc {e : Pt → Int} {ps : List Pt} {p : Pt} (h : p.c ≠ 0) : tpG e (ps ++ [p]) = tpG e ps * p.c + p.n * e p * cprod ps := by
  unfold tpG
  rw [cprod_app, cprod_one]
  have e1 : tpL e (cprod ps * p.c) (ps ++ [p]) = tpL e (cprod ps * p.c) ps ++ [p.n * e p * (cprod ps * p.c / p.c)] := by
    unfold tpL
    rw [List.map_append]
    rfl
  rw [e1, sumI_app, tpL_mul fun q hq => cprod_dvd hq, Int.mul_ediv_cancel _ h]
  show _ + (p.n * e p * cprod ps + 0) = _
  rw [Int.add_zero]
theorem tp_bd {e : Pt → Int} {b : Nat} {ps : List Pt} (h : PsOk ps) (he : ∀ p ∈ ps, (e p).natAbs < 2 ^ b) {qs : List Pt} (hq : ∀ p ∈ qs, p ∈ ps) (hl : qs.length ≤ 64) {P : Int} (p0 : 0 ≤ P) (pb : P.natAbs < 2 ^ 1300) : (sumI (tpL e P qs)).natAbs < 2 ^ (b + 1510) := by
  have bb : ∀ n ∈ tpL e P qs, n.natAbs < 2 ^ (200 + b + 1300) := fun n hn => by
    obtain ⟨p, hp, rfl⟩ := List.mem_map.mp hn
    have po := h.ok p (hq p hp)
    exact wide_lt (wide_lt po.nlt (he p (hq p hp))) (Nat.lt_of_le_of_lt (div_le p0 po.ok.ok.c1) pb)
  have eb := sumI_bd bb
  have l : (tpL e P qs).length ≤ 64 := by unfold tpL; rw [List.length_map]; exact hl
  have h1 : (tpL e P qs).length * 2 ^ (200 + b + 1300) ≤ 64 * 2 ^ (200 + b + 1300) := Nat.mul_le_mul_right _ l
  have h2 : (2 : Nat) ^ (b + 1510) = 1024 * 2 ^ (200 + b + 1300) := by
    rw [show b + 1510 = 10 + (200 + b + 1300) by omega, Nat.pow_add]
  have h3 : 0 < 2 ^ (200 + b + 1300) := Nat.pow_pos (by decide)
  rw [h2]
  omega
/-! ### double sums -/
theorem sumI_mul (k : Int) : ∀ ns : List Int, sumI (ns.map fun n => n * k) = sumI ns * k
  | [] => by show (0 : Int) = 0 * k; rw [Int.zero_mul]
  | n :: r => by
    show n * k + sumI (r.map fun n => n * k) = (n + sumI r) * k
    rw [sumI_mul k r, Int.add_mul]
theorem sumI_add {α : Type} (f g : α → Int) : ∀ xs : List α, sumI (xs.map fun x => f x + g x) = sumI (xs.map f) + sumI (xs.map g)
  | [] => rfl
  | x :: r => by
    show f x + g x + sumI (r.map fun x => f x + g x) = f x + sumI (r.map f) + (g x + sumI (r.map g))
    rw [sumI_add f g r]
    omega
theorem sumI_congr {α : Type} {f g : α → Int} : ∀ {xs : List α}, (∀ x ∈ xs, f x = g x) → sumI (xs.map f) = sumI (xs.map g)
  | [], _ => rfl
  | x :: r, h => by
    show f x + sumI (r.map f) = g x + sumI (r.map g)
    rw [h x (List.mem_cons_self ..), sumI_congr fun y hy => h y (List.mem_cons_of_mem _ hy)]
theorem sumI_zero {α : Type} : ∀ xs : List α, sumI (xs.map fun _ => (0 : Int)) = 0
  | [] => rfl
  | _ :: r => by
    show 0 + sumI (r.map fun _ => (0 : Int)) = 0
    rw [sumI_zero r]
    rfl
theorem sumI_swap {α β : Type} (h : α → β → Int) (ys : List β) : ∀ xs : List α, sumI (xs.map fun x => sumI (ys.map (h x))) = sumI (ys.map fun y => sumI (xs.map fun x => h x y))
  | [] => (sumI_zero ys).symm
  | x :: r => by
    show sumI (ys.map (h x)) + sumI (r.map fun x => sumI (ys.map (h x))) = sumI (ys.map fun y => h x y + sumI (r.map fun x => h x y))
    rw [sumI_swap h ys r, ← sumI_add]
theorem sumI_flat (f : Pt → List Int) : ∀ ps : List Pt, sumI (ps.flatMap f) = sumI (ps.map fun p => sumI (f p))
  | [] => rfl
  | p :: r => by
    show sumI (f p ++ r.flatMap f) = sumI (f p) + sumI (r.map fun p => sumI (f p))
    rw [sumI_app, sumI_flat f r]
def mS (g : Pt → Pt → Int) (P1 P2 : Int) (ps qs : List Pt) : Int := sumI (meetL g P1 P2 ps qs)
theorem mS_eq (g : Pt → Pt → Int) (P1 P2 : Int) (ps qs : List Pt) : mS g P1 P2 ps qs = sumI (ps.map fun p => sumI (qs.map (mnum g P1 P2 p))) := sumI_flat _ ps
theorem mnum_swap (g : Pt → Pt → Int) (P1 P2 : Int) (p q : Pt) : mnum g P1 P2 p q = mnum (fun q p => g p q) P2 P1 q p := by
  unfold mnum
  rw [Int.mul_comm p.n, Int.mul_comm (P1 / p.c)]
theorem mS_swap (g : Pt → Pt → Int) (P1 P2 : Int) (ps qs : List Pt) : mS g P1 P2 ps qs = mS (fun q p => g p q) P2 P1 qs ps := by
  rw [mS_eq, mS_eq, sumI_swap]
  exact sumI_congr fun q _ => sumI_congr fun p _ => mnum_swap g P1 P2 p q
theorem mS_lin (g h k : Pt → Pt → Int) (v P1 P2 : Int) (ps qs : List Pt) (e : ∀ p q, g p q = h p q + v * k p q) : mS g P1 P2 ps qs = mS h P1 P2 ps qs + v * mS k P1 P2 ps qs := by
  rw [mS_eq, mS_eq, mS_eq, Int.mul_comm v, ← sumI_mul, List.map_map, ← sumI_add]
  refine sumI_congr fun p _ => ?_
  show _ = _ + sumI (qs.map (mnum k P1 P2 p)) * v
  rw [← sumI_mul, List.map_map, ← sumI_add]
  refine sumI_congr fun q _ => ?_
  show mnum g P1 P2 p q = mnum h P1 P2 p q + mnum k P1 P2 p q * v
  unfold mnum
  rw [e]
  grind
theorem alkP_comm (p q : Pt) : alkP p q = alkP q p := by
  unfold alkP
  rw [Int.mul_comm q.c]
  omega
theorem mS_tie (v P1 P2 : Int) (ps qs : List Pt) : mS (gainP v) P1 P2 ps qs = mS (gainP 0) P1 P2 ps qs + v * mS alkP P1 P2 ps qs := mS_lin _ _ _ _ _ _ _ _ fun p q => by
  unfold gainP
  rw [Int.zero_mul, Int.add_zero]
theorem mS_back (v P1 P2 : Int) (ps qs : List Pt) : mS (gainP (-v)) P2 P1 qs ps = -(mS (gainP 0) P1 P2 ps qs + v * mS alkP P1 P2 ps qs) := by
  rw [mS_swap, mS_lin (fun q p => gainP (-v) p q) (fun p q => -gainP 0 p q) alkP (-v) P1 P2 ps qs fun p q => ?_]
  · have e : mS (fun p q => -gainP 0 p q) P1 P2 ps qs = -mS (gainP 0) P1 P2 ps qs := by
      have := mS_lin (fun p q => -gainP 0 p q) (fun _ _ => 0) (gainP 0) (-1) P1 P2 ps qs fun p q => by omega
      rw [this]
      have z : mS (fun _ _ => 0) P1 P2 ps qs = 0 := by
        rw [mS_eq, sumI_congr (g := fun _ => 0) fun p _ => ?_, sumI_zero]
        rw [sumI_congr (g := fun _ => 0) fun q _ => ?_, sumI_zero]
        unfold mnum
        rw [Int.mul_zero, Int.zero_mul]
      rw [z]
      omega
    rw [e, Int.neg_mul]
    omega
  · show gainP (-v) q p = -gainP 0 p q + -v * alkP p q
    unfold gainP
    rw [alkP_comm q p]
    grind
/-- a sum over the second blend's runs of sums over the first one's -/
theorem tpG_mS (g : Pt → Pt → Int) (ps qs : List Pt) : tpG (fun q => tpG (fun p => g p q) ps) qs = mS g (cprod ps) (cprod qs) ps qs := by
  rw [mS_swap, mS_eq]
  unfold tpG tpL
  refine sumI_congr fun q _ => ?_
  rw [Int.mul_comm q.n, Int.mul_assoc, ← sumI_mul, List.map_map]
  refine sumI_congr fun p _ => ?_
  show p.n * g p q * (cprod ps / p.c) * (q.n * (cprod qs / q.c)) = q.n * p.n * g p q * ((cprod qs / q.c) * (cprod ps / p.c))
  ac_rfl
theorem tpG_sumN (e : Nat → Pt → Int) (ps : List Pt) : ∀ n : Nat, sumN (fun j => tpG (e j) ps) n = tpG (fun p => sumN (fun j => e j p) n) ps
  | 0 => by
    show (0 : Int) = tpG (fun _ => 0) ps
    unfold tpG tpL
    rw [sumI_congr (g := fun _ => 0) fun p _ => ?_, sumI_zero]
    rw [Int.mul_zero, Int.zero_mul]
  | n + 1 => by
    show sumN (fun j => tpG (e j) ps) n + tpG (e n) ps = tpG (fun p => sumN (fun j => e j p) n + e n p) ps
    rw [tpG_sumN e ps n]
    unfold tpG tpL
    rw [← sumI_add]
    exact sumI_congr fun p _ => by grind
theorem tpG_congr {e f : Pt → Int} {ps : List Pt} (h : ∀ p ∈ ps, e p = f p) : tpG e ps = tpG f ps := sumI_congr fun p hp => by rw [h p hp]
/-- one run against all strengths of the other, one by one -/
theorem cols {p q : Pt} (hp : RunOk p.f p.s p.c) (hq : RunOk q.f q.s q.c) : sumN (fun j => p.c - bel p.f p.s p.c (q.f + q.s * (j : Int) + 1)) q.c.toNat = prs p q := by
  unfold prs
  rw [← gA_sum (f := p.f) (s := p.s) (c := p.c) hq]
  unfold gA
  rw [sumN_swap]
  refine sumN_congr fun j _ => ?_
  have e1 := bel_sum (k := q.f + q.s * (j : Int) + 1) hp
  have e2 : sumN (fun i => (if gap p.f p.s q.f q.s i j > 0 then 1 else 0) + (if p.f + p.s * (i : Int) < q.f + q.s * (j : Int) + 1 then 1 else 0)) p.c.toNat = p.c := by
    rw [sumN_congr (h := fun _ => 1) fun i _ => ?_, sumN_const]
    · have := hp.c1
      omega
    · unfold gap
      generalize p.f + p.s * (i : Int) = a
      generalize q.s * (j : Int) = b
      by_cases z : a - q.f - b > 0
      · rw [if_pos z, if_neg (by omega)]
        rfl
      · rw [if_neg z, if_pos (by omega)]
        rfl
  rw [sumN_add, e1] at e2
  omega
theorem sumN_sub (g h : Nat → Int) : ∀ n : Nat, sumN (fun i => g i - h i) n = sumN g n - sumN h n
  | 0 => rfl
  | n + 1 => by
    show sumN (fun i => g i - h i) n + (g n - h n) = sumN g n + g n - (sumN h n + h n)
    rw [sumN_sub g h n]
    omega
def wonP (k v : Int) (p : Pt) : Int := wonV p.f p.s p.c k v
def eqP (k : Int) (p : Pt) : Int := bel p.f p.s p.c (k + 1) - bel p.f p.s p.c k
theorem cols_won {p q : Pt} (hp : RunOk p.f p.s p.c) (hq : RunOk q.f q.s q.c) : sumN (fun j => wonP (q.f + q.s * (j : Int)) 0 p) q.c.toNat = gainP 0 p q := by
  have e1 := cols hp hq
  have e2 : sumN (fun j => bel p.f p.s p.c (q.f + q.s * (j : Int))) q.c.toNat = prs q p := rfl
  rw [sumN_congr (h := fun j => (p.c - bel p.f p.s p.c (q.f + q.s * (j : Int) + 1)) - bel p.f p.s p.c (q.f + q.s * (j : Int))) fun j _ => ?_, sumN_sub, e1, e2]
  · unfold gainP
    omega
  · unfold wonP wonV
    omega
theorem cols_eq {p q : Pt} (hp : RunOk p.f p.s p.c) (hq : RunOk q.f q.s q.c) : sumN (fun j => eqP (q.f + q.s * (j : Int)) p) q.c.toNat = alkP p q := by
  have e1 := cols hp hq
  have e2 : sumN (fun j => bel p.f p.s p.c (q.f + q.s * (j : Int))) q.c.toNat = prs q p := rfl
  have e3 : sumN (fun _ => p.c) q.c.toNat = p.c * q.c := by
    rw [sumN_const, Int.toNat_of_nonneg (by have := hq.c1; omega)]
  rw [sumN_congr (h := fun j => p.c - (p.c - bel p.f p.s p.c (q.f + q.s * (j : Int) + 1)) - bel p.f p.s p.c (q.f + q.s * (j : Int))) fun j _ => ?_, sumN_sub, sumN_sub, e1, e2, e3]
  · rfl
  · unfold eqP
    omega
theorem wonP_bd {k v : Int} {p : Pt} (h : RowOk p.f p.s p.c) (hv : Tie v) : (wonP k v p).natAbs < 2 ^ 210 := by
  have a1 := (bel_ok (k := k) h.ok).1
  have a2 := (bel_ok (k := k) h.ok).2.1
  have b1 := (bel_ok (k := k + 1) h.ok).1
  have b2 := (bel_ok (k := k + 1) h.ok).2.1
  have c1 := h.cb
  unfold wonP wonV
  generalize bel p.f p.s p.c k = a at *
  generalize bel p.f p.s p.c (k + 1) = b at *
  rcases hv with rfl | rfl | rfl <;> omega
theorem eqP_bd {k : Int} {p : Pt} (h : RowOk p.f p.s p.c) : (eqP k p).natAbs < 2 ^ 210 := by
  have a1 := (bel_ok (k := k) h.ok).1
  have a2 := (bel_ok (k := k) h.ok).2.1
  have b1 := (bel_ok (k := k + 1) h.ok).1
  have b2 := (bel_ok (k := k + 1) h.ok).2.1
  have c1 := h.cb
  unfold eqP
  generalize bel p.f p.s p.c k = a at *
  generalize bel p.f p.s p.c (k + 1) = b at *
  omega
section
variable {P : Program} {w : World} {K : PySem.W.Frag} {mg : Str → Option Value} {base : Heap}
def spUpto : Sp := fun vs H Q _ => ∃ (t : Addr) (f s c y : Int), vs = [.ref t, .int y] ∧ Row H t f s c ∧ RowOk f s c ∧ Q (.int (bel f s c (y + 1))) H
abbrev CalUpto (P : Program) (w : World) (K : PySem.W.Frag) (mg : Str → Option Value) (base : Heap) := Cal P w K mg base 1 "_law_upto" ["_law_row", "_law_y"] spUpto
theorem ok_upto (B : Blt mg) (D : Dfn K mg "_law_upto" "_law_upto" s_upto ["_law_row", "_law_y"]) : CalUpto P w K mg base := by
  refine D.cal sc_upto (fun vs H Q E h => ?_) (fun fA cdv A outer st H vs Q E hr h => ?_)
  · obtain ⟨t, f, s, c, y, rfl, _⟩ := h
    rfl
  · obtain ⟨t, f, s, c, y, rfl, ht, ok, q⟩ := h
    rw [← upto_eq ok.ok] at q
    have := ok.ok.s1
    have := ok.ok.s4
    refine ⟨_, (pss_one (ps_ret (pe_callB (call_max2 rfl) (by rfl) B.max (by decide +kernel) (pa_cons (pe_int) (pa_cons (pe_callB (call_min2 rfl) (by rfl) B.min (by decide +kernel) (pa_cons (pe_callTy call_int1 (by rfl) B.int (by decide +kernel) (pa_cons (pe_ix ix_tup (pv 0) (pe_int) (fun _ _ => rfl)) pa_nil)) (pa_cons (pe_op op_add (pe_op op_fdivA (pe_op op_sub (pv 1) (pe_ix ix_tup (pv 0) (pe_int) (fun _ _ => rfl))) (pe_ix ix_tup (pv 0) (pe_int) (fun _ _ => rfl))) (pe_int)) pa_nil))) pa_nil))))), ?_⟩
    refine ⟨_, rfl, _, _, _, _, rfl, rfl, SqT.of ht, rfl, .inl ⟨_, rfl, ?_⟩⟩
    refine ⟨_, rfl, _, rfl, _, _, _, _, rfl, rfl, SqT.of ht, rfl, _, _, rfl, rfl, ?_⟩
    refine ⟨_, rfl, _, _, _, _, rfl, rfl, SqT.of ht, rfl, _, _, rfl, rfl, divA (b := 20) (by omega) (by omega) (by decide) (by decide), ?_⟩
    exact ⟨_, _, rfl, rfl, _, _, rfl, _, _, rfl, q⟩
def spWon : Sp := fun vs H Q _ => ∃ (t : Addr) (f s c y v : Int), vs = [.ref t, .int y, .int v] ∧ Row H t f s c ∧ RowOk f s c ∧ (v = -1 ∨ v = 0 ∨ v = 1) ∧ Q (.int (wonV f s c y v)) H
abbrev CalWon (P : Program) (w : World) (K : PySem.W.Frag) (mg : Str → Option Value) (base : Heap) := Cal P w K mg base 2 "_law_won" ["_law_row", "_law_y", "_law_rule"] spWon
theorem ok_won (D : Dfn K mg "_law_won" "_law_won" s_won ["_law_row", "_law_y", "_law_rule"]) (C_upto : CalUpto P w K mg base) : CalWon P w K mg base := by
  refine D.cal sc_won (fun vs H Q E h => ?_) (fun fA cdv A outer st H vs Q E hr h => ?_)
  · obtain ⟨t, f, s, c, y, v, rfl, _⟩ := h
    rfl
  · obtain ⟨t, f, s, c, y, v, rfl, ht, ok, hv, q⟩ := h
    have e : wonV f s c y v = c - bel f s c (y + 1) - bel f s c y + v * (bel f s c (y + 1) - bel f s c y) := by
      unfold wonV
      rw [show c - (c - bel f s c (y + 1)) - bel f s c y = bel f s c (y + 1) - bel f s c y by omega]
    rw [e] at q
    refine ⟨_, (pss_cons (ps_set (i := 3) sc_won.nd rfl (Or.inl rfl) (pe_cal C_upto (hr.mono (by decide)) (pa_cons (pv 0) (pa_cons (pv 1) pa_nil))))
      (pss_cons (ps_set (i := 4) sc_won.nd rfl (Or.inl rfl) (pe_cal C_upto (hr.mono (by decide)) (pa_cons (pv 0) (pa_cons (pe_op op_sub (pv 1) (pe_int)) pa_nil))))
      (pss_one (ps_ret (pe_op op_add (pe_op op_sub (pe_op op_sub (pe_ix ix_tup (pv 0) (pe_int) (fun _ _ => rfl)) (pv 3)) (pv 4)) (pe_op op_mul (pv 2) (pe_op op_sub (pv 3) (pv 4)))))))), ?_⟩
    refine ⟨_, rfl, _, rfl, t, f, s, c, y, rfl, ht, ok, ?_⟩
    refine ⟨_, rfl, _, rfl, _, _, rfl, rfl, t, f, s, c, y - 1, rfl, ht, ok, ?_⟩
    rw [show y - 1 + 1 = y by omega]
    refine ⟨_, rfl, _, _, _, _, rfl, rfl, SqT.of ht, rfl, _, rfl, _, _, rfl, rfl, _, rfl, _, _, rfl, rfl, ?_⟩
    refine ⟨_, rfl, _, rfl, _, rfl, _, _, rfl, rfl, _, _, rfl, rfl, .inl ⟨by omega, by omega⟩, ?_⟩
    exact ⟨_, _, rfl, rfl, q⟩

def spSum : Sp := fun vs H Q _ => ∃ (L M : Addr) (ps : List Pt) (e : Pt → Int) (b : Nat), vs = [.ref L, .ref M] ∧ LAt RowP H L ps ∧ PsOk ps ∧ 0 < b ∧ b ≤ 3000 ∧ (∀ p ∈ ps, (e p).natAbs < 2 ^ b) ∧ H M = some (.lst ((ps.map e).map V.int)) ∧ ∀ (z : Addr) (H' : Hp), Same H H' → H' z = some (.tup [.int (tpG e ps), .int (cprod ps * wsum ps)]) → Q (.ref z) H'
abbrev CalSum (P : Program) (w : World) (K : PySem.W.Frag) (mg : Str → Option Value) (base : Heap) := Cal P w K mg base 2 "_law_sum" ["_law_parts_here", "_law_tops"] spSum
theorem ok_sum (B : Blt mg) (C_weights : CalWeights P w K mg base) (Df : Dfn K mg "_law_sum" "_law_sum" s_sum ["_law_parts_here", "_law_tops"]) : CalSum P w K mg base := by
  refine Df.cal sc_sum (fun vs H Q E h => ?_) (fun fA cdv A outer st H vs Q E hr h => ?_)
  · obtain ⟨L, M, ps, e, b, rfl, _⟩ := h
    rfl
  · obtain ⟨L, M, ps, e, b, rfl, hL, pk, b0, b1, he, hM, q⟩ := h
    obtain ⟨vs, hvs, hlen, hall⟩ := id hL
    have l64 := pk.l64
    have hc : ∀ p ∈ ps, 1 ≤ p.c := fun p hp => (pk.ok p hp).ok.ok.c1
    have pp := cprod_pos hc
    refine ⟨_, (pss_cons (ps_set (i := 2) sc_sum.nd rfl (Or.inl rfl) (pe_int))
      (pss_cons (ps_set (i := 3) sc_sum.nd rfl (Or.inl rfl) (pe_int))
      (pss_cons (ps_for PassesOwn.never rfl (pi_range1 (by rfl) B.range (pa_cons (pe_callB call_len_seq (by rfl) B.len PySem.boot_len (pa_cons (pv 0) pa_nil)) pa_nil)) (pg_name (i := 4) sc_sum.nd rfl (Or.inl rfl)) (pss_cons (ps_set (i := 5) sc_sum.nd rfl (Or.inl rfl) (pe_ix ix_list (pv 0) (pv 4) (fun _ _ => rfl)))
      (pss_cons (ps_set (i := 2) sc_sum.nd rfl (Or.inl rfl) (pe_op op_add (pe_op op_mulW (pv 2) (pe_ix ix_tup (pe_ix ix_tup (pv 5) (pe_int) (fun _ _ => rfl)) (pe_int) (fun _ _ => rfl))) (pe_op op_mulW (pe_op op_mulW (pe_ix ix_tup (pv 5) (pe_int) (fun _ _ => rfl)) (pe_ix ix_list (pv 1) (pv 4) (fun _ _ => rfl))) (pv 3))))
      (pss_one (ps_set (i := 3) sc_sum.nd rfl (Or.inl rfl) (pe_op op_mulW (pv 3) (pe_ix ix_tup (pe_ix ix_tup (pv 5) (pe_int) (fun _ _ => rfl)) (pe_int) (fun _ _ => rfl))))))))
      (pss_one (ps_ret (pe_tup (pa_cons (pv 2) (pa_cons (pe_op op_mulW (pv 3) (pe_cal C_weights (hr.mono (by decide)) (pa_cons (pv 0) pa_nil))) pa_nil)))))))), ?_⟩
    refine ⟨_, rfl, L, _, rfl, .inl (SqL.of hvs), _, rfl, by omega, by omega, for_range (n := vs.length) (fun i σ' H' => H' = H ∧ ∃ o4 o5 : Option V, σ' = [some (.ref L), some (.ref M), some (.int (tpG e (ps.take i))), some (.int (cprod (ps.take i))), o4, o5])
      ⟨rfl, none, none, rfl⟩ ?_ ?_⟩
    · rintro i σ' H1 hi ⟨rfl, o4, o5, rfl⟩
      have hp : ps[i]? = some ps[i] := List.getElem?_eq_getElem (by omega)
      generalize ps[i] = p at hp
      obtain ⟨v, hv, t, r, rfl, ht, hrow⟩ := hall i p hp
      have po := pk.ok p (mem_at hp)
      have c0 : p.c ≠ 0 := by have := po.ok.ok.c1; omega
      have hr0 : H1 r = some (.tup [.int p.f, .int p.s, .int p.c]) := hrow
      have ct := cprod_take hc i
      have ub1 : (cprod (ps.take i)).natAbs < 2 ^ 1300 := by have := pk.pc; omega
      have tb := (tp_bd (e := e) pk he (qs := ps.take i) (fun p hp => List.mem_of_mem_take hp) (Nat.le_trans (List.length_take_le' _ _) l64) (P := cprod (ps.take i)) (by omega) ub1)
      have cb : p.c.natAbs < 2 ^ 204 := by have := po.ok.cb; have := po.ok.ok.c1; omega
      have ht01 : ((ps.map e).map V.int)[i]? = some (V.int (e p)) := by rw [List.getElem?_map, List.getElem?_map, hp]; rfl
      refine ⟨_, rfl, _, rfl, _, _, _, _, rfl, rfl, SqL.of hvs, at_of (j := i) (by omega) hv, ?_⟩
      refine ⟨_, rfl, _, rfl, _, _, _, _, rfl, rfl, SqT.of (ht), rfl, _, _, _, _, rfl, rfl, SqT.of (hr0), rfl, _, _, rfl, rfl, wide_mul tb cb (by omega) (by omega) (by omega), _, rfl, _, _, _, _, rfl, rfl, SqT.of (ht), rfl, _, rfl, _, rfl, _, _, _, _, rfl, rfl, SqL.of hM, at_of (j := i) (by omega) ht01, _, _, rfl, rfl, wide_mul po.nlt (he p (mem_at hp)) (by omega) (by omega) (by omega), _, rfl, _, _, rfl, rfl, wide_mul (wide_lt po.nlt (he p (mem_at hp))) ub1 (by omega) (by omega) (by omega), _, _, rfl, rfl, ?_⟩
      refine ⟨_, rfl, _, rfl, _, _, _, _, rfl, rfl, SqT.of (ht), rfl, _, _, _, _, rfl, rfl, SqT.of (hr0), rfl, _, _, rfl, rfl, wide_mul ub1 cb (by omega) (by omega) (by omega), ?_⟩
      have et : tpG e (ps.take (i + 1)) = tpG e (ps.take i) * p.c + p.n * e p * cprod (ps.take i) := by rw [take_snoc hp, tpG_snoc c0]
      have ec : cprod (ps.take (i + 1)) = cprod (ps.take i) * p.c := by rw [take_snoc hp, cprod_app, cprod_one]
      refine ⟨rfl, some (.int (0 + (i : Int))), some (.ref t), ?_⟩
      rw [et, ec]
      rfl
    · rintro σ' H1 ⟨rfl, o4, o5, rfl⟩
      rw [hlen, List.take_length]
      refine ⟨_, rfl, _, rfl, _, rfl, L, ps, rfl, hL, l64, fun H2 s2 => ?_⟩
      refine ⟨_, _, rfl, rfl, wide_mul pk.pc (wsum_bd pk) (by omega) (by omega) (by omega), (by show 2 ≤ sizeLine; decide), fun z hz => ?_⟩
      exact q z _ (s2.trans (same_upd hz)) upd_same
end
end L

set_option Elab.async false
set_option linter.all false
set_option maxRecDepth 100000
set_option maxHeartbeats 4000000
set_option pp.maxSteps 160
set_option pp.deepTerms false
namespace L
open PySem PySem.Spec PyProof.Rows L2 Fl
local macro_rules | `(tactic| walk_at "side") => `(tactic| first | (exact .inl ⟨by omega, by omega⟩) | (exact .inr ⟨by omega, by omega⟩) | (exact .inr ⟨by decide, by decide⟩) | (show (_ : Int) ≠ _; omega) | (exact ⟨by omega, by decide⟩) | (exact ⟨by decide, by decide, by decide⟩))
local macro_rules | `(tactic| walk_at "go") => `(tactic| repeat (first | refine ⟨_, rfl, ?_⟩ | refine ⟨_, _, rfl, rfl, ?_⟩ | refine .inl ⟨_, rfl, ?_⟩ | refine ⟨rfl, ?_⟩ | refine ⟨(by walk_at "side"), ?_⟩))
local macro_rules | `(tactic| walk_at "see") => `(tactic| (set_option pp.maxSteps 110 in set_option pp.deepTerms false in trace_state))
local macro_rules | `(tactic| walk_at "if") => `(tactic| first | refine ifE ?_ ?_ | refine ifNE ?_ ?_ | refine ifD ?_ ?_ | refine ifN ?_ ?_ | refine ifB ?_ ?_)
open Bx

theorem row_eqv (a b c a' b' c' : Int) : PyData.eqv (.tuple [.int a, .int b, .int c]) (.tuple [.int a', .int b', .int c']) = (decide (a = a') && decide (b = b') && decide (c = c')) := by
  have e : PyData.eqv (.tuple [.int a, .int b, .int c]) (.tuple [.int a', .int b', .int c']) = ((a == a') && ((b == b') && ((c == c') && true))) := by simp only [PyData.eqv, PyData.eqvAll]
  rw [e]
  by_cases h1 : a = a' <;> by_cases h2 : b = b' <;> by_cases h3 : c = c' <;> simp [h1, h2, h3]
theorem rowP_updL {H : Hp} {v : V} {p : Pt} {l : Addr} {acc : List V} {o : HO} (h : RowP H v p) (hl : H l = some (.lst acc)) : RowP (upd H l o) v p := by
  obtain ⟨t, r, e, h1, h2⟩ := h
  have h2' : H r = some (.tup [.int p.f, .int p.s, .int p.c]) := h2
  refine ⟨t, r, e, ?_, ?_⟩
  · rw [upd_ne (ne_of h1 hl (by intro z; cases z))]; exact h1
  · show upd H l o r = _
    rw [upd_ne (ne_of h2' hl (by intro z; cases z))]; exact h2'
theorem rowP_keep {H H' : Hp} {v : V} {q : Pt} {p : Pla} (h : RowP H v q) (hP : Pool H p) (k : Keeps H H' p) : RowP H' v q := by
  obtain ⟨t, r, e, h1, h2⟩ := h
  have h2' : H r = some (.tup [.int q.f, .int q.s, .int q.c]) := h2
  obtain ⟨ns, i, b, c, d, hp, _⟩ := hP
  exact ⟨t, r, e, k _ _ h1 (ne_of h1 hp (by intro z; cases z)), k _ _ h2' (ne_of h2' hp (by intro z; cases z))⟩
theorem rows_keep {H H' : Hp} {L : Addr} {ps : List Pt} {p : Pla} (h : LAt RowP H L ps) (hP : Pool H p) (n : L ≠ p) (k : Keeps H H' p) : LAt RowP H' L ps := by
  obtain ⟨vs, h1, h2, h3⟩ := h
  refine ⟨vs, k _ _ h1 n, h2, fun i x hx => ?_⟩
  obtain ⟨v, hv, r⟩ := h3 i x hx
  exact ⟨v, hv, rowP_keep r hP k⟩
theorem rows_add {H : Hp} {L : Addr} {us : List V} {ps : List Pt} {v : V} {p : Pt} (hL : H L = some (.lst us)) (hlen : us.length = ps.length) (hall : ∀ (i : Nat) (x : Pt), ps[i]? = some x → ∃ v, us[i]? = some v ∧ RowP H v x) (hv : RowP H v p) : LAt RowP (upd H L (.lst (us ++ [v]))) L (ps ++ [p]) := by
  refine ⟨us ++ [v], upd_same, by rw [List.length_append, List.length_append, hlen]; rfl, fun i x hx => ?_⟩
  by_cases hi : i < ps.length
  · rw [List.getElem?_append_left hi] at hx
    obtain ⟨u, hu, r⟩ := hall i x hx
    exact ⟨u, by rw [List.getElem?_append_left (by omega)]; exact hu, rowP_updL r hL⟩
  · rw [List.getElem?_append_right (by omega)] at hx
    have e : i = ps.length := by
      rcases Nat.lt_or_ge (i - ps.length) 1 with h | h
      · omega
      · rw [List.getElem?_eq_none (by simpa using h)] at hx
        cases hx
    subst e
    rw [Nat.sub_self] at hx
    cases hx
    exact ⟨v, by rw [← hlen, List.getElem?_append_right (Nat.le_refl _), Nat.sub_self]; rfl, rowP_updL hv hL⟩
def Unlike (ps : List Pt) : Prop := ∀ (i j : Nat) (p q : Pt), ps[i]? = some p → ps[j]? = some q → sameRun p q = true → i = j
theorem unlike_add {ps : List Pt} {p : Pt} (h : Unlike ps) (hn : ps.any (fun q => sameRun q p) = false) : Unlike (ps ++ [p]) := by
  have at_ : ∀ {i : Nat} {x : Pt}, (ps ++ [p])[i]? = some x → ps[i]? = some x ∨ (i = ps.length ∧ x = p) := fun {i x} hx => by
    by_cases hi : i < ps.length
    · rw [List.getElem?_append_left hi] at hx
      exact .inl hx
    · rw [List.getElem?_append_right (by omega)] at hx
      have e : i = ps.length := by
        rcases Nat.lt_or_ge (i - ps.length) 1 with h | h
        · omega
        · rw [List.getElem?_eq_none (by simpa using h)] at hx
          cases hx
      subst e
      rw [Nat.sub_self] at hx
      cases hx
      exact .inr ⟨rfl, rfl⟩
  intro i j x y hx hy e
  rcases at_ hx with hx' | ⟨ei, ex⟩ <;> rcases at_ hy with hy' | ⟨ej, ey⟩
  · exact h i j x y hx' hy' e
  · rw [ey] at e
    rw [any_of hx' e] at hn
    cases hn
  · rw [ex] at e
    rw [any_of hy' (sr_comm e)] at hn
    cases hn
  · omega
structure Bag (i : Nat) (ps : List Pt) : Prop where
  le : ps.length ≤ i
  pos : 0 < i → 0 < ps.length
  ok : ∀ p ∈ ps, POk p
  nd : Unlike ps
  pc : (cprod ps).natAbs < 2 ^ (204 * i + 1)
  lo : ∀ p ∈ ps, p.f < 10 ^ 60
theorem Bag.add {i : Nat} {ps : List Pt} {p : Pt} (h : Bag i ps) (po : POk p) (pl : p.f < 10 ^ 60) (hn : ps.any (fun q => sameRun q p) = false) : Bag (i + 1) (ps ++ [p]) := by
  refine ⟨by rw [List.length_append]; have := h.le; show _ + 1 ≤ _; omega, fun _ => by rw [List.length_append]; show 0 < _ + 1; omega, fun q hq => ?_, unlike_add h.nd hn, ?_, fun q hq => ?_⟩
  · rcases List.mem_append.mp hq with hq | hq
    · exact h.ok q hq
    · rw [List.mem_singleton.mp hq]; exact po
  · rw [cprod_app, cprod_one]
    have cb : p.c.natAbs < 2 ^ 204 := by have := po.ok.cb; have := po.ok.ok.c1; omega
    have := wide_lt h.pc cb
    rw [show 204 * (i + 1) + 1 = 204 * i + 1 + 204 by omega]
    exact this
  · rcases List.mem_append.mp hq with hq | hq
    · exact h.lo q hq
    · rw [List.mem_singleton.mp hq]; exact pl
theorem Bag.skip {i : Nat} {ps : List Pt} (h : Bag i ps) (l : 0 < ps.length) : Bag (i + 1) ps :=
  ⟨by have := h.le; omega, fun _ => l, h.ok, h.nd, Nat.lt_of_lt_of_le h.pc (Nat.pow_le_pow_right (by decide) (by omega)), h.lo⟩
theorem Bag.ps {i : Nat} {ps : List Pt} (h : Bag i ps) (h1 : 0 < i) (h6 : i ≤ 6) : PsOk ps :=
  ⟨h.pos h1, by have := h.le; omega, h.ok, h.nd, Nat.lt_of_lt_of_le h.pc (Nat.pow_le_pow_right (by decide) (by omega))⟩
theorem keeps_late {H0 H : Hp} {D p : Addr} {o : HO} (s : Keeps H0 H p) (h : H0 D = none) : Keeps H0 (upd H D o) p := fun b u e n => by
  rw [upd_ne (ne_of_none e h)]
  exact s b u e n
/-- the k-th long row -/
def longP (w r : Nat → Int) (i : Nat) : Pt := ⟨w i, 3 * (i : Int) + r i, 1, 1⟩
structure Bag3 (i : Nat) (ps : List Pt) : Prop where
  le : ps.length ≤ i
  pos : 0 < i → 0 < ps.length
  ok : ∀ p ∈ ps, POk p
  nd : Unlike ps
  pc : (cprod ps).natAbs < 2 ^ (204 * i + 1)
  lo : ∀ p ∈ ps, p.c ≤ 7
theorem Bag3.add {i : Nat} {ps : List Pt} {p : Pt} (h : Bag3 i ps) (po : POk p) (pl : p.c ≤ 7) (hn : ps.any (fun q => sameRun q p) = false) : Bag3 (i + 1) (ps ++ [p]) := by
  refine ⟨by rw [List.length_append]; have := h.le; show _ + 1 ≤ _; omega, fun _ => by rw [List.length_append]; show 0 < _ + 1; omega, fun q hq => ?_, unlike_add h.nd hn, ?_, fun q hq => ?_⟩
  · rcases List.mem_append.mp hq with hq | hq
    · exact h.ok q hq
    · rw [List.mem_singleton.mp hq]; exact po
  · rw [cprod_app, cprod_one]
    have cb : p.c.natAbs < 2 ^ 204 := by have := po.ok.cb; have := po.ok.ok.c1; omega
    have := wide_lt h.pc cb
    rw [show 204 * (i + 1) + 1 = 204 * i + 1 + 204 by omega]
    exact this
  · rcases List.mem_append.mp hq with hq | hq
    · exact h.lo q hq
    · rw [List.mem_singleton.mp hq]; exact pl
theorem Bag3.skip {i : Nat} {ps : List Pt} (h : Bag3 i ps) (l : 0 < ps.length) : Bag3 (i + 1) ps :=
  ⟨by have := h.le; omega, fun _ => l, h.ok, h.nd, Nat.lt_of_lt_of_le h.pc (Nat.pow_le_pow_right (by decide) (by omega)), h.lo⟩
theorem Bag3.ps {i : Nat} {ps : List Pt} (h : Bag3 i ps) (h1 : 0 < i) (h6 : i ≤ 6) : PsOk ps :=
  ⟨h.pos h1, by have := h.le; omega, h.ok, h.nd, Nat.lt_of_lt_of_le h.pc (Nat.pow_le_pow_right (by decide) (by omega))⟩
section
variable {P : Program} {w : World} {K : PySem.W.Frag} {mg : Str → Option Value} {base : Heap}

def spParts : Sp := fun vs H Q _ => ∃ (p : Pla), vs = [.ref p, .int 6] ∧ Pool H p ∧ ∀ (L : Addr) (ps : List Pt) (H' : Hp), Pool H' p → Keeps H H' p → L ≠ p → LAt RowP H' L ps → PsOk ps → (∀ p ∈ ps, p.f < 10 ^ 60) → ps.length ≤ 6 → Q (.ref L) H'
abbrev CalParts (P : Program) (w : World) (K : PySem.W.Frag) (mg : Str → Option Value) (base : Heap) := Cal P w K mg base 6 "_law_parts" ["_law_pool_here", "_law_most"] spParts
theorem ok_parts (B : Blt mg) (C_draw : CalDraw P w K mg base) (C_any : CalAny P w K mg base) (C_great_run : CalGR P w K mg base) (Df : Dfn K mg "_law_parts" "_law_parts" s_parts ["_law_pool_here", "_law_most"]) : CalParts P w K mg base := by
  refine Df.cal sc_parts (fun vs H Q E h => ?_) (fun fA cdv A outer st H vs Q E hr h => ?_)
  · obtain ⟨p, rfl, _⟩ := h
    rfl
  · obtain ⟨p, rfl, hP, q⟩ := h
    refine ⟨_, (pss_cons (ps_set (i := 2) sc_parts.nd rfl (Or.inl rfl) (pe_lst pa_nil))
      (pss_cons (ps_for PassesOwn.never rfl (pi_range1 (by rfl) B.range (pa_cons (pe_op op_add (pe_int) (pe_cal C_draw (hr.mono (by decide)) (pa_cons (pv 0) (pa_cons (pv 1) pa_nil)))) pa_nil)) (pg_name (i := 3) sc_parts.nd rfl (Or.inl rfl)) (pss_cons (ps_set (i := 4) sc_parts.nd rfl (Or.inl rfl) (pe_op op_add (pe_int) (pe_cal C_draw (hr.mono (by decide)) (pa_cons (pv 0) (pa_cons (pe_int) pa_nil)))))
      (Evl.pss_cut (ps_if (pt_cmpR op_eq (pe_cal C_draw (hr.mono (by decide)) (pa_cons (pv 0) (pa_cons (pe_int) pa_nil))) (pe_int) (nomark _)) (pss_one (ps_set (i := 4) sc_parts.nd rfl (Or.inl rfl) (pe_op op_add (pe_int) (pe_cal C_any (hr.mono (by decide)) (pa_cons (pv 0) pa_nil))))) pss_nil)
      (pss_cons (ps_set (i := 5) sc_parts.nd rfl (Or.inr rfl) (pe_cal C_great_run (hr.mono (by decide)) (pa_cons (pv 0) pa_nil)))
      (pss_one (ps_if (pt_not (pt_truth (pe_lc (own := [("_law_part", 6)]) (g := (gName 6)) rfl sc_parts.nd (pi_list (pv 2)) (blkOk_by (N := ["_law_pool_here", "_law_most", "_law_parts_here", "_law_spare", "_law_weight", "_law_row", "_law_part"]) (sc := defScope s_parts) (by decide +kernel)) (fun _ _ _ _ _ => (pg_name (i := 6) sc_parts.nd rfl (Or.inl rfl))) (fun _ _ _ _ _ => (pts_one (pt_cmpR (show OpR _ _ (rEqD K) from op_eqD hr.units) (pe_ix (show IxR _ (rIxT K) from ix_tup) (pv 6) (pe_int) (fun _ _ => rfl)) (pv 5) (nomark _)))) (fun _ _ _ _ _ => (pv 6))) (fun _ => rfl))) (pss_one ((ps_expr (pe_bm PySem.F.plainAttrs_list PySem.F.slot_list_append PySem.F.type_list_append mt_append (pv 2) (pa_cons (pe_tup (pa_cons (pv 4) (pa_cons (pv 5) pa_nil))) pa_nil))))) pss_nil))))))
      (pss_one (ps_ret (pv 2))))), ?_⟩
    refine ⟨(by show 0 ≤ sizeLine; decide), fun l hl => ?_⟩
    have hP0 := hP.upd (o := .lst []) hl
    have lp := hP.apart hl
    refine ⟨_, rfl, _, rfl, p, 6, rfl, hP0, by decide, by decide, fun r6 H1 h0r h1r hP1 k1 => ?_⟩
    have hl1 : H1 l = some (.lst []) := k1 _ _ upd_same lp.1
    have K1 : Keeps H H1 p := (same_keeps (same_upd hl)).trans k1
    refine ⟨_, _, rfl, rfl, _, rfl, by omega, by omega, for_range (n := (1 + r6).toNat) (fun i σ' H' => ∃ (ps : List Pt) (o3 o4 o5 o6 : Option V), LAt RowP H' l ps ∧ Bag i ps ∧ Pool H' p ∧ Keeps H H' p ∧ σ' = [some (.ref (p : Addr)), some (.int 6), some (.ref l), o3, o4, o5, o6])
      ⟨[], none, none, none, none, ⟨[], hl1, rfl, fun i x h => by simp at h⟩, ⟨Nat.le_refl 0, fun h => absurd h (by omega), (fun _ h => nomatch h), (fun i j p q h => by simp at h), by decide, (fun _ h => nomatch h)⟩, hP1, K1, rfl⟩ ?_ ?_⟩
    · rintro i σ' H2 hi ⟨ps, o3, o4, o5, o6, hL, bag, hP2, k2, rfl⟩
      refine ⟨_, rfl, p, 9, rfl, hP2, by decide, by decide, fun w0 H3 w00 w01 hP3 k3 => ⟨_, _, rfl, rfl, ?_⟩⟩
      have hL3 := rows_keep hL hP2 lp.1 k3
      refine ⟨fun σ' H' => ∃ w : Int, σ' = [some (.ref (p : Addr)), some (.int 6), some (.ref l), some (.int (0 + (i : Int))), some (.int w), o5, o6] ∧ 1 ≤ w ∧ w ≤ 10 ^ 60 ∧ LAt RowP H' l ps ∧ Pool H' p ∧ Keeps H H' p, ?_, ?_⟩
      · refine ⟨_, rfl, p, 4, rfl, hP3, by decide, by decide, fun r H4 r0 r1 hP4 k4 => ?_⟩
        have hL4 := rows_keep hL3 hP3 lp.1 k4
        refine ⟨rfl, _, rfl, ifE (fun _ => ?_) (fun _ => ?_)⟩
        · refine ⟨_, rfl, p, rfl, hP4, fun a H5 a0 a1 hP5 k5 => ⟨_, _, rfl, rfl, ?_⟩⟩
          exact ⟨_, rfl, by omega, by omega, rows_keep hL4 hP4 lp.1 k5, hP5, ((k2.trans k3).trans k4).trans k5⟩
        · exact ⟨_, rfl, by omega, by omega, hL4, hP4, (k2.trans k3).trans k4⟩
      rintro σ' H4 ⟨w, rfl, w1, w2, hL4, hP4, k4⟩
      refine ⟨_, rfl, p, rfl, hP4, fun t f s c H5 hP5 k5 htn hrow hok hlow => ?_⟩
      have hL5 := rows_keep hL4 hP4 lp.1 k5
      have hrow' : H5 t = some (.tup [.int f, .int s, .int c]) := hrow
      obtain ⟨us, hus, hlen, hall⟩ := id hL5
      have i6 : i < 6 := by omega
      refine ⟨_, rfl, l, rfl, ⟨_, SqL.of hus⟩, fun D1 hD1 => lc_list (xs := us) (fun j H' => Same H5 H' ∧ ∃ acc : List V, H' D1 = some (.lst acc) ∧ acc.length ≤ j ∧ (acc.isEmpty = !((ps.take j).any fun q => sameRun q ⟨w, f, s, c⟩)))
        ⟨same_upd hD1, [], upd_same, Nat.le_refl 0, rfl⟩ (fun j H' _ h => SqL.of (h.1 _ _ hus)) ?_ ?_⟩
      · rintro j x H6 hx ⟨s6, acc, hacc, hle, hem⟩
        obtain ⟨qq, hq⟩ := item hlen hx
        obtain ⟨x', hx', t2, r2, rfl, ht2, hr2⟩ := hall j qq hq
        rw [hx] at hx'
        cases hx'
        have jl := (List.getElem?_eq_some_iff.mp hx).1
        have hl6 := bag.le
        have sz : (6 : Nat) ≤ sizeLine := by decide
        have ht6 := s6 _ _ ht2
        have hr6 : H6 r2 = some (.tup [.int qq.f, .int qq.s, .int qq.c]) := s6 _ _ hr2
        have e1 : ((ps.take (j + 1)).any fun q => sameRun q ⟨w, f, s, c⟩) = (((ps.take j).any fun q => sameRun q ⟨w, f, s, c⟩) || sameRun qq ⟨w, f, s, c⟩) := by
          rw [take_snoc hq, List.any_append, List.any_cons, List.any_nil, Bool.or_false]
        refine ⟨rfl, ?_⟩
        refine ⟨_, rfl, _, _, _, _, rfl, rfl, SqT.of (ht6), rfl, _, rfl, .tuple [.int qq.f, .int qq.s, .int qq.c], .tuple [.int f, .int s, .int c], .tup (SqT.of hr6) (.cons (.int _) (.cons (.int _) (.cons (.int _) .nil))), .tup (SqT.of (s6 _ _ hrow')) (.cons (.int _) (.cons (.int _) (.cons (.int _) .nil))), rfl, rfl, _, rfl, ?_⟩
        rw [row_eqv]
        cases hb : sameRun qq ⟨w, f, s, c⟩ with
        | true =>
          have hb' : (decide (qq.f = f) && decide (qq.s = s) && decide (qq.c = c)) = true := hb
          rw [hb']
          refine iteT ?_
          refine ⟨_, rfl, acc, hacc, by omega, same_late s6 hD1, _, upd_same, by rw [List.length_append]; show _ + 1 ≤ _; omega, ?_⟩
          rw [e1, hb, Bool.or_true]
          cases acc <;> rfl
        | false =>
          have hb' : (decide (qq.f = f) && decide (qq.s = s) && decide (qq.c = c)) = false := hb
          rw [hb']
          refine iteF ?_
          exact ⟨s6, acc, hacc, by omega, by rw [e1, hb, Bool.or_false]; exact hem⟩
      · rintro H6 ⟨s6, acc, hacc, hle, hem⟩
        rw [hlen, List.take_length] at hem
        refine ⟨_, .inl ⟨acc, SqL.of hacc, rfl⟩, ?_⟩
        have hus6 := s6 _ _ hus
        have K6 := (k4.trans k5).trans (same_keeps s6)
        have hP6 := hP5.same s6
        cases hb : (ps.any fun q => sameRun q ⟨w, f, s, c⟩) with
        | true =>
          rw [hb] at hem
          rw [hem]
          refine iteF ?_
          have l0 : 0 < ps.length := by
            rw [List.any_eq_true] at hb
            obtain ⟨q, hq, _⟩ := hb
            exact List.length_pos_of_mem hq
          exact ⟨ps, _, _, _, _, hL5.same rowP_mono s6, bag.skip l0, hP6, K6, rfl⟩
        | false =>
          rw [hb] at hem
          rw [hem]
          refine iteT ?_
          refine ⟨_, rfl, .inl ⟨rfl, _, SqL.of hus6⟩, _, rfl, _, rfl, (by show 2 ≤ sizeLine; decide), fun tn htn => ?_⟩
          have sn := same_upd (o := .tup [.int w, .ref t]) htn
          have hus7 := sn _ _ hus6
          have ul : us.length < sizeLine := by
            have : (6 : Nat) ≤ sizeLine := by decide
            have := bag.le
            omega
          refine ⟨l, us, _, rfl, rfl, hus7, ul, ?_⟩
          refine ⟨ps ++ [⟨w, f, s, c⟩], _, _, _, _, rows_add hus7 hlen (fun i x hx => ?_) ⟨tn, t, rfl, upd_same, (s6.trans sn) _ _ hrow'⟩, bag.add ⟨w1, w2, hok⟩ hlow hb, (hP6.same sn).store lp.1 lp.2, ?_, rfl⟩
          · obtain ⟨v, hv, r⟩ := hall i x hx
            exact ⟨v, hv, rowP_mono _ _ _ _ (s6.trans sn) r⟩
          · exact keeps_late (K6.trans (same_keeps sn)) hl
    · rintro σ' H2 ⟨ps, o3, o4, o5, o6, hL, bag, hP2, k2, rfl⟩
      exact ⟨_, rfl, q l ps H2 hP2 k2 lp.1 hL (bag.ps (by omega) (by omega)) bag.lo (by have := bag.le; omega)⟩
end

theorem pe_or {X : Cx} {e : Expr} {t u : TE} (h : PE X e t) (k : PE X e u) : PE X e (fun σ H Q => t σ H Q ∨ u σ H Q) := ⟨fun pins s σ H Q I q => by
  rcases q with q | q
  · exact h.run pins s σ H Q I q
  · exact k.run pins s σ H Q I q⟩
structure LongOk (ps : List Pt) : Prop where
  at_ : ∀ (j : Nat) (x : Pt), ps[j]? = some x → 1 ≤ x.n ∧ x.n ≤ 3 ∧ 3 * (j : Int) ≤ x.f ∧ x.f < 3 * (j : Int) + 3 ∧ x.s = 1 ∧ x.c = 1
theorem cprod_ones : ∀ {ps : List Pt}, (∀ p ∈ ps, p.c = 1) → cprod ps = 1
  | [], _ => rfl
  | p :: r, h => by
    show p.c * cprod r = 1
    rw [h p (List.mem_cons_self ..), cprod_ones fun q hq => h q (List.mem_cons_of_mem _ hq)]
    rfl
theorem long_ps {ps : List Pt} (h : LongOk ps) (l1 : 0 < ps.length) (l64 : ps.length ≤ 64) : PsOk ps := by
  have mem : ∀ p ∈ ps, ∃ j : Nat, ps[j]? = some p ∧ j < 64 := fun p hp => by
    obtain ⟨j, hj⟩ := List.mem_iff_getElem?.mp hp
    have := (List.getElem?_eq_some_iff.mp hj).1
    exact ⟨j, hj, by omega⟩
  refine ⟨l1, l64, fun p hp => ?_, fun i j p q hi hj e => ?_, ?_⟩
  · obtain ⟨j, hj, j64⟩ := mem p hp
    obtain ⟨h1, h2, h3, h4, h5, h6⟩ := h.at_ j p hj
    exact ⟨h1, by omega, ⟨⟨by omega, by omega, by omega, by omega⟩, by omega, by omega, fun _ => h5⟩⟩
  · have a := h.at_ i p hi
    have b := h.at_ j q hj
    have := (sameRun_iff.1 e).1
    omega
  · rw [cprod_ones fun p hp => by
      obtain ⟨j, hj, _⟩ := mem p hp
      exact (h.at_ j p hj).2.2.2.2.2]
    decide +kernel
theorem long_low {ps : List Pt} (h : LongOk ps) (l64 : ps.length ≤ 64) : ∀ p ∈ ps, p.f < 10 ^ 60 := fun p hp => by
  obtain ⟨j, hj⟩ := List.mem_iff_getElem?.mp hp
  have := (List.getElem?_eq_some_iff.mp hj).1
  have := (h.at_ j p hj).2.2.2.1
  omega
theorem long_add {ps : List Pt} (h : LongOk ps) {x : Pt} (hx : 1 ≤ x.n ∧ x.n ≤ 3 ∧ 3 * (ps.length : Int) ≤ x.f ∧ x.f < 3 * (ps.length : Int) + 3 ∧ x.s = 1 ∧ x.c = 1) : LongOk (ps ++ [x]) := ⟨fun j y hy => by
  by_cases hj : j < ps.length
  · rw [List.getElem?_append_left hj] at hy
    exact h.at_ j y hy
  · rw [List.getElem?_append_right (by omega)] at hy
    have e : j = ps.length := by
      rcases Nat.lt_or_ge (j - ps.length) 1 with h | h
      · omega
      · rw [List.getElem?_eq_none (by simpa using h)] at hy
        cases hy
    subst e
    rw [Nat.sub_self] at hy
    cases hy
    exact hx⟩
/-- a blend that no draw touches -/
structure BlP (C D F p : Addr) (H : Hp) (x : Addr) (ps : List Pt) : Prop where
  ex : ∃ dx k, H x = some (.ins F dx (bf (.ref k))) ∧ LAt (OutP C D (wsum ps)) H k ps ∧ k ≠ p
theorem BlP.bl {C D F p : Addr} {H : Hp} {x : Addr} {ps : List Pt} (h : BlP C D F p H x ps) : BlAt C D F (wsum ps) H x ps := by
  obtain ⟨dx, k, h1, h2, _⟩ := h.ex
  exact ⟨dx, k, h1, h2⟩
theorem BlP.same {C D F p : Addr} {H H' : Hp} {x : Addr} {ps : List Pt} (h : BlP C D F p H x ps) (s : Same H H') : BlP C D F p H' x ps := by
  obtain ⟨dx, k, h1, h2, h3⟩ := h.ex
  exact ⟨dx, k, s _ _ h1, h2.same (outP_mono C D _) s, h3⟩
theorem BlP.keep {C D F : Addr} {p : Pla} {H H' : Hp} {x : Addr} {ps : List Pt} (h : BlP C D F p H x ps) (hP : Pool H p) (k : Keeps H H' p) : BlP C D F p H' x ps := by
  obtain ⟨dx, kk, h1, ⟨vs, hv, hl, ha⟩, h3⟩ := h.ex
  obtain ⟨ns, i, b, c, d, hp, _⟩ := hP
  have up : ∀ {a : Addr} {o : HO}, H a = some o → (∀ xs, o ≠ .lst xs) → H' a = some o := fun {a o} ha n => k _ _ ha (ne_of ha hp (n _))
  refine ⟨dx, kk, up h1 (by intro _ z; cases z), ⟨vs, k _ _ hv h3, hl, fun j q hq => ?_⟩, h3⟩
  obtain ⟨v, hv, t, xr, r, e, ht, ⟨d1, hx⟩, ⟨d2, hr⟩⟩ := ha j q hq
  exact ⟨v, hv, t, xr, r, e, up ht (by intro _ z; cases z), ⟨d1, up hx (by intro _ z; cases z)⟩, ⟨d2, up hr (by intro _ z; cases z)⟩⟩
section
variable {P : Program} {w : World} {K : PySem.W.Frag} {mg : Str → Option Value} {base : Heap}

def spDraw1 : Sp := fun vs H Q _ => ∃ (p : Pla), vs = [.ref p, .int 1] ∧ Q (.int 0) H
abbrev CalDraw1 (P : Program) (w : World) (K : PySem.W.Frag) (mg : Str → Option Value) (base : Heap) := Cal P w K mg base 2 "_law_draw" ["_law_pool_here", "_law_many"] spDraw1
theorem ok_draw1 (B : Blt mg) (D : Dfn K mg "_law_draw" "_law_draw" s_draw ["_law_pool_here", "_law_many"]) (C_mix : CalMix P w K mg base) : CalDraw1 P w K mg base := by
  refine D.cal sc_draw (fun vs H Q E h => ?_) (fun f cdv A outer st H vs Q E hr h => ?_)
  · obtain ⟨p, rfl, _⟩ := h
    rfl
  · obtain ⟨p, rfl, q⟩ := h
    refine ⟨_, (pss_cons (ps_if (PW.pt (pw_or (pt_cmpR op_lt (pv 1) (pe_int) (nomark _)) (pw_or1 (pt_cmpR op_eq (pe_callB call_len_seq (by rfl) B.len PySem.boot_len (pa_cons (pe_ix ix_list (pv 0) (pe_int) (fun _ _ => rfl)) pa_nil)) (pe_int) (nomark _))))) (pss_one (ps_ret (pe_int))) pss_nil)
      (pss_cons (ps_asg (pe_op op_add (pe_ix ix_list (pv 0) (pe_int) (fun _ _ => rfl)) (pe_int)) (pg_sub (pv 0) (pe_int) set_list))
      (pss_cons (ps_for PassesOwn.never rfl (pi_range1 (by rfl) B.range (pa_cons (pe_int) pa_nil)) (pg_name (i := 2) sc_draw.nd rfl (Or.inl rfl)) (pss_cons (ps_if (pt_cmpR op_gt (pe_ix ix_list (pv 0) (pe_int) (fun _ _ => rfl)) (pe_int) (nomark _)) (pss_cons (ps_set (i := 3) sc_draw.nd rfl (Or.inl rfl) (pe_op op_modN (pe_callTy call_int1 (by rfl) B.int (by decide +kernel) (pa_cons (pe_ix ix_list (pv 0) (pe_int) (fun _ _ => rfl)) pa_nil)) (pv 1)))
      (pss_cons (ps_asg (pe_op op_fdivA (pe_ix ix_list (pv 0) (pe_int) (fun _ _ => rfl)) (pv 1)) (pg_sub (pv 0) (pe_int) set_list))
      (pss_one (ps_ret (pv 3))))) pss_nil)
      (pss_cons (ps_if (pt_cmpR op_ge (pe_ix ix_list (pv 0) (pe_int) (fun _ _ => rfl)) (pe_callB call_len_seq (by rfl) B.len PySem.boot_len (pa_cons (pe_ix ix_list (pv 0) (pe_int) (fun _ _ => rfl)) pa_nil)) (nomark _)) (pss_one (ps_ret (pe_cal C_mix (hr.mono (by decide)) (pa_cons (pe_ix ix_list (pv 0) (pe_int) (fun _ _ => rfl)) (pa_cons (pe_ix ix_list (pv 0) (pe_int) (fun _ _ => rfl)) (pa_cons (pv 1) pa_nil)))))) pss_nil)
      (pss_cons (ps_set (i := 4) sc_draw.nd rfl (Or.inl rfl) (pe_ix ix_list (pe_ix ix_list (pv 0) (pe_int) (fun _ _ => rfl)) (pe_ix ix_list (pv 0) (pe_int) (fun _ _ => rfl)) (fun _ _ => rfl)))
      (pss_cons (ps_asg (pe_op op_add (pe_ix ix_list (pv 0) (pe_int) (fun _ _ => rfl)) (pe_int)) (pg_sub (pv 0) (pe_int) set_list))
      (pss_cons (ps_asg (pe_op op_modN (pe_callTy call_int1 (by rfl) B.int (by decide +kernel) (pa_cons (pe_op op_add (pe_op op_add (pe_op op_mul (pe_ix ix_list (pv 0) (pe_int) (fun _ _ => rfl)) (pe_int)) (pe_op op_mul (pv 4) (pe_int))) (pe_int)) pa_nil)) (pe_int)) (pg_sub (pv 0) (pe_int) set_list))
      (pss_cons (ps_if (pt_cmpR op_lt (pv 4) (pe_op op_pow (pe_int) (pe_int)) (nomark _)) (pss_one (ps_ret (pe_cal C_mix (hr.mono (by decide)) (pa_cons (pe_ix ix_list (pv 0) (pe_int) (fun _ _ => rfl)) (pa_cons (pe_ix ix_list (pv 0) (pe_int) (fun _ _ => rfl)) (pa_cons (pv 1) pa_nil)))))) pss_nil)
      (pss_one (ps_asg (pe_op op_sub (pv 4) (pe_op op_pow (pe_int) (pe_int))) (pg_sub (pv 0) (pe_int) set_list))))))))))
      (pss_one (ps_ret (pe_cal C_mix (hr.mono (by decide)) (pa_cons (pe_ix ix_list (pv 0) (pe_int) (fun _ _ => rfl)) (pa_cons (pe_ix ix_list (pv 0) (pe_int) (fun _ _ => rfl)) (pa_cons (pv 1) pa_nil))))))))), ?_⟩
    exact ⟨_, rfl, _, _, rfl, rfl, _, rfl, itT (by decide) q⟩
def spLong : Sp := fun vs H Q _ => ∃ (p : Pla), vs = [.ref p] ∧ Pool H p ∧ ∀ (L : Addr) (ps : List Pt) (H' : Hp), Pool H' p → Keeps H H' p → L ≠ p → LAt RowP H' L ps → PsOk ps → (∀ p ∈ ps, p.f < 10 ^ 60) → Q (.ref L) H'
abbrev CalLong (P : Program) (w : World) (K : PySem.W.Frag) (mg : Str → Option Value) (base : Heap) := Cal P w K mg base 3 "_law_long_row" ["_law_pool_here"] spLong
theorem ok_long (B : Blt mg) (C_draw : CalDraw P w K mg base) (Df : Dfn K mg "_law_long_row" "_law_long_row" s_long_row ["_law_pool_here"]) : CalLong P w K mg base := by
  refine Df.cal sc_long_row (fun vs H Q E h => ?_) (fun fA cdv A outer st H vs Q E hr h => ?_)
  · obtain ⟨p, rfl, _⟩ := h
    rfl
  · obtain ⟨p, rfl, hP, q⟩ := h
    refine ⟨_, (pss_cons (ps_set (i := 1) sc_long_row.nd rfl (Or.inl rfl) (pe_op op_add (pe_int) (pe_cal C_draw (hr.mono (by decide)) (pa_cons (pv 0) (pa_cons (pe_int) pa_nil)))))
      (pss_one (ps_ret (pe_lc (own := [("_law_index", 2)]) (g := gName 2) rfl sc_long_row.nd (pi_range1 (by rfl) B.range (pa_cons (pv 1) pa_nil)) (blkOk_by (N := ["_law_pool_here", "_law_many", "_law_index"]) (sc := defScope s_long_row) (by decide +kernel)) (fun _ _ _ _ _ => pg_name (i := 2) sc_long_row.nd rfl (Or.inl rfl)) (fun _ _ _ _ _ => pts_nil) (fun _ _ _ _ _ => (pe_tup (pa_cons (pe_op op_add (pe_int) (pe_cal C_draw (hr.mono (by decide)) (pa_cons (pv 0) (pa_cons (pe_int) pa_nil)))) (pa_cons (pe_tup (pa_cons (pe_op op_add (pe_op op_mulW (pe_int) (pv 2)) (pe_cal C_draw (hr.mono (by decide)) (pa_cons (pv 0) (pa_cons (pe_int) pa_nil)))) (pa_cons (pe_int) (pa_cons (pe_int) pa_nil)))) pa_nil)))))))), ?_⟩
    refine ⟨_, rfl, p, 58, rfl, hP, by decide, by decide, fun m H1 m0 m1 hP1 k1 => ⟨_, _, rfl, rfl, ?_⟩⟩
    refine ⟨_, rfl, _, rfl, by omega, by omega, fun D1 hD1 => lc_range (lo := 0) (n := (7 + m).toNat) (fun i H' => Pool H' p ∧ Keeps H1 H' p ∧ ∃ (ps : List Pt) (acc : List V), H' D1 = some (.lst acc) ∧ acc.length = ps.length ∧ (∀ (j : Nat) (x : Pt), ps[j]? = some x → ∃ v, acc[j]? = some v ∧ RowP H' v x) ∧ ps.length = i ∧ LongOk ps)
      ⟨hP1.upd hD1, same_keeps (same_upd hD1), [], [], upd_same, rfl, fun j x h => by simp at h, rfl, ⟨fun j x h => by simp at h⟩⟩ ?_ ?_⟩
    · rintro i H2 hi ⟨hP2, k2, ps, acc, hacc, hlen, hall, hl, lo⟩
      have dp := hP1.apart hD1
      have sz : (64 : Nat) ≤ sizeLine := by decide
      refine ⟨rfl, ?_⟩
      refine ⟨_, rfl, p, 3, rfl, hP2, by decide, by decide, fun r1 H3 a0 a1 hP3 k3 => ⟨_, _, rfl, rfl, ?_⟩⟩
      refine ⟨_, rfl, _, _, rfl, rfl, wide_mul (a := 2) (b := 10) (by decide) (by omega) (by decide) (by decide) (by decide), ?_⟩
      refine ⟨_, rfl, p, 3, rfl, hP3, by decide, by decide, fun r2 H4 b0 b1 hP4 k4 => ⟨_, _, rfl, rfl, (by show 3 ≤ sizeLine; decide), fun t ht => ⟨(by show 2 ≤ sizeLine; decide), fun u hu => ?_⟩⟩⟩
      have s5 := same_upd (o := .tup [.int ((3 : Int) * (0 + (i : Int)) + r2), .int 1, .int 1]) ht
      have s6 := same_upd (o := .tup [.int (1 + r1), .ref t]) hu
      have hacc4 := k4 _ _ (k3 _ _ hacc dp.1) dp.1
      have hacc6 := s6 _ _ (s5 _ _ hacc4)
      have hall6 : ∀ (j : Nat) (x : Pt), ps[j]? = some x → ∃ v, acc[j]? = some v ∧ RowP (upd (upd H4 t (.tup [.int ((3 : Int) * (0 + (i : Int)) + r2), .int 1, .int 1])) u (.tup [.int (1 + r1), .ref t])) v x := fun j x hx => by
        obtain ⟨v, hv, r⟩ := hall j x hx
        exact ⟨v, hv, rowP_mono _ _ _ _ (s5.trans s6) (rowP_keep (rowP_keep r hP2 k3) hP3 k4)⟩
      have nr : RowP (upd (upd H4 t (.tup [.int ((3 : Int) * (0 + (i : Int)) + r2), .int 1, .int 1])) u (.tup [.int (1 + r1), .ref t])) (.ref u) ⟨1 + r1, (3 : Int) * (0 + (i : Int)) + r2, 1, 1⟩ := ⟨u, t, rfl, upd_same, s6 _ _ upd_same⟩
      obtain ⟨us, hus, hlen2, hall2⟩ := rows_add hacc6 hlen hall6 nr
      rw [upd_same] at hus
      cases hus
      refine ⟨acc, hacc6, by omega, ((hP4.same s5).same s6).store dp.1 dp.2, ?_, ps ++ [⟨1 + r1, (3 : Int) * (0 + (i : Int)) + r2, 1, 1⟩], _, upd_same, hlen2, hall2, by rw [List.length_append, hl]; rfl, long_add lo ⟨by show 1 ≤ 1 + r1; omega, by show 1 + r1 ≤ 3; omega, by rw [hl]; show 3 * (i : Int) ≤ 3 * (0 + (i : Int)) + r2; omega, by rw [hl]; show 3 * (0 + (i : Int)) + r2 < _; omega, rfl, rfl⟩⟩
      exact keeps_late ((k2.trans (k3.trans k4)).trans ((same_keeps s5).trans (same_keeps s6))) hD1
    · rintro H2 ⟨hP2, k2, ps, acc, hacc, hlen, hall, hl, lo⟩
      exact q D1 ps H2 hP2 (k1.trans k2) (hP1.apart hD1).1 ⟨acc, hacc, hlen, hall⟩ (long_ps lo (by omega) (by omega)) (long_low lo (by omega))
end
end L

set_option Elab.async false
set_option linter.all false
set_option maxRecDepth 100000
set_option maxHeartbeats 4000000
set_option pp.maxSteps 160
set_option pp.deepTerms false
namespace L
open PySem PySem.Spec PyProof.Rows L2 Fl
local macro_rules | `(tactic| walk_at "side") => `(tactic| first | (exact .inl ⟨by omega, by omega⟩) | (exact .inr ⟨by omega, by omega⟩) | (exact .inr ⟨by decide, by decide⟩) | (show (_ : Int) ≠ _; omega) | (exact ⟨by omega, by decide⟩) | (exact ⟨by decide, by decide, by decide⟩))
local macro_rules | `(tactic| walk_at "go") => `(tactic| repeat (first | refine ⟨_, rfl, ?_⟩ | refine ⟨_, _, rfl, rfl, ?_⟩ | refine .inl ⟨_, rfl, ?_⟩ | refine ⟨rfl, ?_⟩ | refine ⟨(by walk_at "side"), ?_⟩))
local macro_rules | `(tactic| walk_at "see") => `(tactic| (set_option pp.maxSteps 110 in set_option pp.deepTerms false in trace_state))
local macro_rules | `(tactic| walk_at "if") => `(tactic| first | refine ifE ?_ ?_ | refine ifNE ?_ ?_ | refine ifD ?_ ?_ | refine ifN ?_ ?_ | refine ifB ?_ ?_)
open Bx
section
variable {P : Program} {w : World} {K : PySem.W.Frag} {mg : Str → Option Value} {base : Heap}

def spLot : Sp := fun vs H Q _ => ∃ (p : Pla) (L : Addr) (ps : List Pt), vs = [.ref p, .ref L] ∧ Pool H p ∧ L ≠ p ∧ LAt RowP H L ps ∧ PsOk ps ∧ (∀ q ∈ ps, q.f < 10 ^ 60) ∧ ∀ (M : Addr) (qs : List Pt) (H' : Hp), Pool H' p → Keeps H H' p → M ≠ p → H M = none → LAt RowP H' M qs → PsOk qs → qs.length ≤ 3 → (∀ q ∈ qs, q.c ≤ 7) → Q (.ref M) H'
abbrev CalLot (P : Program) (w : World) (K : PySem.W.Frag) (mg : Str → Option Value) (base : Heap) := Cal P w K mg base 7 "_law_lot" ["_law_pool_here", "_law_parts_here"] spLot
theorem ok_lot (B : Blt mg) (C_draw : CalDraw P w K mg base) (C_draw1 : CalDraw1 P w K mg base) (C_any : CalAny P w K mg base) (C_beside : CalBeside P w K mg base) (Df : Dfn K mg "_law_lot" "_law_lot" s_lot ["_law_pool_here", "_law_parts_here"]) : CalLot P w K mg base := by
  refine Df.cal sc_lot (fun vs H Q E h => ?_) (fun fA cdv A outer st H vs Q E hr h => ?_)
  · obtain ⟨p, L, ps, rfl, _⟩ := h
    rfl
  · obtain ⟨p, L, ps, rfl, hP, nL, hLr, pk, plow, q⟩ := h
    refine ⟨_, (pss_cons (ps_set (i := 2) sc_lot.nd rfl (Or.inl rfl) (pe_lst pa_nil))
      (pss_cons (ps_for PassesOwn.never rfl (pi_range1 (by rfl) B.range (pa_cons (pe_op op_add (pe_int) (pe_cal C_draw (hr.mono (by decide)) (pa_cons (pv 0) (pa_cons (pe_int) pa_nil)))) pa_nil)) (pg_name (i := 3) sc_lot.nd rfl (Or.inl rfl)) (pss_cons (ps_set (i := 4) sc_lot.nd rfl (Or.inl rfl) (pe_op op_add (pe_int) (pe_cal C_draw (hr.mono (by decide)) (pa_cons (pv 0) (pa_cons (pe_int) pa_nil)))))
      (pss_cons (ps_set (i := 5) sc_lot.nd rfl (Or.inl rfl) (pe_cal C_draw (hr.mono (by decide)) (pa_cons (pv 0) (pa_cons (pe_int) pa_nil))))
      (pss_cons (ps_set (i := 6) sc_lot.nd rfl (Or.inl rfl) (pe_cal C_draw (hr.mono (by decide)) (pa_cons (pv 0) (pa_cons (pe_int) pa_nil))))
      (Evl.pss_cut (ps_if (pt_cmpR op_eq (pv 5) (pe_int) (nomark _)) (pss_one (ps_set (i := 6) sc_lot.nd rfl (Or.inl rfl) (pe_cal C_any (hr.mono (by decide)) (pa_cons (pv 0) pa_nil)))) pss_nil)
      (Evl.pss_cut (ps_if (pt_cmpR op_eq (pv 5) (pe_int) (nomark _)) (pss_one (ps_set (i := 6) sc_lot.nd rfl (Or.inl rfl) (pe_callB call_abs (by rfl) B.abs (by decide +kernel) (pa_cons (pe_cal C_beside (hr.mono (by decide)) (pa_cons (pv 0) (pa_cons (pe_ix ix_tup (pe_ix ix_list (pv 1) (pe_or (pe_cal C_draw (hr.mono (by decide)) (pa_cons (pv 0) (pa_cons (pe_callB call_len_seq (by rfl) B.len PySem.boot_len (pa_cons (pv 1) pa_nil)) pa_nil))) (pe_cal C_draw1 (hr.mono (by decide)) (pa_cons (pv 0) (pa_cons (pe_callB call_len_seq (by rfl) B.len PySem.boot_len (pa_cons (pv 1) pa_nil)) pa_nil)))) (fun _ _ => rfl)) (pe_int) (fun _ _ => rfl)) pa_nil))) pa_nil)))) pss_nil)
      (pss_cons (ps_set (i := 7) sc_lot.nd rfl (Or.inl rfl) (pe_op op_add (pe_int) (pe_cal C_draw (hr.mono (by decide)) (pa_cons (pv 0) (pa_cons (pe_int) pa_nil)))))
      (pss_cons (ps_set (i := 8) sc_lot.nd rfl (Or.inl rfl) (pe_op op_add (pe_int) (pe_cal C_draw (hr.mono (by decide)) (pa_cons (pv 0) (pa_cons (pe_int) pa_nil)))))
      (Evl.pss_cut (ps_if (pt_cmpR op_eq (pv 7) (pe_int) (nomark _)) (pss_one (ps_set (i := 8) sc_lot.nd rfl (Or.inl rfl) (pe_int))) pss_nil)
      (pss_cons (ps_set (i := 9) sc_lot.nd rfl (Or.inr rfl) (pe_tup (pa_cons (pv 6) (pa_cons (pv 8) (pa_cons (pv 7) pa_nil)))))
      (pss_one (ps_if (pt_not (pt_truth (pe_lc (own := [("_law_part", 10)]) (g := (gName 10)) rfl sc_lot.nd (pi_list (pv 2)) (blkOk_by (N := ["_law_pool_here", "_law_parts_here", "_law_found", "_law_spare", "_law_weight", "_law_way", "_law_first", "_law_count", "_law_step", "_law_row", "_law_part"]) (sc := defScope s_lot) (by decide +kernel)) (fun _ _ _ _ _ => (pg_name (i := 10) sc_lot.nd rfl (Or.inl rfl))) (fun _ _ _ _ _ => (pts_one (pt_cmpR (show OpR _ _ (rEqD K) from op_eqD hr.units) (pe_ix (show IxR _ (rIxT K) from ix_tup) (pv 10) (pe_int) (fun _ _ => rfl)) (pv 9) (nomark _)))) (fun _ _ _ _ _ => (pv 10))) (fun _ => rfl))) (pss_one ((ps_expr (pe_bm PySem.F.plainAttrs_list PySem.F.slot_list_append PySem.F.type_list_append mt_append (pv 2) (pa_cons (pe_tup (pa_cons (pv 4) (pa_cons (pv 9) pa_nil))) pa_nil))))) pss_nil))))))))))))
      (pss_one (ps_ret (pv 2))))), ?_⟩
    refine ⟨(by show 0 ≤ sizeLine; decide), fun l hl => ?_⟩
    have hP0 := hP.upd (o := .lst []) hl
    have lp := hP.apart hl
    have hLr0 := hLr.same rowP_mono (same_upd (o := .lst []) hl)
    refine ⟨_, rfl, p, 3, rfl, hP0, by decide, by decide, fun r6 H1 h0r h1r hP1 k1 => ?_⟩
    have hl1 : H1 l = some (.lst []) := k1 _ _ upd_same lp.1
    have K1 : Keeps H H1 p := (same_keeps (same_upd hl)).trans k1
    have hLr1 := rows_keep hLr0 hP0 nL k1
    refine ⟨_, _, rfl, rfl, _, rfl, by omega, by omega, for_range (n := (1 + r6).toNat) (fun i σ' H' => ∃ (qs : List Pt) (o3 o4 o5 o6 o7 o8 o9 o10 : Option V), LAt RowP H' l qs ∧ LAt RowP H' L ps ∧ Bag3 i qs ∧ Pool H' p ∧ Keeps H H' p ∧ σ' = [some (.ref (p : Addr)), some (.ref L), some (.ref l), o3, o4, o5, o6, o7, o8, o9, o10])
      ⟨[], none, none, none, none, none, none, none, none, ⟨[], hl1, rfl, fun i x h => by simp at h⟩, hLr1, ⟨Nat.le_refl 0, fun h => absurd h (by omega), (fun _ h => nomatch h), (fun i j p q h => by simp at h), by decide, (fun _ h => nomatch h)⟩, hP1, K1, rfl⟩ ?_ ?_⟩
    · rintro i σ' H2 hi ⟨qs, o3, o4, o5, o6, o7, o8, o9, o10, hL, hR, bag, hP2, k2, rfl⟩
      refine ⟨_, rfl, p, 9, rfl, hP2, by decide, by decide, fun w0 H3 w00 w01 hP3 k3 => ⟨_, _, rfl, rfl, ?_⟩⟩
      refine ⟨_, rfl, p, 3, rfl, hP3, by decide, by decide, fun way H4 y0 y1 hP4 k4 => ?_⟩
      refine ⟨_, rfl, p, 9, rfl, hP4, by decide, by decide, fun f0 H5 f00 f01 hP5 k5 => ?_⟩
      have k35 := (k3.trans k4).trans k5
      have hL := rows_keep hL hP2 lp.1 k35
      have hR := rows_keep hR hP2 nL k35
      have k2 := k2.trans k35
      refine ⟨fun σ' H' => ∃ f : Int, σ' = [some (.ref (p : Addr)), some (.ref L), some (.ref l), some (.int (0 + (i : Int))), some (.int (1 + w0)), some (.int way), some (.int f), o7, o8, o9, o10] ∧ 0 ≤ f ∧ f < 2 ^ 212 ∧ LAt RowP H' l qs ∧ LAt RowP H' L ps ∧ Pool H' p ∧ Keeps H H' p, ?_, ?_⟩
      · refine ⟨_, rfl, rfl, _, rfl, ifE (fun _ => ?_) (fun _ => ?_)⟩
        · exact ⟨_, rfl, p, rfl, hP5, fun a H6 a0 a1 hP6 k6 => ⟨a, rfl, a0, by omega, rows_keep hL hP5 lp.1 k6, rows_keep hR hP5 nL k6, hP6, k2.trans k6⟩⟩
        · exact ⟨f0, rfl, f00, by omega, hL, hR, hP5, k2⟩
      clear hL hR k2 hP5 hP4 hP3 k35 k3 k4 k5
      rintro σ' H5 ⟨f1, rfl, f10, f11, hL, hR, hP5, k2⟩
      refine ⟨fun σ' H' => ∃ f : Int, σ' = [some (.ref (p : Addr)), some (.ref L), some (.ref l), some (.int (0 + (i : Int))), some (.int (1 + w0)), some (.int way), some (.int f), o7, o8, o9, o10] ∧ 0 ≤ f ∧ f < 2 ^ 212 ∧ LAt RowP H' l qs ∧ LAt RowP H' L ps ∧ Pool H' p ∧ Keeps H H' p, ?_, ?_⟩
      · refine ⟨_, rfl, rfl, _, rfl, ifE (fun _ => ?_) (fun _ => ?_)⟩
        · obtain ⟨vs, hvs, hlen, hall⟩ := hR
          have l1 := pk.l1
          have l64 := pk.l64
          have fin : ∀ (r : Int) (H6 : Hp), 0 ≤ r → r < (ps.length : Int) → Pool H6 p → Keeps H5 H6 p → ∃ (t rr : Addr) (pt : Pt), atI vs r = some (.ref t) ∧ H6 t = some (.tup [.int pt.n, .ref rr]) ∧ Row H6 rr pt.f pt.s pt.c ∧ RowOk pt.f pt.s pt.c ∧ pt.f < 10 ^ 60 ∧ H6 L = some (.lst vs) := fun r H6 r0 r1 hP6 k6 => by
            have rl : r.toNat < ps.length := by omega
            have hp : ps[r.toNat]? = some ps[r.toNat] := List.getElem?_eq_getElem rl
            generalize ps[r.toNat] = pt at hp
            obtain ⟨v, hv, hr⟩ := hall _ pt hp
            obtain ⟨t, rr, rfl, ht, hrow⟩ := rowP_keep hr hP5 k6
            exact ⟨t, rr, pt, at_of (j := r.toNat) (by omega) hv, ht, hrow, (pk.ok pt (mem_at hp)).ok, plow pt (mem_at hp), k6 _ _ hvs nL⟩
          refine ⟨_, rfl, _, rfl, ?_⟩
          rcases (by omega : ps.length = 1 ∨ 2 ≤ ps.length) with e | e
          · refine .inr ⟨_, rfl, _, rfl, _, _, rfl, .inl (SqL.of hvs), p, by rw [hlen, e]; rfl, ?_⟩
            obtain ⟨t, rr, pt, e1, ht, hrow, ok, lo, hvs6⟩ := fin 0 H5 (by omega) (by omega) hP5 (same_keeps (Same.refl _))
            refine ⟨_, _, _, _, rfl, rfl, SqL.of hvs6, e1, _, _, _, _, rfl, rfl, SqT.of ht, rfl, p, rr, pt.f, pt.s, pt.c, rfl, hP5, hrow, ok, lo, fun k H7 kb hP7 k7 => ?_⟩
            have hR7 : LAt RowP H7 L ps := rows_keep ⟨vs, hvs, hlen, hall⟩ hP5 nL k7
            exact ⟨_, rfl, _, rfl, by omega, by omega, rows_keep hL hP5 lp.1 k7, hR7, hP7, k2.trans k7⟩
          · refine .inl ⟨_, rfl, _, rfl, _, _, rfl, .inl (SqL.of hvs), p, (vs.length : Int), rfl, hP5, by omega, by omega, fun r H6 r0 r1 hP6 k6 => ?_⟩
            obtain ⟨t, rr, pt, e1, ht, hrow, ok, lo, hvs6⟩ := fin r H6 r0 (by omega) hP6 k6
            refine ⟨_, _, _, _, rfl, rfl, SqL.of hvs6, e1, _, _, _, _, rfl, rfl, SqT.of ht, rfl, p, rr, pt.f, pt.s, pt.c, rfl, hP6, hrow, ok, lo, fun k H7 kb hP7 k7 => ?_⟩
            have hR7 : LAt RowP H7 L ps := rows_keep ⟨vs, hvs, hlen, hall⟩ hP5 nL (k6.trans k7)
            exact ⟨_, rfl, _, rfl, by omega, by omega, rows_keep hL hP5 lp.1 (k6.trans k7), hR7, hP7, (k2.trans k6).trans k7⟩
        · exact ⟨f1, rfl, f10, f11, hL, hR, hP5, k2⟩
      rintro σ' H6 ⟨f, rfl, fn, ff, hL, hR, hP6, k2⟩
      refine ⟨_, rfl, p, 7, rfl, hP6, by decide, by decide, fun c0 H7 c00 c01 hP7 k7 => ⟨_, _, rfl, rfl, ?_⟩⟩
      refine ⟨_, rfl, p, 4, rfl, hP7, by decide, by decide, fun s0 H8 s00 s01 hP8 k8 => ⟨_, _, rfl, rfl, ?_⟩⟩
      have k78 := k7.trans k8
      have hL := rows_keep hL hP6 lp.1 k78
      have hR := rows_keep hR hP6 nL k78
      have k2 := k2.trans k78
      refine ⟨fun σ' H' => ∃ s : Int, σ' = [some (.ref (p : Addr)), some (.ref L), some (.ref l), some (.int (0 + (i : Int))), some (.int (1 + w0)), some (.int way), some (.int f), some (.int (1 + c0)), some (.int s), o9, o10] ∧ 1 ≤ s ∧ s ≤ 4 ∧ (1 + c0 = 1 → s = 1) ∧ H' = H8, ?_, ?_⟩
      · refine ⟨_, rfl, rfl, _, rfl, ifE (fun hc => ?_) (fun hc => ?_)⟩
        · exact ⟨1, rfl, by decide, by decide, fun _ => rfl, rfl⟩
        · exact ⟨1 + s0, rfl, by omega, by omega, fun h => absurd h hc, rfl⟩
      rintro σ' H9 ⟨s, rfl, s1, s4, hs1, rfl⟩
      have hok : RowOk f s (1 + c0) := ⟨⟨fn, s1, s4, by omega⟩, ff, by omega, hs1⟩
      refine ⟨_, rfl, _, rfl, _, rfl, (by show 3 ≤ sizeLine; decide), fun t ht => ?_⟩
      have st := same_upd (o := .tup [.int f, .int s, .int (1 + c0)]) ht
      have hP5 := hP8.same st
      have hL5 := hL.same rowP_mono st
      have hR5 := hR.same rowP_mono st
      have k5 := k2.trans (same_keeps st)
      have hrow' : (upd H9 t (.tup [.int f, .int s, .int (1 + c0)])) t = some (.tup [.int f, .int s, .int (1 + c0)]) := upd_same
      generalize upd H9 t (.tup [.int f, .int s, .int (1 + c0)]) = H5 at *
      obtain ⟨us, hus, hlen, hall⟩ := id hL5
      have i6 : i < 3 := by omega
      refine ⟨_, rfl, l, rfl, ⟨_, SqL.of hus⟩, fun D1 hD1 => lc_list (xs := us) (fun j H' => Same H5 H' ∧ ∃ acc : List V, H' D1 = some (.lst acc) ∧ acc.length ≤ j ∧ (acc.isEmpty = !((qs.take j).any fun q => sameRun q ⟨1 + w0, f, s, 1 + c0⟩)))
        ⟨same_upd hD1, [], upd_same, Nat.le_refl 0, rfl⟩ (fun j H' _ h => SqL.of (h.1 _ _ hus)) ?_ ?_⟩
      · rintro j x H6 hx ⟨s6, acc, hacc, hle, hem⟩
        obtain ⟨qq, hq⟩ := item hlen hx
        obtain ⟨x', hx', t2, r2, rfl, ht2, hr2⟩ := hall j qq hq
        rw [hx] at hx'
        cases hx'
        have jl := (List.getElem?_eq_some_iff.mp hx).1
        have hl6 := bag.le
        have sz : (6 : Nat) ≤ sizeLine := by decide
        have ht6 := s6 _ _ ht2
        have hr6 : H6 r2 = some (.tup [.int qq.f, .int qq.s, .int qq.c]) := s6 _ _ hr2
        have e1 : ((qs.take (j + 1)).any fun q => sameRun q ⟨1 + w0, f, s, 1 + c0⟩) = (((qs.take j).any fun q => sameRun q ⟨1 + w0, f, s, 1 + c0⟩) || sameRun qq ⟨1 + w0, f, s, 1 + c0⟩) := by
          rw [take_snoc hq, List.any_append, List.any_cons, List.any_nil, Bool.or_false]
        refine ⟨rfl, ?_⟩
        refine ⟨_, rfl, _, _, _, _, rfl, rfl, SqT.of (ht6), rfl, _, rfl, .tuple [.int qq.f, .int qq.s, .int qq.c], .tuple [.int f, .int s, .int (1 + c0)], .tup (SqT.of hr6) (.cons (.int _) (.cons (.int _) (.cons (.int _) .nil))), .tup (SqT.of (s6 _ _ hrow')) (.cons (.int _) (.cons (.int _) (.cons (.int _) .nil))), rfl, rfl, _, rfl, ?_⟩
        rw [row_eqv]
        cases hb : sameRun qq ⟨1 + w0, f, s, 1 + c0⟩ with
        | true =>
          have hb' : (decide (qq.f = f) && decide (qq.s = s) && decide (qq.c = 1 + c0)) = true := hb
          rw [hb']
          refine iteT ?_
          refine ⟨_, rfl, acc, hacc, by omega, same_lateM s6 hD1, _, upd_same, by rw [List.length_append]; show _ + 1 ≤ _; omega, ?_⟩
          rw [e1, hb, Bool.or_true]
          cases acc <;> rfl
        | false =>
          have hb' : (decide (qq.f = f) && decide (qq.s = s) && decide (qq.c = 1 + c0)) = false := hb
          rw [hb']
          refine iteF ?_
          exact ⟨s6, acc, hacc, by omega, by rw [e1, hb, Bool.or_false]; exact hem⟩
      · rintro H6 ⟨s6, acc, hacc, hle, hem⟩
        rw [hlen, List.take_length] at hem
        refine ⟨_, .inl ⟨acc, SqL.of hacc, rfl⟩, ?_⟩
        have hus6 := s6 _ _ hus
        have K6 := k5.trans (same_keeps s6)
        have hP6 := hP5.same s6
        cases hb : (qs.any fun q => sameRun q ⟨1 + w0, f, s, 1 + c0⟩) with
        | true =>
          rw [hb] at hem
          rw [hem]
          refine iteF ?_
          have l0 : 0 < qs.length := by
            rw [List.any_eq_true] at hb
            obtain ⟨q, hq, _⟩ := hb
            exact List.length_pos_of_mem hq
          exact ⟨qs, _, _, _, _, _, _, _, _, hL5.same rowP_mono s6, hR5.same rowP_mono s6, bag.skip l0, hP6, K6, rfl⟩
        | false =>
          rw [hb] at hem
          rw [hem]
          refine iteT ?_
          refine ⟨_, rfl, .inl ⟨rfl, _, SqL.of hus6⟩, _, rfl, _, rfl, (by show 2 ≤ sizeLine; decide), fun tn htn => ?_⟩
          have sn := same_upd (o := .tup [.int (1 + w0), .ref t]) htn
          have hus7 := sn _ _ hus6
          have ul : us.length < sizeLine := by
            have : (6 : Nat) ≤ sizeLine := by decide
            have := bag.le
            omega
          refine ⟨l, us, _, rfl, rfl, hus7, ul, ?_⟩
          have nLl : L ≠ l := by
            obtain ⟨ws, hw, _⟩ := hLr
            exact ne_of_none hw hl
          have hR7 := hR5.same rowP_mono (s6.trans sn)
          have hR8 : LAt RowP (upd (upd H6 tn (.tup [.int (1 + w0), .ref t])) l (.lst (us ++ [.ref tn]))) L ps := by
            obtain ⟨ws, h1, h2, h3⟩ := hR7
            refine ⟨ws, by rw [upd_ne nLl]; exact h1, h2, fun i x hx => ?_⟩
            obtain ⟨v, hv, r⟩ := h3 i x hx
            exact ⟨v, hv, rowP_updL r hus7⟩
          refine ⟨qs ++ [⟨1 + w0, f, s, 1 + c0⟩], _, _, _, _, _, _, _, _, rows_add hus7 hlen (fun i x hx => ?_) ⟨tn, t, rfl, upd_same, (s6.trans sn) _ _ hrow'⟩, hR8, bag.add ⟨by show 1 ≤ 1 + w0; omega, by show 1 + w0 ≤ 10 ^ 60; omega, hok⟩ (by show 1 + c0 ≤ 7; omega) hb, (hP6.same sn).store lp.1 lp.2, ?_, rfl⟩
          · obtain ⟨v, hv, r⟩ := hall i x hx
            exact ⟨v, hv, rowP_mono _ _ _ _ (s6.trans sn) r⟩
          · exact keeps_late (K6.trans (same_keeps sn)) hl
    · rintro σ' H2 ⟨qs, o3, o4, o5, o6, o7, o8, o9, o10, hL, hR, bag, hP2, k2, rfl⟩
      exact ⟨_, rfl, q l qs H2 hP2 k2 lp.1 hl hL (bag.ps (by omega) (by omega)) (by have := bag.le; omega) bag.lo⟩
end
end L

set_option Elab.async false
set_option linter.all false
set_option maxRecDepth 100000
set_option maxHeartbeats 4000000
set_option pp.maxSteps 160
set_option pp.deepTerms false
namespace L
open PySem PySem.Spec PyProof.Rows L2 Fl
local macro_rules | `(tactic| walk_at "side") => `(tactic| first | (exact .inl ⟨by omega, by omega⟩) | (exact .inr ⟨by omega, by omega⟩) | (exact .inr ⟨by decide, by decide⟩) | (show (_ : Int) ≠ _; omega) | (exact ⟨by omega, by decide⟩) | (exact ⟨by decide, by decide, by decide⟩))
local macro_rules | `(tactic| walk_at "go") => `(tactic| repeat (first | refine ⟨_, rfl, ?_⟩ | refine ⟨_, _, rfl, rfl, ?_⟩ | refine .inl ⟨_, rfl, ?_⟩ | refine ⟨rfl, ?_⟩ | refine ⟨(by walk_at "side"), ?_⟩))
local macro_rules | `(tactic| walk_at "see") => `(tactic| (set_option pp.maxSteps 110 in set_option pp.deepTerms false in trace_state))
local macro_rules | `(tactic| walk_at "if") => `(tactic| first | refine ifE ?_ ?_ | refine ifNE ?_ ?_ | refine ifD ?_ ?_ | refine ifN ?_ ?_ | refine ifB ?_ ?_)
open Bx

def tCallKS (sp : Sp) (E : L2.St → XK) (t tk : TA) : TE := fun σ H Q => t σ H fun vs H1 => tk σ H1 fun zs H2 => vs.length = 2 ∧ zs.length = 1 ∧ sp (vs ++ zs) H2 Q (E σ)
theorem pe_calKS {X : Cx} {W : WX} {k : Nat} {x : Str} {ps : List Str} {sp : Sp} {p pos : Pos} {e : Expr} {es : List Expr} {kws : List Keyword} {t tkk : TA} (C : CalKW X.prog X.w X.K X.mg X.base k x ps sp) (tk : Takes X W) (hr : Room k X.A) (ha : PA X (e :: es) t) (hkw : PK X kws tkk) (hg : Gl X x := by rfl)
    (hall : (backToKw pos (keywordEach kws X.env)).all (·.1.isSome) = true := by rfl) (hks : (backToKw pos (keywordEach kws X.env)).filterMap (·.1) = [("ties" : Str)] := by rfl)
    (hdb : (x == ("__debug__" : Str)) = false := by decide) (he : starEach (e :: es) X.env = (false, eval e X.env) :: starEach es X.env := by rfl)
    (hpl : ((backTo pos (starEach (e :: es) X.env)).any (·.1) || (backToKw pos (keywordEach kws X.env)).any (·.1.isNone)) = false := by rfl) :
    PE X (.Call (.Name x p) (e :: es) kws pos) (tCallKS sp (WE W) t tkk) := by
  obtain ⟨f, fd, ds, F, m, kp, d, b, kb⟩ := C.ex
  refine ⟨fun pins s σ H Q I h => ?_⟩
  refine wpAny_Call_Name_kw (ld_glob I hg m ?_ hdb)
  refine PySem.W.callWith_KW (h₀ := X.base) I.ok.mod.kin kp hall (thn (ha.run pos pins s σ H _ I h) fun us s1 ⟨vs, H1, I1, r, q⟩ => ?_) hpl he
  refine thn (hkw.run pos pins s1 σ H1 _ I1 q) fun ws s2 ⟨zs, H2, I2, rz, l1, l2, q2⟩ => ⟨I2.kIn, ?_⟩
  rw [hks]
  have r2 := kb.rel r rz
  refine wpAny_call (codeAny_mono (F.run X.A X.stack s2 H2 ⟨us, [("ties" : Str)].zip ws⟩ (us ++ ws) (vs ++ zs) Q (WE W σ) hr I2.env0 (kb.to s2 us ws I2.kIn (r.length.symm.trans l1) (rz.length.symm.trans l2)) r2 q2) fun r s' hq => ?_)
  cases r with
  | error e => exact passAt tk σ pins H2 s2 e s' I2 hq
  | ok fl =>
    cases fl with
    | ret u => exact I2.after hq
    | next => exact False.elim hq
    | brk => exact False.elim hq
    | cont => exact False.elim hq

def yAt (q : Pt) (j : Nat) : Int := q.f + q.s * (0 + (j : Int))
theorem yAt_eq (q : Pt) (j : Nat) : yAt q j = q.f + q.s * (j : Int) := by
  unfold yAt
  rw [Int.zero_add]
def lvQ (ps : List Pt) (q : Pt) : Int := tpG (fun p => gainP 0 p q) ps
def eqQ (ps : List Pt) (q : Pt) : Int := tpG (fun p => alkP p q) ps
theorem lvQ_sum {ps : List Pt} {q : Pt} (hp : ∀ p ∈ ps, RunOk p.f p.s p.c) (hq : RunOk q.f q.s q.c) : sumN (fun j => tpG (wonP (yAt q j) 0) ps) q.c.toNat = lvQ ps q := by
  rw [tpG_sumN]
  exact tpG_congr fun p h => by
    rw [← cols_won (hp p h) hq]
    exact sumN_congr fun j _ => by rw [yAt_eq]
theorem eqQ_sum {ps : List Pt} {q : Pt} (hp : ∀ p ∈ ps, RunOk p.f p.s p.c) (hq : RunOk q.f q.s q.c) : sumN (fun j => tpG (eqP (yAt q j)) ps) q.c.toNat = eqQ ps q := by
  rw [tpG_sumN]
  exact tpG_congr fun p h => by
    rw [← cols_eq (hp p h) hq]
    exact sumN_congr fun j _ => by rw [yAt_eq]
theorem alkP_bd {p q : Pt} (hp : RunOk p.f p.s p.c) (hq : RunOk q.f q.s q.c) (bp : p.c.natAbs < 2 ^ 204) (bq : q.c.natAbs < 2 ^ 204) : (alkP p q).natAbs < 2 ^ 411 := by
  have h1 := prs_bd hp hq
  have h2 := prs_bd hq hp
  have h3 := wide_lt bp bq
  have e : (2 : Nat) ^ 411 = 8 * 2 ^ (204 + 204) := by decide +kernel
  rw [Int.mul_comm q.c] at h2
  rw [e]
  unfold alkP
  generalize p.c * q.c = m at *
  generalize prs p q = a at *
  generalize prs q p = b at *
  generalize 2 ^ (204 + 204) = X at *
  omega
theorem POk.cb {p : Pt} (h : POk p) : p.c.natAbs < 2 ^ 204 := by have := h.ok.cb; have := h.ok.ok.c1; omega
theorem lvQ_bd {ps : List Pt} {q : Pt} (pk : PsOk ps) (hq : POk q) : (lvQ ps q).natAbs < 2 ^ 1921 :=
  tp_bd (e := fun p => gainP 0 p q) (b := 411) pk (fun p hp => gainP_bd (pk.ok p hp).ok.ok hq.ok.ok (.inr (.inl rfl)) (pk.ok p hp).cb hq.cb) (qs := ps) (fun _ h => h) pk.l64 (by have := cprod_pos (ps := ps) fun p hp => (pk.ok p hp).ok.ok.c1; omega) pk.pc
theorem eqQ_bd {ps : List Pt} {q : Pt} (pk : PsOk ps) (hq : POk q) : (eqQ ps q).natAbs < 2 ^ 1921 :=
  tp_bd (e := fun p => alkP p q) (b := 411) pk (fun p hp => alkP_bd (pk.ok p hp).ok.ok hq.ok.ok (pk.ok p hp).cb hq.cb) (qs := ps) (fun _ h => h) pk.l64 (by have := cprod_pos (ps := ps) fun p hp => (pk.ok p hp).ok.ok.c1; omega) pk.pc
def den (ps qs : List Pt) : Int := wsum ps * wsum qs * (cprod ps * cprod qs)
/-- what a law's own reckoning gives: numbers above and below, of the two sums -/
structure Due (ps qs : List Pt) (lv eq un : Int) : Prop where
  l : lv * den ps qs = mS (gainP 0) (cprod ps) (cprod qs) ps qs * un
  e : eq * den ps qs = mS alkP (cprod ps) (cprod qs) ps qs * un
  lb : lv.natAbs < 2 ^ 600000
  eb : eq.natAbs < 2 ^ 600000
  ub : un.natAbs < 2 ^ 600000
theorem ints_snoc {H : Hp} {f : Pt → Int} {qs : List Pt} {i : Nat} {q : Pt} (h : qs[i]? = some q) : ((qs.take (i + 1)).map f).map V.int = ((qs.take i).map f).map V.int ++ [V.int (f q)] := by
  rw [take_snoc h, List.map_append, List.map_append]
  rfl
/-- the sums over the pairs so far, one under the other -/
structure AccOk (PP SG SE lv eq un : Int) (t : Nat) : Prop where
  l : lv * PP = SG * un
  e : eq * PP = SE * un
  p : 0 < un
  ubd : un.natAbs < 2 ^ (408 * t + 1)
  lb : lv.natAbs < 2 ^ (1300 * t + 1)
  eb : eq.natAbs < 2 ^ (1300 * t + 1)
theorem acc_num {PP S x un pr w g d1 d2 c1 c2 : Int} (h : x * PP = S * un) (e1 : pr = c1 * c2) (e2 : PP = d1 * c1 * (d2 * c2)) : (x * pr + w * g * un) * PP = (S + w * g * (d1 * d2)) * (un * pr) := by
  subst e1 e2
  have e : (x * (c1 * c2) + w * g * un) * (d1 * c1 * (d2 * c2)) = x * (d1 * c1 * (d2 * c2)) * (c1 * c2) + w * g * un * (d1 * c1 * (d2 * c2)) := by grind
  rw [e, h]
  grind
theorem acc_bd {x un pr w g : Int} {t : Nat} (hx : x.natAbs < 2 ^ (1300 * t + 1)) (hu : un.natAbs < 2 ^ (408 * t + 1)) (hp : pr.natAbs < 2 ^ (204 + 204)) (hw : w.natAbs < 2 ^ (200 + 200)) (hg : g.natAbs < 2 ^ 411) : (x * pr + w * g * un).natAbs < 2 ^ (1300 * (t + 1) + 1) := by
  have a := wide_lt hx hp
  have b := wide_lt (wide_lt hw hg) hu
  have a' := ub a (show 1300 * t + 1 + (204 + 204) ≤ 1300 * t + 1000 by omega)
  have b' := ub b (show 200 + 200 + 411 + (408 * t + 1) ≤ 1300 * t + 1000 by omega)
  exact ub (ba a' b') (by omega)
theorem AccOk.step {PP SG SE lv eq un pr w g al d1 d2 c1 c2 : Int} {t : Nat} (h : AccOk PP SG SE lv eq un t) (e1 : pr = c1 * c2) (e2 : PP = d1 * c1 * (d2 * c2)) (p1 : 0 < c1) (p2 : 0 < c2) (hp : pr.natAbs < 2 ^ (204 + 204)) (hw : w.natAbs < 2 ^ (200 + 200)) (hg : g.natAbs < 2 ^ 411) (ha : al.natAbs < 2 ^ 411) :
    AccOk PP (SG + w * g * (d1 * d2)) (SE + w * al * (d1 * d2)) (lv * pr + w * g * un) (eq * pr + w * al * un) (un * pr) (t + 1) :=
  ⟨acc_num h.l e1 e2, acc_num h.e e1 e2, by rw [e1]; exact Int.mul_pos h.p (Int.mul_pos p1 p2), ub (wide_lt h.ubd hp) (by omega), acc_bd h.lb h.ubd hp hw hg, acc_bd h.eb h.ubd hp hw ha⟩
theorem sumI_snoc (ns : List Int) (n : Int) : sumI (ns ++ [n]) = sumI ns + n := by
  rw [sumI_app]
  show _ + (n + 0) = _
  rw [Int.add_zero]
section
variable {P : Program} {w : World} {K : PySem.W.Frag} {mg : Str → Option Value} {base : Heap}

def spRefM (C D F : Addr) : Sp := fun vs H Q _ => ∃ (x y : Addr) (v : Int) (ps qs : List Pt) (W1 W2 : Int), vs = [.ref x, .ref y, .int v] ∧ BlAt C D F W1 H x ps ∧ BlAt C D F W2 H y qs ∧ ¬ Tie v ∧ ∀ (t : Addr) (H' : Hp), Same H H' → H' t = some (.tup [.str "ties", .int v, .bl true, .bl true]) → Q (.ref t) H'
abbrev CalRefM (P : Program) (w : World) (K : PySem.W.Frag) (mg : Str → Option Value) (base : Heap) (C D F : Addr) := Cal P w K mg base 8 "_law_rule_refused" ["_law_one", "_law_other", "_law_rule"] (spRefM C D F)
theorem ok_refM {C D F BN LE : Addr} (B : Blt mg) (TB : BnC K mg BN) (gLotError : mg "LotError" = some (.ref LE)) (k1 : PySem.W.kitOne K (.ref BN) (.ref LE) = some true) (k2 : PySem.W.kitOne K (.ref BN) (.type "ValueError") = some true)
    (Df : Dfn K mg "_law_rule_refused" "_law_rule_refused" s_rule_refused ["_law_one", "_law_other", "_law_rule"]) (CM : CalKW P w K mg base 7 "meet" ["one", "other", "ties"] (spMeet C D F BN)) : CalRefM P w K mg base C D F := by
  refine Df.cal sc_rule_refused (fun vs H Q E h => ?_) (fun fA cdv A outer st H vs Q E hr h => ?_)
  · obtain ⟨x, y, v, ps, qs, W1, W2, rfl, _⟩ := h
    rfl
  · obtain ⟨x, y, v, ps, qs, W1, W2, rfl, hB, hB', hv, k⟩ := h
    refine ⟨_, (pss_cons (ps_set (i := 3) sc_rule_refused.nd rfl (Or.inl rfl) (pe_non))
      (pss_cons (ps_try_as (i := 4) rfl rfl sc_rule_refused.nd rfl rfl ⟨rfl, by decide, Or.inl TB.g⟩ takes0 (fun W pn xe tk _ => (pss_one (ps_expr (pe_calKS CM tk (hr.mono (by decide)) (pa_cons (pv 0) (pa_cons (pv 1) pa_nil)) (pk_cons (pv 2) pk_nil))))) (fun a oe cls d pn hz hf => (pss_one (ps_set (i := 3) sc_rule_refused.nd rfl (Or.inl rfl) (pe_tup (pa_cons (pe_xf TB.xf TB.nN hz hf (pv 4)) (pa_cons (pe_xf TB.xf TB.nV hz hf (pv 4)) (pa_cons (pe_callB (call_isX TB.e hz hf) (by rfl) B.isinstance (by decide +kernel) (pa_cons (pv 4) (pa_cons (pe_glob (v := .ref _) (by rfl) gLotError rfl) pa_nil))) (pa_cons (pe_callB (call_isX TB.e hz hf) (by rfl) B.isinstance (by decide +kernel) (pa_cons (pv 4) (pa_cons (pe_bltn (v := .ty "ValueError") (by rfl) B.ve (by decide +kernel) rfl) pa_nil))) pa_nil)))))))))
      (pss_one (ps_ret (pv 3))))), ?_⟩
    walk_at "go"
    refine ⟨x, y, v, ps, qs, W1, W2, 1, 1, rfl, hB, hB', fun _ => ?_, fun h => absurd h hv⟩
    intro d H' s hd0 hd
    refine ⟨true, TB.exm, fun _ e0 he0 => ?_, fun q => Bool.noConfusion q⟩
    refine ⟨_, rfl, rfl, rfl, d, _, _, rfl, hd, bnf_name _ _, ?_⟩
    refine ⟨_, rfl, rfl, rfl, d, _, _, rfl, hd, bnf_value _ _, ?_⟩
    refine ⟨_, rfl, rfl, .inr ⟨d, _, rfl, hd⟩, _, _, true, rfl, .own _, k1, ?_⟩
    refine ⟨_, rfl, rfl, .inr ⟨d, _, rfl, hd⟩, _, _, true, rfl, .ty _, k2, ?_⟩
    exact ⟨(by show 4 ≤ sizeLine; decide), fun t ht => ⟨_, rfl, k _ _ (s.trans (same_upd ht)) upd_same⟩⟩
def spWalk : Sp := fun vs H Q _ => ∃ (L M : Addr) (ps qs : List Pt), vs = [.ref L, .ref M] ∧ LAt RowP H L ps ∧ LAt RowP H M qs ∧ PsOk ps ∧ PsOk qs ∧ (∀ q ∈ qs, q.c ≤ 7) ∧ ∀ (z : Addr) (H' : Hp) (lv eq un : Int), Same H H' → H' z = some (.tup [.int lv, .int eq, .int un]) → Due ps qs lv eq un → Q (.ref z) H'
abbrev CalWalk (P : Program) (w : World) (K : PySem.W.Frag) (mg : Str → Option Value) (base : Heap) := Cal P w K mg base 4 "_law_by_walk" ["_law_parts_here", "_law_others"] spWalk
theorem ok_walk (B : Blt mg) (C_sum : CalSum P w K mg base) (C_won : CalWon P w K mg base) (C_upto : CalUpto P w K mg base) (Df : Dfn K mg "_law_by_walk" "_law_by_walk" s_by_walk ["_law_parts_here", "_law_others"]) : CalWalk P w K mg base := by
  refine Df.cal sc_by_walk (fun vs H Q E h => ?_) (fun fA cdv A outer st H vs Q E hr h => ?_)
  · obtain ⟨L, M, ps, qs, rfl, _⟩ := h
    rfl
  · obtain ⟨L, M, ps, qs, rfl, hL, hM, pk, qk, q7, kq⟩ := h
    obtain ⟨vs, hvs, hlen, hall⟩ := id hL
    obtain ⟨us, hus, hlenq, hallq⟩ := id hM
    have l64 := pk.l64
    have m64 := qk.l64
    have hpo : ∀ p ∈ ps, RunOk p.f p.s p.c := fun p hp => (pk.ok p hp).ok.ok
    refine ⟨_, (pss_cons (ps_set (i := 2) sc_by_walk.nd rfl (Or.inl rfl) (pe_lst pa_nil))
      (pss_cons (ps_set (i := 3) sc_by_walk.nd rfl (Or.inl rfl) (pe_lst pa_nil))
      (pss_cons (ps_set (i := 4) sc_by_walk.nd rfl (Or.inl rfl) (pe_int))
      (pss_cons (ps_for PassesOwn.never rfl (pi_list (pv 1)) (pg_name (i := 5) sc_by_walk.nd rfl (Or.inl rfl)) (pss_cons (ps_set (i := 6) sc_by_walk.nd rfl (Or.inl rfl) (pe_int))
      (pss_cons (ps_set (i := 7) sc_by_walk.nd rfl (Or.inl rfl) (pe_int))
      (pss_cons (ps_for PassesOwn.never rfl (pi_range1 (by rfl) B.range (pa_cons (pe_ix ix_tup (pe_ix ix_tup (pv 5) (pe_int) (fun _ _ => rfl)) (pe_int) (fun _ _ => rfl)) pa_nil)) (pg_name (i := 8) sc_by_walk.nd rfl (Or.inl rfl)) (pss_cons (ps_set (i := 9) sc_by_walk.nd rfl (Or.inr rfl) (pe_op op_add (pe_ix ix_tup (pe_ix ix_tup (pv 5) (pe_int) (fun _ _ => rfl)) (pe_int) (fun _ _ => rfl)) (pe_op op_mul (pe_ix ix_tup (pe_ix ix_tup (pv 5) (pe_int) (fun _ _ => rfl)) (pe_int) (fun _ _ => rfl)) (pv 8))))
      (pss_cons (ps_set (i := 10) sc_by_walk.nd rfl (Or.inl rfl) (pe_cal C_sum (hr.mono (by decide)) (pa_cons (pv 0) (pa_cons (pe_lc (own := [("_law_part", 11)]) (g := gName 11) rfl sc_by_walk.nd (pi_list (pv 0)) (blkOk_by (N := ["_law_parts_here", "_law_others", "_law_levels", "_law_equals", "_law_under", "_law_other", "_law_level", "_law_equal", "_law_index", "_law_y", "_law_got", "_law_part"]) (sc := defScope s_by_walk) (by decide +kernel)) (fun _ _ _ _ _ => pg_name (i := 11) sc_by_walk.nd rfl (Or.inl rfl)) (fun _ _ _ _ _ => pts_nil) (fun _ _ _ _ _ => (pe_cal C_won (hr.mono (by decide)) (pa_cons (pe_ix (show IxR _ (rIxT K) from ix_tup) (pv 11) (pe_int) (fun _ _ => rfl)) (pa_cons (pv 9) (pa_cons (pe_int) pa_nil)))))) pa_nil))))
      (pss_cons (ps_set (i := 6) sc_by_walk.nd rfl (Or.inl rfl) (pe_op op_add (pv 6) (pe_ix ix_tup (pv 10) (pe_int) (fun _ _ => rfl))))
      (pss_cons (ps_set (i := 4) sc_by_walk.nd rfl (Or.inl rfl) (pe_ix ix_tup (pv 10) (pe_int) (fun _ _ => rfl)))
      (pss_cons (ps_set (i := 10) sc_by_walk.nd rfl (Or.inl rfl) (pe_cal C_sum (hr.mono (by decide)) (pa_cons (pv 0) (pa_cons (pe_lc (own := [("_law_part", 11)]) (g := gName 11) rfl sc_by_walk.nd (pi_list (pv 0)) (blkOk_by (N := ["_law_parts_here", "_law_others", "_law_levels", "_law_equals", "_law_under", "_law_other", "_law_level", "_law_equal", "_law_index", "_law_y", "_law_got", "_law_part"]) (sc := defScope s_by_walk) (by decide +kernel)) (fun _ _ _ _ _ => pg_name (i := 11) sc_by_walk.nd rfl (Or.inl rfl)) (fun _ _ _ _ _ => pts_nil) (fun _ _ _ _ _ => (pe_op op_sub (pe_cal C_upto (hr.mono (by decide)) (pa_cons (pe_ix (show IxR _ (rIxT K) from ix_tup) (pv 11) (pe_int) (fun _ _ => rfl)) (pa_cons (pv 9) pa_nil))) (pe_cal C_upto (hr.mono (by decide)) (pa_cons (pe_ix (show IxR _ (rIxT K) from ix_tup) (pv 11) (pe_int) (fun _ _ => rfl)) (pa_cons (pe_op op_sub (pv 9) (pe_int)) pa_nil)))))) pa_nil))))
      (pss_one (ps_set (i := 7) sc_by_walk.nd rfl (Or.inl rfl) (pe_op op_add (pv 7) (pe_ix ix_tup (pv 10) (pe_int) (fun _ _ => rfl)))))))))))
      (pss_cons ((ps_expr (pe_bm PySem.F.plainAttrs_list PySem.F.slot_list_append PySem.F.type_list_append mt_append (pv 2) (pa_cons (pv 6) pa_nil))))
      (pss_one ((ps_expr (pe_bm PySem.F.plainAttrs_list PySem.F.slot_list_append PySem.F.type_list_append mt_append (pv 3) (pa_cons (pv 7) pa_nil))))))))))
      (pss_cons (ps_set (i := 6) sc_by_walk.nd rfl (Or.inl rfl) (pe_cal C_sum (hr.mono (by decide)) (pa_cons (pv 1) (pa_cons (pv 2) pa_nil))))
      (pss_cons (ps_set (i := 7) sc_by_walk.nd rfl (Or.inl rfl) (pe_cal C_sum (hr.mono (by decide)) (pa_cons (pv 1) (pa_cons (pv 3) pa_nil))))
      (pss_one (ps_ret (pe_tup (pa_cons (pe_ix ix_tup (pv 6) (pe_int) (fun _ _ => rfl)) (pa_cons (pe_ix ix_tup (pv 7) (pe_int) (fun _ _ => rfl)) (pa_cons (pe_op op_mulW (pe_ix ix_tup (pv 6) (pe_int) (fun _ _ => rfl)) (pv 4)) pa_nil)))))))))))), ?_⟩
    refine ⟨(by show 0 ≤ sizeLine; decide), fun la hla => ⟨(by show 0 ≤ sizeLine; decide), fun lb hlb => ?_⟩⟩
    have nab : la ≠ lb := ne_of_none upd_same hlb
    have hlb0 : H lb = none := by rw [upd_ne nab.symm] at hlb; exact hlb
    have s0 : Same H (upd (upd H la (.lst [])) lb (.lst [])) := (same_upd hla).trans (same_upd hlb)
    refine ⟨_, rfl, M, rfl, ⟨_, SqL.of (s0 _ _ hus)⟩, for_list (K := K) (a := M) (xs := us) (fun i σ' H' => Same H H' ∧ H' la = some (.lst (((qs.take i).map (lvQ ps)).map V.int)) ∧ H' lb = some (.lst (((qs.take i).map (eqQ ps)).map V.int)) ∧ ∃ (u : Int) (o5 o6 o7 o8 o9 o10 o11 : Option V), (0 < i → u = cprod ps * wsum ps) ∧ σ' = [some (.ref L), some (.ref M), some (.ref la), some (.ref lb), some (.int u), o5, o6, o7, o8, o9, o10, o11])
      ⟨s0, by rw [upd_ne nab, upd_same]; rfl, upd_same, 1, none, none, none, none, none, none, none, fun h => absurd h (by omega), rfl⟩ (fun i σ' H' _ h => SqL.of (h.1 _ _ hus)) ?_ ?_⟩
    · rintro i a σ' H1 ha ⟨s1, hla1, hlb1, u, o5, o6, o7, o8, o9, o10, o11, hu, rfl⟩
      obtain ⟨q, hq⟩ := item hlenq ha
      obtain ⟨a', ha', t, r, rfl, ht0, hrow0⟩ := hallq i q hq
      rw [ha] at ha'
      cases ha'
      have qo := qk.ok q (mem_at hq)
      have qc7 := q7 q (mem_at hq)
      have qc1 := qo.ok.ok.c1
      have qs1 := qo.ok.ok.s1
      have qs4 := qo.ok.ok.s4
      have htA : ∀ {H' : Hp}, Same H1 H' → H' t = some (.tup [.int q.n, .ref r]) := fun s => s _ _ (s1 _ _ ht0)
      have hrA : ∀ {H' : Hp}, Same H1 H' → H' r = some (.tup [.int q.f, .int q.s, .int q.c]) := fun s => s _ _ (s1 _ _ hrow0)
      refine ⟨_, rfl, _, _, _, _, rfl, rfl, SqT.of (htA (Same.refl _)), rfl, _, _, _, _, rfl, rfl, SqT.of (hrA (Same.refl _)), rfl, _, rfl, by omega, by omega, for_range (n := q.c.toNat) (fun k σ' H' => Same H1 H' ∧ ∃ (u : Int) (o8 o9 o10 o11 : Option V), (0 < k → u = cprod ps * wsum ps) ∧ σ' = [some (.ref L), some (.ref M), some (.ref la), some (.ref lb), some (.int u), some (.ref t), some (.int (sumN (fun j => tpG (wonP (yAt q j) 0) ps) k)), some (.int (sumN (fun j => tpG (eqP (yAt q j)) ps) k)), o8, o9, o10, o11])
        ⟨Same.refl _, u, o8, o9, o10, o11, fun h => absurd h (by omega), rfl⟩ ?_ ?_⟩
      · rintro k σ' H2 hk ⟨s2, u, o8, o9, o10, o11, hu2, rfl⟩
        refine ⟨_, rfl, _, _, _, _, rfl, rfl, SqT.of (htA s2), rfl, _, _, _, _, rfl, rfl, SqT.of (hrA s2), rfl, ?_⟩
        refine ⟨_, rfl, _, _, _, _, rfl, rfl, SqT.of (htA s2), rfl, _, _, _, _, rfl, rfl, SqT.of (hrA s2), rfl, _, rfl, _, _, rfl, rfl, .inl ⟨by omega, by omega⟩, _, _, rfl, rfl, ?_⟩
        have s12 := s1.trans s2
        refine ⟨_, rfl, _, rfl, L, rfl, ⟨_, SqL.of (s12 _ _ hvs)⟩, fun D1 hD1 => lc_build (xs := vs) (fun _ v (b : Int) => v = V.int b) (ps.map (wonP (yAt q k) 0)) (fun _ _ _ _ _ h => h) hD1 (by rw [List.length_map]; exact hlen) (SqL.of (s12 _ _ hvs)) (by rw [List.length_map]; omega) ?_ ?_⟩
        · rintro a y n H4 Kc Ke hy hn s ⟨acc, hacc⟩ kk
          obtain ⟨p, hp⟩ := item hlen hy
          rw [List.getElem?_map, hp] at hn
          cases hn
          obtain ⟨y', hy', tp, rp, rfl, htp, hrowp⟩ := hall a p hp
          rw [hy] at hy'
          cases hy'
          have po := pk.ok p (mem_at hp)
          have hrow1 : Row H4 rp p.f p.s p.c := s _ _ (s12 _ _ hrowp)
          have ht1 := s _ _ (s12 _ _ htp)
          refine ⟨rfl, ?_⟩
          exact ⟨_, rfl, _, _, _, _, rfl, rfl, SqT.of (ht1), rfl, _, rfl, rp, p.f, p.s, p.c, yAt q k, 0, rfl, hrow1, po.ok, .inr (.inl rfl), kk _ H4 (Same.refl _) rfl⟩

        intro H3 s3 hS
        have s13 := s12.trans s3
        have hT : H3 D1 = some (.lst ((ps.map (wonP (yAt q k) 0)).map V.int)) := hS.map fun v x e => e
        refine ⟨L, D1, ps, wonP (yAt q k) 0, 210, rfl, hL.same rowP_mono s13, pk, by decide, by decide, fun p hp => wonP_bd (pk.ok p hp).ok (.inr (.inl rfl)), hT, fun z1 H4 s4 hz1 => ?_⟩
        clear hT hS hD1
        refine ⟨_, rfl, _, rfl, _, _, _, _, rfl, rfl, SqT.of (hz1), rfl, _, _, rfl, rfl, ?_⟩
        refine ⟨_, rfl, _, _, _, _, rfl, rfl, SqT.of (hz1), rfl, ?_⟩
        have s14 := s13.trans s4
        refine ⟨_, rfl, _, rfl, L, rfl, ⟨_, SqL.of (s14 _ _ hvs)⟩, fun D1 hD1 => lc_build (xs := vs) (fun _ v (b : Int) => v = V.int b) (ps.map (eqP (yAt q k))) (fun _ _ _ _ _ h => h) hD1 (by rw [List.length_map]; exact hlen) (SqL.of (s14 _ _ hvs)) (by rw [List.length_map]; omega) ?_ ?_⟩
        · rintro a y n H5 Kc Ke hy hn s ⟨acc, hacc⟩ kk
          obtain ⟨p, hp⟩ := item hlen hy
          rw [List.getElem?_map, hp] at hn
          cases hn
          obtain ⟨y', hy', tp, rp, rfl, htp, hrowp⟩ := hall a p hp
          rw [hy] at hy'
          cases hy'
          have po := pk.ok p (mem_at hp)
          have hrow1 : Row H5 rp p.f p.s p.c := s _ _ (s14 _ _ hrowp)
          have ht1 := s _ _ (s14 _ _ htp)
          refine ⟨rfl, ?_⟩
          refine ⟨_, rfl, _, _, _, _, rfl, rfl, SqT.of (ht1), rfl, _, rfl, rp, p.f, p.s, p.c, yAt q k, rfl, hrow1, po.ok, ?_⟩
          refine ⟨_, rfl, _, _, _, _, rfl, rfl, SqT.of (ht1), rfl, _, rfl, _, _, rfl, rfl, rp, p.f, p.s, p.c, yAt q k - 1, rfl, hrow1, po.ok, _, _, rfl, rfl, kk _ H5 (Same.refl _) ?_⟩
          show V.int (bel p.f p.s p.c (yAt q k + 1) - bel p.f p.s p.c (yAt q k - 1 + 1)) = V.int (eqP (yAt q k) p)
          unfold eqP
          rw [show yAt q k - 1 + 1 = yAt q k by omega]

        intro H5 s5 hS
        have s15 := s14.trans s5
        have hT : H5 D1 = some (.lst ((ps.map (eqP (yAt q k))).map V.int)) := hS.map fun v x e => e
        refine ⟨L, D1, ps, eqP (yAt q k), 210, rfl, hL.same rowP_mono s15, pk, by decide, by decide, fun p hp => eqP_bd (pk.ok p hp).ok, hT, fun z2 H6 s6 hz2 => ?_⟩
        refine ⟨_, rfl, _, rfl, _, _, _, _, rfl, rfl, SqT.of (hz2), rfl, _, _, rfl, rfl, ?_⟩
        exact ⟨s2.trans (s3.trans (s4.trans (s5.trans s6))), cprod ps * wsum ps, _, _, _, _, fun _ => rfl, rfl⟩
      · rintro σ' H2 ⟨s2, u, o8, o9, o10, o11, hu2, rfl⟩
        rw [lvQ_sum hpo qo.ok.ok, eqQ_sum hpo qo.ok.ok]
        have hla2 := s2 _ _ hla1
        have hlb2 := s2 _ _ hlb1
        have il := (List.getElem?_eq_some_iff.mp hq).1
        have sz1 : (((qs.take i).map (lvQ ps)).map V.int).length < sizeLine := small1000 (by rw [List.length_map, List.length_map, List.length_take]; omega)
        have sz2 : (((qs.take i).map (eqQ ps)).map V.int).length < sizeLine := small1000 (by rw [List.length_map, List.length_map, List.length_take]; omega)
        refine ⟨_, rfl, .inl ⟨rfl, _, SqL.of hla2⟩, _, rfl, la, _, _, rfl, rfl, hla2, sz1, ?_⟩
        have hlb3 : upd H2 la (.lst (((qs.take i).map (lvQ ps)).map V.int ++ [V.int (lvQ ps q)])) lb = some (.lst (((qs.take i).map (eqQ ps)).map V.int)) := by rw [upd_ne nab.symm]; exact hlb2
        refine ⟨_, rfl, .inl ⟨rfl, _, SqL.of hlb3⟩, _, rfl, lb, _, _, rfl, rfl, hlb3, sz2, ?_⟩
        refine ⟨same_lateM (same_lateM (s1.trans s2) hla) hlb0, ?_, ?_, u, _, _, _, _, _, _, _, fun _ => hu2 (by omega), rfl⟩
        · rw [upd_ne nab, upd_same, ints_snoc (H := H) hq]
        · rw [upd_same, ints_snoc (H := H) hq]
    · rintro σ' H1 ⟨s1, hla1, hlb1, u, o5, o6, o7, o8, o9, o10, o11, hu, rfl⟩
      rw [hlenq, List.take_length] at hla1 hlb1
      have hu0 : u = cprod ps * wsum ps := hu (by rw [hlenq]; exact qk.l1)
      subst hu0
      have bl : ∀ q ∈ qs, (lvQ ps q).natAbs < 2 ^ 1921 := fun q hq => lvQ_bd pk (qk.ok q hq)
      have be : ∀ q ∈ qs, (eqQ ps q).natAbs < 2 ^ 1921 := fun q hq => eqQ_bd pk (qk.ok q hq)
      refine ⟨_, rfl, _, rfl, M, la, qs, lvQ ps, 1921, rfl, hM.same rowP_mono s1, qk, by decide, by decide, bl, hla1, fun z1 H2 s2 hz1 => ?_⟩
      refine ⟨_, rfl, _, rfl, M, lb, qs, eqQ ps, 1921, rfl, hM.same rowP_mono (s1.trans s2), qk, by decide, by decide, be, s2 _ _ hlb1, fun z2 H3 s3 hz2 => ?_⟩
      have hz1' := s3 _ _ hz1
      have c1 := cprod_pos (ps := ps) fun p hp => (hpo p hp).c1
      have c2 := cprod_pos (ps := qs) fun q hq => (qk.ok q hq).ok.ok.c1
      have t1 := tp_bd (e := lvQ ps) (b := 1921) qk bl (qs := qs) (fun _ h => h) m64 (P := cprod qs) (by omega) qk.pc
      have t2 := tp_bd (e := eqQ ps) (b := 1921) qk be (qs := qs) (fun _ h => h) m64 (P := cprod qs) (by omega) qk.pc
      have b1 := wide_lt qk.pc (wsum_bd qk)
      have b2 := wide_lt pk.pc (wsum_bd pk)
      refine ⟨_, rfl, _, _, _, _, rfl, rfl, SqT.of (hz1'), rfl, _, rfl, _, _, _, _, rfl, rfl, SqT.of (hz2), rfl, _, rfl, _, _, _, _, rfl, rfl, SqT.of (hz1'), rfl, _, rfl, _, _, rfl, rfl, wide_mul b1 b2 (by decide) (by decide) (by decide), (by show 3 ≤ sizeLine; decide), fun z hz => ?_⟩
      refine kq z _ _ _ _ ((s1.trans (s2.trans s3)).trans (same_upd hz)) upd_same ⟨?_, ?_, ub t1 (by decide), ub t2 (by decide), ub (wide_lt b1 b2) (by decide)⟩
      · rw [show tpG (lvQ ps) qs = mS (gainP 0) (cprod ps) (cprod qs) ps qs from tpG_mS (gainP 0) ps qs]
        unfold den
        ac_rfl
      · rw [show tpG (eqQ ps) qs = mS alkP (cprod ps) (cprod qs) ps qs from tpG_mS alkP ps qs]
        unfold den
        ac_rfl
end
end L

set_option Elab.async false
set_option linter.all false
set_option maxRecDepth 100000
set_option maxHeartbeats 4000000
set_option pp.maxSteps 160
set_option pp.deepTerms false
namespace L
open PySem PySem.Spec PyProof.Rows L2 Fl
local macro_rules | `(tactic| walk_at "side") => `(tactic| first | (exact .inl ⟨by omega, by omega⟩) | (exact .inr ⟨by omega, by omega⟩) | (exact .inr ⟨by decide, by decide⟩) | (show (_ : Int) ≠ _; omega) | (exact ⟨by omega, by decide⟩) | (exact ⟨by decide, by decide, by decide⟩))
local macro_rules | `(tactic| walk_at "go") => `(tactic| repeat (first | refine ⟨_, rfl, ?_⟩ | refine ⟨_, _, rfl, rfl, ?_⟩ | refine .inl ⟨_, rfl, ?_⟩ | refine ⟨rfl, ?_⟩ | refine ⟨(by walk_at "side"), ?_⟩))
local macro_rules | `(tactic| walk_at "see") => `(tactic| (set_option pp.maxSteps 110 in set_option pp.deepTerms false in trace_state))
local macro_rules | `(tactic| walk_at "if") => `(tactic| first | refine ifE ?_ ?_ | refine ifNE ?_ ?_ | refine ifD ?_ ?_ | refine ifN ?_ ?_ | refine ifB ?_ ?_)
open Bx
section
variable {P : Program} {w : World} {K : PySem.W.Frag} {mg : Str → Option Value} {base : Heap}

theorem RowOk.sm {f s c : Int} (h : RowOk f s c) : RunSm f s c := by
  have h1 := h.fb
  have h2 := h.cb
  have h3 := h.ok.f0
  have h4 := h.ok.c1
  exact ⟨by omega, by omega⟩
theorem RowOk.st {f s c : Int} (h : RowOk f s c) : (if c > 1 then s else 1) = s := by
  split
  · rfl
  · have := h.ok.c1
    exact (h.one (by omega)).symm
def spRuns : Sp := fun vs H Q _ => ∃ (L M : Addr) (ps qs : List Pt), vs = [.ref L, .ref M] ∧ LAt RowP H L ps ∧ LAt RowP H M qs ∧ PsOk ps ∧ PsOk qs ∧ qs.length ≤ 6 ∧ ∀ (z : Addr) (H' : Hp) (lv eq un : Int), Same H H' → H' z = some (.tup [.int lv, .int eq, .int un]) → Due ps qs lv eq un → Q (.ref z) H'
abbrev CalRuns (P : Program) (w : World) (K : PySem.W.Frag) (mg : Str → Option Value) (base : Heap) := Cal P w K mg base 7 "_law_by_runs" ["_law_parts_here", "_law_others"] spRuns
theorem ok_runs {D BN : Addr} (B : Blt mg) (C_weights : CalWeights P w K mg base) (C_whole : CalWhole P w K mg base) (MR : CalRun P w K mg base D BN) (C_pairs_above : CalPA P w K mg base D) (C_pairs_alike : CalPK P w K mg base D) (Df : Dfn K mg "_law_by_runs" "_law_by_runs" s_by_runs ["_law_parts_here", "_law_others"]) : CalRuns P w K mg base := by
  refine Df.cal sc_by_runs (fun vs H Q E h => ?_) (fun fA cdv A outer st H vs Q E hr h => ?_)
  · obtain ⟨L, M, ps, qs, rfl, _⟩ := h
    rfl
  · obtain ⟨L, M, ps, qs, rfl, hL, hM, pk, qk, q6, kq⟩ := h
    obtain ⟨vs, hvs, hlen, hall⟩ := id hL
    obtain ⟨us, hus, hlenq, hallq⟩ := id hM
    have l64 := pk.l64
    have m64 := qk.l64
    obtain ⟨PP, ePP⟩ : ∃ PP : Int, PP = cprod ps * cprod qs := ⟨_, rfl⟩
    refine ⟨_, (pss_cons (ps_set (i := 2) sc_by_runs.nd rfl (Or.inl rfl) (pe_int))
      (pss_cons (ps_set (i := 3) sc_by_runs.nd rfl (Or.inl rfl) (pe_int))
      (pss_cons (ps_set (i := 4) sc_by_runs.nd rfl (Or.inl rfl) (pe_int))
      (pss_cons (ps_for PassesOwn.never rfl (pi_list (pv 0)) (pg_name (i := 5) sc_by_runs.nd rfl (Or.inl rfl)) (pss_cons (ps_set (i := 6) sc_by_runs.nd rfl (Or.inl rfl) (pe_mk MR (hr.mono (by decide)) (pa_cons (pe_ix ix_tup (pe_ix ix_tup (pv 5) (pe_int) (fun _ _ => rfl)) (pe_int) (fun _ _ => rfl)) (pa_cons (pe_ix ix_tup (pe_ix ix_tup (pv 5) (pe_int) (fun _ _ => rfl)) (pe_int) (fun _ _ => rfl)) (pa_cons (pe_ix ix_tup (pe_ix ix_tup (pv 5) (pe_int) (fun _ _ => rfl)) (pe_int) (fun _ _ => rfl)) pa_nil)))))
      (pss_one (ps_for PassesOwn.never rfl (pi_list (pv 1)) (pg_name (i := 7) sc_by_runs.nd rfl (Or.inl rfl)) (pss_cons (ps_set (i := 8) sc_by_runs.nd rfl (Or.inl rfl) (pe_mk MR (hr.mono (by decide)) (pa_cons (pe_ix ix_tup (pe_ix ix_tup (pv 7) (pe_int) (fun _ _ => rfl)) (pe_int) (fun _ _ => rfl)) (pa_cons (pe_ix ix_tup (pe_ix ix_tup (pv 7) (pe_int) (fun _ _ => rfl)) (pe_int) (fun _ _ => rfl)) (pa_cons (pe_ix ix_tup (pe_ix ix_tup (pv 7) (pe_int) (fun _ _ => rfl)) (pe_int) (fun _ _ => rfl)) pa_nil)))))
      (pss_cons (ps_set (i := 9) sc_by_runs.nd rfl (Or.inl rfl) (pe_cal C_pairs_above (hr.mono (by decide)) (pa_cons (pv 6) (pa_cons (pv 8) pa_nil))))
      (pss_cons (ps_set (i := 10) sc_by_runs.nd rfl (Or.inl rfl) (pe_cal C_pairs_alike (hr.mono (by decide)) (pa_cons (pv 6) (pa_cons (pv 8) pa_nil))))
      (pss_cons (ps_if (PW.pt (pw_or (pt_not (pt_val (pe_cal C_whole (hr.mono (by decide)) (pa_cons (pv 9) pa_nil)))) (pw_or1 (pt_not (pt_val (pe_cal C_whole (hr.mono (by decide)) (pa_cons (pv 10) pa_nil))))))) (pss_one (ps_ret (pe_non))) pss_nil)
      (pss_cons (ps_set (i := 11) sc_by_runs.nd rfl (Or.inl rfl) (pe_op op_mulW (pe_ix ix_tup (pe_ix ix_tup (pv 5) (pe_int) (fun _ _ => rfl)) (pe_int) (fun _ _ => rfl)) (pe_ix ix_tup (pe_ix ix_tup (pv 7) (pe_int) (fun _ _ => rfl)) (pe_int) (fun _ _ => rfl))))
      (pss_cons (ps_set (i := 12) sc_by_runs.nd rfl (Or.inl rfl) (pe_op op_mulW (pe_ix ix_tup (pv 5) (pe_int) (fun _ _ => rfl)) (pe_ix ix_tup (pv 7) (pe_int) (fun _ _ => rfl))))
      (pss_cons (ps_set (i := 2) sc_by_runs.nd rfl (Or.inl rfl) (pe_op op_add (pe_op op_mulW (pv 2) (pv 11)) (pe_op op_mulW (pe_op op_mulW (pv 12) (pe_op op_sub (pe_op op_add (pe_op op_mulW (pe_int) (pv 9)) (pv 10)) (pv 11))) (pv 4))))
      (pss_cons (ps_set (i := 3) sc_by_runs.nd rfl (Or.inl rfl) (pe_op op_add (pe_op op_mulW (pv 3) (pv 11)) (pe_op op_mulW (pe_op op_mulW (pv 12) (pv 10)) (pv 4))))
      (pss_one (ps_set (i := 4) sc_by_runs.nd rfl (Or.inl rfl) (pe_op op_mulW (pv 4) (pv 11))))))))))))))))
      (pss_one (ps_ret (pe_tup (pa_cons (pv 2) (pa_cons (pv 3) (pa_cons (pe_op op_mulW (pe_op op_mulW (pv 4) (pe_cal C_weights (hr.mono (by decide)) (pa_cons (pv 0) pa_nil))) (pe_cal C_weights (hr.mono (by decide)) (pa_cons (pv 1) pa_nil))) pa_nil)))))))))), ?_⟩
    refine ⟨_, rfl, L, rfl, ⟨_, SqL.of hvs⟩, for_list (K := K) (a := L) (xs := vs) (fun i σ' H' => Same H H' ∧ ∃ (lv eq un : Int) (o5 o6 o7 o8 o9 o10 o11 o12 : Option V), AccOk PP (sumI ((ps.take i).flatMap (mrow (gainP 0) (cprod ps) (cprod qs) qs))) (sumI ((ps.take i).flatMap (mrow alkP (cprod ps) (cprod qs) qs))) lv eq un (i * qs.length) ∧ σ' = [some (.ref L), some (.ref M), some (.int lv), some (.int eq), some (.int un), o5, o6, o7, o8, o9, o10, o11, o12])
      ⟨Same.refl _, 0, 0, 1, none, none, none, none, none, none, none, none, ⟨by show (0 : Int) * PP = 0 * 1; omega, by show (0 : Int) * PP = 0 * 1; omega, by decide, by rw [Nat.zero_mul]; decide, by rw [Nat.zero_mul]; decide, by rw [Nat.zero_mul]; decide⟩, rfl⟩ (fun i σ' H' _ h => SqL.of (h.1 _ _ hvs)) ?_ ?_⟩
    · rintro i a σ' H1 ha ⟨s1, lv, eq, un, o5, o6, o7, o8, o9, o10, o11, o12, acc, rfl⟩
      obtain ⟨p, hp⟩ := item hlen ha
      obtain ⟨a', ha', t, r, rfl, ht0, hrow0⟩ := hall i p hp
      rw [ha] at ha'
      cases ha'
      have po := pk.ok p (mem_at hp)
      have il := (List.getElem?_eq_some_iff.mp hp).1
      have ht1 := s1 _ _ ht0
      have hr1 : H1 r = some (.tup [.int p.f, .int p.s, .int p.c]) := s1 _ _ hrow0
      refine ⟨_, rfl, _, _, _, _, rfl, rfl, SqT.of (ht1), rfl, _, _, _, _, rfl, rfl, SqT.of (hr1), rfl, _, rfl, _, _, _, _, rfl, rfl, SqT.of (ht1), rfl, _, _, _, _, rfl, rfl, SqT.of (hr1), rfl, _, rfl, _, _, _, _, rfl, rfl, SqT.of (ht1), rfl, _, _, _, _, rfl, rfl, SqT.of (hr1), rfl, fun x dx nx ndx nex => ⟨x, dx, p.f, p.s, p.c, rfl, upd_same, fun h => absurd h (by have := po.ok.ok.f0; omega), fun _ h => absurd h (by have := po.ok.ok.s1; have := po.ok.ok.s4; omega), fun _ _ _ h => absurd h (by have := po.ok.ok.c1; omega), fun _ _ _ _ H2 h2 k2 => ⟨rfl, ?_⟩⟩⟩
      rw [po.ok.st] at h2
      have sx := made nx ndx k2
      have hx : RunAt D H2 x p.f p.s p.c := ⟨dx, h2⟩
      have htA : ∀ {H' : Hp}, Same H2 H' → H' t = some (.tup [.int p.n, .ref r]) := fun s => s _ _ (sx _ _ ht1)
      have hrA : ∀ {H' : Hp}, Same H2 H' → H' r = some (.tup [.int p.f, .int p.s, .int p.c]) := fun s => s _ _ (sx _ _ hr1)
      have s12 := s1.trans sx
      refine ⟨_, rfl, M, rfl, ⟨_, SqL.of (s12 _ _ hus)⟩, for_list (K := K) (a := M) (xs := us) (fun j σ' H' => Same H2 H' ∧ ∃ (lv eq un : Int) (o7 o8 o9 o10 o11 o12 : Option V), AccOk PP (sumI ((ps.take i).flatMap (mrow (gainP 0) (cprod ps) (cprod qs) qs) ++ (mrow (gainP 0) (cprod ps) (cprod qs) qs p).take j)) (sumI ((ps.take i).flatMap (mrow alkP (cprod ps) (cprod qs) qs) ++ (mrow alkP (cprod ps) (cprod qs) qs p).take j)) lv eq un (i * qs.length + j) ∧ σ' = [some (.ref L), some (.ref M), some (.int lv), some (.int eq), some (.int un), some (.ref t), some (.ref x), o7, o8, o9, o10, o11, o12])
        ⟨Same.refl _, lv, eq, un, o7, o8, o9, o10, o11, o12, by rw [List.take_zero, List.append_nil, List.take_zero, List.append_nil]; exact acc, rfl⟩ (fun j σ' H' _ h => SqL.of ((s12.trans h.1) _ _ hus)) ?_ ?_⟩
      · rintro j b σ' H3 hb ⟨s3, lv, eq, un, o7, o8, o9, o10, o11, o12, acc, rfl⟩
        obtain ⟨q, hq⟩ := item hlenq hb
        obtain ⟨b', hb', t', r', rfl, ht0', hrow0'⟩ := hallq j q hq
        rw [hb] at hb'
        cases hb'
        have qo := qk.ok q (mem_at hq)
        have jl := (List.getElem?_eq_some_iff.mp hq).1
        have s13 := s12.trans s3
        have ht3 := s13 _ _ ht0'
        have hr3 : H3 r' = some (.tup [.int q.f, .int q.s, .int q.c]) := s13 _ _ hrow0'
        refine ⟨_, rfl, _, _, _, _, rfl, rfl, SqT.of (ht3), rfl, _, _, _, _, rfl, rfl, SqT.of (hr3), rfl, _, rfl, _, _, _, _, rfl, rfl, SqT.of (ht3), rfl, _, _, _, _, rfl, rfl, SqT.of (hr3), rfl, _, rfl, _, _, _, _, rfl, rfl, SqT.of (ht3), rfl, _, _, _, _, rfl, rfl, SqT.of (hr3), rfl, fun y dy ny ndy ney => ⟨y, dy, q.f, q.s, q.c, rfl, upd_same, fun h => absurd h (by have := qo.ok.ok.f0; omega), fun _ h => absurd h (by have := qo.ok.ok.s1; have := qo.ok.ok.s4; omega), fun _ _ _ h => absurd h (by have := qo.ok.ok.c1; omega), fun _ _ _ _ H4 h4 k4 => ⟨rfl, ?_⟩⟩⟩
        rw [qo.ok.st] at h4
        have sy := made ny ndy k4
        have s34 := s3.trans sy
        have hx4 := hx.same s34
        have hy4 : RunAt D H4 y q.f q.s q.c := ⟨dy, h4⟩
        have ht4 := sy _ _ ht3
        have hr4 := sy _ _ hr3
        refine ⟨_, rfl, _, rfl, x, y, p.f, p.s, p.c, q.f, q.s, q.c, rfl, hx4, po.ok.ok, po.ok.sm, hy4, qo.ok.ok, qo.ok.sm, ?_⟩
        refine ⟨_, rfl, _, rfl, x, y, p.f, p.s, p.c, q.f, q.s, q.c, rfl, hx4, po.ok.ok, po.ok.sm, hy4, qo.ok.ok, qo.ok.sm, ?_⟩
        refine ⟨_, rfl, _, rfl, _, rfl, iteF ?_⟩
        refine ⟨_, rfl, _, rfl, _, rfl, iteF ?_⟩
        have bc := wide_lt po.cb qo.cb
        have bn := wide_lt po.nlt qo.nlt
        have pb := prs_bd po.ok.ok qo.ok.ok
        have ab := alkP_bd po.ok.ok qo.ok.ok po.cb qo.cb
        have gb := gainP_bd (v := 0) po.ok.ok qo.ok.ok (.inr (.inl rfl)) po.cb qo.cb
        have tl : i * qs.length + j < 64 * 6 := by
          have h5 : (i + 1) * qs.length ≤ ps.length * qs.length := Nat.mul_le_mul_right _ il
          have h6 : ps.length * qs.length ≤ 64 * 6 := Nat.mul_le_mul l64 q6
          rw [Nat.succ_mul] at h5
          omega
        have eG : 2 * prs p q + alkP p q - p.c * q.c = gainP 0 p q := by
          unfold gainP alkP
          omega
        refine ⟨_, rfl, _, _, _, _, rfl, rfl, SqT.of (htA s34), rfl, _, _, _, _, rfl, rfl, SqT.of (hrA s34), rfl, _, rfl, _, _, _, _, rfl, rfl, SqT.of (ht4), rfl, _, _, _, _, rfl, rfl, SqT.of (hr4), rfl, _, _, rfl, rfl, wide_mul po.cb qo.cb (by decide) (by decide) (by decide), ?_⟩
        refine ⟨_, rfl, _, _, _, _, rfl, rfl, SqT.of (htA s34), rfl, _, rfl, _, _, _, _, rfl, rfl, SqT.of (ht4), rfl, _, _, rfl, rfl, wide_mul po.nlt qo.nlt (by decide) (by decide) (by decide), ?_⟩
        have gb' : (2 * prs p q + alkP p q - p.c * q.c).natAbs < 2 ^ 411 := by rw [eG]; exact gb
        have wg := wide_lt bn gb'
        have wa := wide_lt bn ab
        refine ⟨_, rfl, _, rfl, _, _, rfl, rfl, wide_mul acc.lb bc (by omega) (by omega) (by omega), _, rfl, _, rfl, _, _, rfl, rfl, wide_mul (a := 2) (b := 409) (by decide) (show (prs p q).natAbs < 2 ^ 409 by omega) (by decide) (by decide) (by decide), _, rfl, _, _, rfl, rfl, _, rfl, _, _, rfl, rfl, _, _, rfl, rfl, wide_mul bn gb' (by decide) (by decide) (by decide), _, rfl, _, _, rfl, rfl, wide_mul wg acc.ubd (by omega) (by omega) (by omega), _, _, rfl, rfl, ?_⟩
        refine ⟨_, rfl, _, rfl, _, _, rfl, rfl, wide_mul acc.eb bc (by omega) (by omega) (by omega), _, rfl, _, rfl, _, _, rfl, rfl, wide_mul bn ab (by decide) (by decide) (by decide), _, rfl, _, _, rfl, rfl, wide_mul wa acc.ubd (by omega) (by omega) (by omega), _, _, rfl, rfl, ?_⟩
        refine ⟨_, rfl, _, rfl, _, _, rfl, rfl, wide_mul acc.ubd bc (by omega) (by omega) (by omega), ?_⟩
        refine ⟨s34, _, _, _, _, _, _, _, _, _, ?_, rfl⟩
        have em : mnum (gainP 0) (cprod ps) (cprod qs) p q = p.n * q.n * (2 * prs p q + alkP p q - p.c * q.c) * ((cprod ps / p.c) * (cprod qs / q.c)) := by
          unfold mnum
          rw [eG]
        have e1 : cprod ps / p.c * p.c = cprod ps := Int.ediv_mul_cancel (cprod_dvd (mem_at hp))
        have e2 : cprod qs / q.c * q.c = cprod qs := Int.ediv_mul_cancel (cprod_dvd (mem_at hq))
        have st := acc.step (pr := p.c * q.c) (w := p.n * q.n) (g := 2 * prs p q + alkP p q - p.c * q.c) (al := alkP p q) (d1 := cprod ps / p.c) (d2 := cprod qs / q.c) (c1 := p.c) (c2 := q.c) rfl (by rw [e1, e2]; exact ePP) (by have := po.ok.ok.c1; omega) (by have := qo.ok.ok.c1; omega) bc bn gb' ab
        rw [mrow_snoc hq, mrow_snoc hq, ← List.append_assoc, ← List.append_assoc, sumI_snoc, sumI_snoc, em]
        exact st
      · rintro σ' H3 ⟨s3, lv, eq, un, o7, o8, o9, o10, o11, o12, acc, rfl⟩
        refine ⟨s12.trans s3, lv, eq, un, _, _, _, _, _, _, _, _, ?_, rfl⟩
        have f1 : (mrow (gainP 0) (cprod ps) (cprod qs) qs p).length = us.length := by unfold mrow; rw [List.length_map]; exact hlenq.symm
        have f2 : (mrow alkP (cprod ps) (cprod qs) qs p).length = us.length := by unfold mrow; rw [List.length_map]; exact hlenq.symm
        rw [flat_snoc hp, flat_snoc hp, Nat.succ_mul]
        rw [← f1, List.take_length, f1, ← f2, List.take_length, f2, hlenq] at acc
        exact acc
    · rintro σ' H1 ⟨s1, lv, eq, un, o5, o6, o7, o8, o9, o10, o11, o12, acc, rfl⟩
      rw [hlen, List.take_length] at acc
      have tl : ps.length * qs.length ≤ 64 * 6 := Nat.mul_le_mul l64 q6
      have bu := ub acc.ubd (show 408 * (ps.length * qs.length) + 1 ≤ 200000 by omega)
      have hL1 := hL.same rowP_mono s1
      have hM1 := hM.same rowP_mono s1
      refine ⟨_, rfl, _, rfl, _, rfl, _, rfl, L, ps, rfl, hL1, l64, fun H2 s2 => ⟨_, _, rfl, rfl, wide_mul bu (wsum_bd pk) (by decide) (by decide) (by decide), _, rfl, M, qs, rfl, hM1.same rowP_mono s2, m64, fun H3 s3 => ⟨_, _, rfl, rfl, wide_mul (wide_lt bu (wsum_bd pk)) (wsum_bd qk) (by decide) (by decide) (by decide), (by show 3 ≤ sizeLine; decide), fun z hz => ?_⟩⟩⟩
      refine kq z _ _ _ _ ((s1.trans (s2.trans s3)).trans (same_upd hz)) upd_same ⟨?_, ?_, ub acc.lb (by omega), ub acc.eb (by omega), ub (wide_lt (wide_lt bu (wsum_bd pk)) (wsum_bd qk)) (by decide)⟩
      · have h := acc.l
        rw [ePP] at h
        show lv * (wsum ps * wsum qs * (cprod ps * cprod qs)) = sumI (ps.flatMap (mrow (gainP 0) (cprod ps) (cprod qs) qs)) * (un * wsum ps * wsum qs)
        rw [show lv * (wsum ps * wsum qs * (cprod ps * cprod qs)) = lv * (cprod ps * cprod qs) * (wsum ps * wsum qs) by ac_rfl, h]
        ac_rfl
      · have h := acc.e
        rw [ePP] at h
        show eq * (wsum ps * wsum qs * (cprod ps * cprod qs)) = sumI (ps.flatMap (mrow alkP (cprod ps) (cprod qs) qs)) * (un * wsum ps * wsum qs)
        rw [show eq * (wsum ps * wsum qs * (cprod ps * cprod qs)) = eq * (cprod ps * cprod qs) * (wsum ps * wsum qs) by ac_rfl, h]
        ac_rfl
end
end L

set_option Elab.async false
set_option linter.all false
set_option maxRecDepth 100000
set_option maxHeartbeats 4000000
set_option pp.maxSteps 160
set_option pp.deepTerms false
namespace L
open PySem PySem.Spec PyProof.Rows L2 Fl
local macro_rules | `(tactic| walk_at "side") => `(tactic| first | (exact .inl ⟨by omega, by omega⟩) | (exact .inr ⟨by omega, by omega⟩) | (exact .inr ⟨by decide, by decide⟩) | (show (_ : Int) ≠ _; omega) | (exact ⟨by omega, by decide⟩) | (exact ⟨by decide, by decide, by decide⟩))
local macro_rules | `(tactic| walk_at "go") => `(tactic| repeat (first | refine ⟨_, rfl, ?_⟩ | refine ⟨_, _, rfl, rfl, ?_⟩ | refine .inl ⟨_, rfl, ?_⟩ | refine ⟨rfl, ?_⟩ | refine ⟨(by walk_at "side"), ?_⟩))
local macro_rules | `(tactic| walk_at "see") => `(tactic| (set_option pp.maxSteps 110 in set_option pp.deepTerms false in trace_state))
local macro_rules | `(tactic| walk_at "if") => `(tactic| first | refine ifE ?_ ?_ | refine ifNE ?_ ?_ | refine ifD ?_ ?_ | refine ifN ?_ ?_ | refine ifB ?_ ?_)
open Bx

theorem mk_of {ps : List Pt} (pk : PsOk ps) : MkOk (wsum ps) (cprod ps) ps :=
  ⟨wsum_pos pk, wsum_bd pk, by have := cprod_pos (ps := ps) fun p hp => (pk.ok p hp).ok.ok.c1; omega, pk.pc, fun p hp => ⟨(pk.ok p hp).ok.ok, (pk.ok p hp).ok.sm, (pk.ok p hp).cb, (pk.ok p hp).nlt, cprod_dvd hp⟩⟩
def ptK (k : Int) : Pt := ⟨1, k, 1, 1⟩
theorem ptK_ok {k : Int} (h : 0 ≤ k) : RunOk (ptK k).f (ptK k).s (ptK k).c := (show RunOk k 1 1 from ⟨h, by decide, by decide, by decide⟩)
theorem mk_pt {k : Int} (h : 0 ≤ k) (hb : k.natAbs < 2 ^ 240) : MkOk 1 1 [ptK k] := ⟨by decide, by decide +kernel, by decide, by decide +kernel, fun p hp => by
  rw [List.mem_singleton.mp hp]
  exact ⟨ptK_ok h, ⟨hb, by show (1 : Int).natAbs < 2 ^ 240; decide +kernel⟩, by show (1 : Int).natAbs < 2 ^ 204; decide +kernel, by show (1 : Int).natAbs < 2 ^ 200; decide +kernel, ⟨1, rfl⟩⟩⟩
theorem won_pt {p : Pt} {k v : Int} (hp : RunOk p.f p.s p.c) (h : 0 ≤ k) : gainP v p (ptK k) = wonP k v p := by
  have e1 := cols hp (ptK_ok h)
  have e2 : sumN (fun j => p.c - bel p.f p.s p.c ((ptK k).f + (ptK k).s * (j : Int) + 1)) (ptK k).c.toNat = p.c - bel p.f p.s p.c (k + 1) := by
    show 0 + (p.c - bel p.f p.s p.c (k + 1 * ((0 : Nat) : Int) + 1)) = _
    rw [show k + 1 * ((0 : Nat) : Int) + 1 = k + 1 by omega]
    omega
  have e3 : prs (ptK k) p = bel p.f p.s p.c k := by
    show 0 + bel p.f p.s p.c (k + 1 * ((0 : Nat) : Int)) = _
    rw [show k + 1 * ((0 : Nat) : Int) = k by omega]
    omega
  have ec : p.c * (ptK k).c = p.c := Int.mul_one _
  unfold gainP alkP wonP wonV
  rw [← e1, e2, e3, ec]
theorem mS_pt {ps : List Pt} {k v : Int} (pk : PsOk ps) (h : 0 ≤ k) : mS (gainP v) (cprod ps) 1 ps [ptK k] = tpG (wonP k v) ps := by
  rw [mS_eq]
  unfold tpG tpL
  refine sumI_congr fun p hp => ?_
  show mnum (gainP v) (cprod ps) 1 p (ptK k) + 0 = p.n * wonP k v p * (cprod ps / p.c)
  unfold mnum
  rw [won_pt (pk.ok p hp).ok.ok h]
  show p.n * 1 * wonP k v p * (cprod ps / p.c * (1 / 1)) + 0 = _
  rw [Int.mul_one, show (1 : Int) / 1 = 1 from rfl, Int.mul_one, Int.add_zero]
/-- all that the law holds -/
structure Hd (C D F p L M x0 x1 z : Addr) (ps qs : List Pt) (lv eq un : Int) (H : Hp) : Prop where
  l0 : LAt RowP H L ps
  l1 : LAt RowP H M qs
  b0 : BlP C D F p H x0 ps
  b1 : BlP C D F p H x1 qs
  z : H z = some (.tup [.int lv, .int eq, .int un])
theorem Hd.same {C D F p L M x0 x1 z : Addr} {ps qs : List Pt} {lv eq un : Int} {H H' : Hp} (h : Hd C D F p L M x0 x1 z ps qs lv eq un H) (s : Same H H') : Hd C D F p L M x0 x1 z ps qs lv eq un H' :=
  ⟨h.l0.same rowP_mono s, h.l1.same rowP_mono s, h.b0.same s, h.b1.same s, s _ _ h.z⟩
theorem Hd.keep {C D F L M x0 x1 z : Addr} {p : Pla} {ps qs : List Pt} {lv eq un : Int} {H H' : Hp} (h : Hd C D F p L M x0 x1 z ps qs lv eq un H) (hP : Pool H p) (k : Keeps H H' p) (n0 : L ≠ p) (n1 : M ≠ p) : Hd C D F p L M x0 x1 z ps qs lv eq un H' := by
  have hz : z ≠ p := by
    obtain ⟨ns, i, b, c, d, hp, _⟩ := id hP
    exact ne_of h.z hp (by intro z; cases z)
  exact ⟨rows_keep h.l0 hP n0 k, rows_keep h.l1 hP n1 k, h.b0.keep hP k, h.b1.keep hP k, k _ _ h.z hz⟩
theorem tup_keep {H H' : Hp} {z : Addr} {p : Pla} {xs : List V} (h : H z = some (.tup xs)) (hP : Pool H p) (k : Keeps H H' p) : H' z = some (.tup xs) := by
  obtain ⟨ns, i, b, c, d, hp, _⟩ := hP
  exact k _ _ h (ne_of h hp (by intro z; cases z))
theorem vals_due {ps qs : List Pt} {lv eq un v : Int} (h : Due ps qs lv eq un) : mS (gainP v) (cprod ps) (cprod qs) ps qs * un = (lv + v * eq) * (wsum ps * wsum qs * (cprod ps * cprod qs)) := by
  have h1 := h.l
  have h2 := h.e
  unfold den at h1 h2
  rw [mS_tie, Int.add_mul, Int.add_mul, h1, Int.mul_assoc v, Int.mul_assoc v, h2]
theorem vals_back {ps qs : List Pt} {lv eq un v : Int} (h : Due ps qs lv eq un) : mS (gainP (-v)) (cprod qs) (cprod ps) qs ps * un = -(lv + v * eq) * (wsum qs * wsum ps * (cprod qs * cprod ps)) := by
  have h1 := vals_due (v := v) h
  rw [mS_tie] at h1
  rw [mS_back, Int.neg_mul, h1, Int.neg_mul, Int.mul_comm (wsum qs), Int.mul_comm (cprod qs)]
def tiesD (v : Int) : PyData := .tuple [.str "ties", .int v, .bool true, .bool true]
theorem ties_shaped (v : Int) : SeqAt.shaped (tiesD v) = true := by
  have h' : PyData.strOk ("ties" : Str) = true := by decide +kernel
  simp [tiesD, SeqAt.shaped, PyData.canLay0, PyData.canLayAll0, PyData.depth, PyData.depthAll, h']
theorem tie_mul {e v : Int} {b : Nat} (h : e.natAbs < 2 ^ b) (hv : Tie v) : (v * e).natAbs < 2 ^ b := by
  rcases hv with rfl | rfl | rfl <;> omega
theorem tie_neg {v : Int} (hv : Tie v) : Tie (-v) := by
  unfold Tie at *
  omega
section
variable {P : Program} {w : World} {K : PySem.W.Frag} {mg : Str → Option Value} {base : Heap}
def MkR (D BN : Addr) (H : Hp) (f s c : Int) (Q : VK) (E : XK) : Prop :=
  (f < 0 → Ref E BN H "first" f) ∧ (0 ≤ f → c < 1 → Ref E BN H "count" c) ∧ (0 ≤ f → 1 ≤ c → ∀ (x : Addr) (H' : Hp), Same H H' → RunAt D H' x f (if c > 1 then s else 1) c → Q (.ref x) H')
theorem mkr {D BN : Addr} {H : Hp} {f s c : Int} {Q : VK} {E : XK} (h1 : 1 ≤ s) (h4 : s ≤ 4) (h : MkR D BN H f s c Q E) : ∀ x dx, H x = none → H dx = none → dx ≠ x → spRunInit D BN (.ref x :: ([V.int f, V.int s, V.int c] ++ [])) (upd (upd H dx (.own x)) x (.ins D dx [])) (fun v H2 => v = .non ∧ Q (.ref x) H2) E := by
  intro x dx nx ndx ne
  have s0 : Same H (upd (upd H dx (.own x)) x (.ins D dx [])) := made (H' := upd (upd H dx (.own x)) x (.ins D dx [])) nx ndx (Keeps.refl _ _)
  exact ⟨x, dx, f, s, c, rfl, upd_same, fun h0 => (h.1 h0).same s0, fun _ hs => absurd hs (by omega), fun h0 _ _ hc => (h.2.1 h0 hc).same s0, fun h0 _ _ h1 H' hx hk => ⟨rfl, h.2.2 h0 h1 x H' (made nx ndx hk) ⟨dx, hx⟩⟩⟩
theorem MkR.to {D BN : Addr} {H : Hp} {f s c : Int} {Q : VK} {E : XK} (h0 : 0 ≤ f) (h1 : 1 ≤ c) (k : ∀ (x : Addr) (H' : Hp), Same H H' → RunAt D H' x f (if c > 1 then s else 1) c → Q (.ref x) H') : MkR D BN H f s c Q E := ⟨fun h => absurd h (by omega), fun _ h => absurd h (by omega), fun _ _ => k⟩
theorem mkr2 {D BN : Addr} {H : Hp} {f s c : Int} {Q : Addr → Hp → Prop} {E : XK} (h0 : 0 ≤ f) (h1 : 1 ≤ s) (h4 : s ≤ 4) (hc : 1 ≤ c) (k : ∀ (x : Addr) (H' : Hp), Same H H' → RunAt D H' x f (if c > 1 then s else 1) c → Q x H') : ∀ x dx, H x = none → H dx = none → dx ≠ x → spRunInit D BN (.ref x :: ([V.int f, V.int s, V.int c] ++ [])) (upd (upd H dx (.own x)) x (.ins D dx [])) (fun v H2 => v = .non ∧ Q x H2) E := by
  intro x dx nx ndx ne
  exact ⟨x, dx, f, s, c, rfl, upd_same, fun h => absurd h (by omega), fun _ hs => absurd hs (by omega), fun _ _ _ h => absurd h (by omega), fun _ _ _ _ H' hx hk => ⟨rfl, k x H' (made nx ndx hk) ⟨dx, hx⟩⟩⟩
theorem run_st1 {f s c : Int} (h0 : 0 ≤ f) (h1 : 1 ≤ s) (h4 : s ≤ 4) (hc : 1 ≤ c) : RunOk f (if c > 1 then s else 1) c := run_st ⟨h0, h1, h4, hc⟩

def spPoint (D BN : Addr) : Sp := fun vs H Q E => ∃ (m : Int), vs = [.ref D, .int m] ∧ MkR D BN H m 1 1 Q E
theorem ok_point {D BN g : Addr} {fd : FuncData} (MR : CalRun P w K mg base D BN) (F : Fun K "point" "Run.point" s_Run_point g fd) : FnOk P w K mg base (L2.CX P w) 5 g fd ["cls", "k"] (spPoint D BN) := by
  refine F.okX sc_Run_point (fun vs H Q E h => ?_) (fun cdv A outer st H vs Q E hr h => ?_)
  · obtain ⟨m, rfl, _⟩ := h
    rfl
  · obtain ⟨m, rfl, q⟩ := h
    refine ⟨_, pss_one (ps_ret (pe_mkV MR (fun σ => passAt (takes_of rfl rfl rfl rfl) σ) (hr.mono (by decide)) (pv 0) (pa_cons (pv 1) (pa_cons (pe_int) (pa_cons (pe_int) pa_nil))))), ?_⟩
    exact ⟨_, rfl, rfl, _, rfl, mkr (by decide) (by decide) q⟩


def spBPoint (C D F : Addr) : Sp := fun vs H Q _ => ∃ (k : Int), vs = [.ref F, .int k] ∧ 0 ≤ k ∧ ∀ (x : Addr) (H' : Hp), Same H H' → BlAt C D F 1 H' x [ptK k] → Q (.ref x) H'
theorem ok_bpoint {C D F BS BN fA : Addr} {fd : FuncData} (TD : RunC K mg D) (MB : CalBlend P w K mg base C D F BS) (C_point : CalCM P w K mg base 5 D "point" ["cls", "k"] (spPoint D BN)) (Fn : Fun K "point" "Blend.point" s_Blend_point fA fd) : FnOk P w K mg base (L2.CX P w) 8 fA fd ["cls", "k"] (spBPoint C D F) := by
  refine Fn.okX sc_Blend_point (fun vs H Q E h => ?_) (fun cdv A outer st H vs Q E hr h => ?_)
  · obtain ⟨k, rfl, _⟩ := h
    rfl
  · obtain ⟨k, rfl, k0, q⟩ := h
    refine ⟨_, pss_one (ps_ret (pe_mkV (E := fun _ => E0) MB (fun σ pins H s e s' I h => passL pins σ H s e s' I h) (hr.mono (by decide)) (pv 0) (pa_cons (pe_lst (pa_cons (pe_tup (pa_cons pe_int (pa_cons (pe_cm (E := fun _ => E0) C_point (fun σ pins H s e s' I h => passL pins σ H s e s' I h) (hr.mono (by decide)) (pe_glob (v := .ref _) (by rfl) TD.g rfl) (pa_cons (pv 1) pa_nil)) pa_nil))) pa_nil)) pa_nil))), ?_⟩
    refine ⟨_, rfl, rfl, rfl, _, rfl, k, rfl, MkR.to k0 (by decide) fun r H1 s1 hr1 => ?_⟩
    refine ⟨(by show 2 ≤ sizeLine; decide), fun t ht => ⟨(by show 1 ≤ sizeLine; decide), fun L hL => ?_⟩⟩
    have st := same_upd (o := .tup [.int 1, .ref r]) ht
    have sL := same_upd (o := .lst [.ref t]) hL
    have hr3 : RunAt D H1 r k 1 1 := hr1
    intro x dx nx nd ne
    have s2 := new2 (C := F) (fs := []) nx nd ne
    refine ⟨x, dx, L, [ptK k], 1, rfl, upd_same, ⟨[.ref t], s2 _ _ upd_same, rfl, fun i p hp => ?_⟩, ⟨by decide, by decide +kernel, fun n hn => ?_, (show 1 ≤ 1000 by decide)⟩, (show 1 ≤ 64 by decide), fun h => absurd h (by show ¬ (decide ((1 : Int) < 0) || false) = true; decide), fun _ h => absurd (show sumI ([ptK k].map Pt.n) = 1 from rfl) h, fun _ _ kk H' kp hk hB hxk hO => ⟨rfl, ?_⟩⟩
    · rcases i with _ | i
      · cases hp
        exact ⟨_, rfl, t, .int 1, r, rfl, s2 _ _ (sL _ _ upd_same), .inl ⟨1, rfl, rfl⟩, ((hr3.same st).same sL).same s2⟩
      · simp at hp
    · rw [List.mem_singleton.mp hn]
      show (1 : Int).natAbs < 2 ^ 4300
      decide +kernel
    · have e : tog [ptK k] = [ptK k] := rfl
      rw [e] at hB
      exact q x H' (s1.trans (st.trans (sL.trans (made nx nd kp)))) hB
def spLaw (K : PySem.W.Frag) : Sp := fun vs H Q _ => ∃ (a : Addr) (ns : List Int), vs = [.ref a] ∧ SqL K H a (ns.map V.int) ∧ ns.length ≤ 63 ∧ ∀ H', Q (.bl true) H'
theorem ok_law {C D F BN fA : Addr} {fd : FuncData} (B : Blt mg) (TF : BleC K mg F) (Fn : Fun K "law" "law" s_law fA fd) (C_pool : CalPool P w K mg base) (C_draw : CalDraw P w K mg base) (C_wide : CalWide P w K mg base) (C_parts : CalParts P w K mg base) (C_long_row : CalLong P w K mg base) (C_lot : CalLot P w K mg base) (C_by_runs : CalRuns P w K mg base) (C_by_walk : CalWalk P w K mg base)
    (C_blend : CalBlendL P w K mg base C D F) (C_rule_refused : CalRefM P w K mg base C D F) (C_same : CalSameW P w K mg base C) (CM : CalKW P w K mg base 7 "meet" ["one", "other", "ties"] (spMeet C D F BN)) (C_beside : CalBeside P w K mg base) (C_sum : CalSum P w K mg base) (C_won : CalWon P w K mg base) (C_listed : CalListed P w K mg base C D) (C_weights : CalWeights P w K mg base)
    (C_bpoint : CalCM P w K mg base 8 F "point" ["cls", "k"] (spBPoint C D F)) : FnOk P w K mg base CX0 9 fA fd ["_law_script"] (spLaw K) := by
  refine Fn.ok sc_law (fun vs H Q E h => ?_) (fun cdv A outer st H vs Q E hr h => ?_)
  · obtain ⟨a, ns, rfl, _⟩ := h
    rfl
  · obtain ⟨a, ns, rfl, hS, hl, q⟩ := h
    refine ⟨_, (pss_cons (ps_set (i := 1) sc_law.nd rfl (Or.inl rfl) (pe_cal C_pool (hr.mono (by decide)) (pa_cons (pv 0) pa_nil)))
      (pss_cons (ps_set (i := 2) sc_law.nd rfl (Or.inl rfl) (pe_cal C_parts (hr.mono (by decide)) (pa_cons (pv 1) (pa_cons (pe_int) pa_nil))))
      (Evl.pss_cut (ps_if (pt_cmpR op_eq (pe_cal C_draw (hr.mono (by decide)) (pa_cons (pv 1) (pa_cons (pe_int) pa_nil))) (pe_int) (nomark _)) (pss_one (ps_set (i := 2) sc_law.nd rfl (Or.inl rfl) (pe_cal C_long_row (hr.mono (by decide)) (pa_cons (pv 1) pa_nil)))) pss_nil)
      (Evl.pss_cut (ps_if (pt_cmpR op_eq (pe_cal C_draw (hr.mono (by decide)) (pa_cons (pv 1) (pa_cons (pe_int) pa_nil))) (pe_int) (nomark _)) (pss_cons (ps_set (i := 3) sc_law.nd rfl (Or.inl rfl) (pe_cal C_parts (hr.mono (by decide)) (pa_cons (pv 1) (pa_cons (pe_int) pa_nil))))
      (pss_one (ps_set (i := 4) sc_law.nd rfl (Or.inl rfl) (pe_cal C_by_runs (hr.mono (by decide)) (pa_cons (pv 2) (pa_cons (pv 3) pa_nil)))))) (pss_cons (ps_set (i := 3) sc_law.nd rfl (Or.inl rfl) (pe_cal C_lot (hr.mono (by decide)) (pa_cons (pv 1) (pa_cons (pv 2) pa_nil))))
      (pss_one (ps_set (i := 4) sc_law.nd rfl (Or.inl rfl) (pe_cal C_by_walk (hr.mono (by decide)) (pa_cons (pv 2) (pa_cons (pv 3) pa_nil)))))))
      (pss_cons (ps_if (pt_cmpR op_isN (pv 4) (pe_non) (nomark _)) (pss_one (ps_ret (pe_bl))) pss_nil)
      (pss_cons (ps_set (i := 5) sc_law.nd rfl (Or.inl rfl) (pe_cal C_blend (hr.mono (by decide)) (pa_cons (pv 2) pa_nil)))
      (Evl.pss_cut (ps_set (i := 6) sc_law.nd rfl (Or.inl rfl) (pe_cal C_blend (hr.mono (by decide)) (pa_cons (pv 3) pa_nil)))
      (Evl.pss_cut (ps_set (i := 7) sc_law.nd rfl (Or.inl rfl) (pe_op op_add (pe_int) (pe_cal C_wide (hr.mono (by decide)) (pa_cons (pv 1) pa_nil))))
      (Evl.pss_cut (ps_if (pt_cmpR op_eq (pe_cal C_draw (hr.mono (by decide)) (pa_cons (pv 1) (pa_cons (pe_int) pa_nil))) (pe_int) (nomark _)) (pss_one (ps_set (i := 7) sc_law.nd rfl (Or.inl rfl) (pe_un un_neg (pv 7)))) pss_nil)
      (pss_cons (ps_if (pt_cmpR (op_neD hr.units) (pe_cal C_rule_refused (hr.mono (by decide)) (pa_cons (pv 5) (pa_cons (pv 6) (pa_cons (pv 7) pa_nil)))) (pe_tup (pa_cons (pe_str) (pa_cons (pv 7) (pa_cons (pe_bl) (pa_cons (pe_bl) pa_nil))))) (nomark _)) (pss_one (ps_ret (pe_bl))) pss_nil)
      (Evl.pss_cut (ps_set (i := 8) sc_law.nd rfl (Or.inr rfl) (pe_op op_sub (pe_cal C_draw (hr.mono (by decide)) (pa_cons (pv 1) (pa_cons (pe_int) pa_nil))) (pe_int)))
      (Evl.pss_cut (ps_set (i := 9) sc_law.nd rfl (Or.inl rfl) (pe_op op_add (pe_ix ix_tup (pv 4) (pe_int) (fun _ _ => rfl)) (pe_op op_mulW (pv 8) (pe_ix ix_tup (pv 4) (pe_int) (fun _ _ => rfl)))))
      (pss_cons (ps_if (pt_not (pt_val (pe_cal C_same (hr.mono (by decide)) (pa_cons (pe_calK1 CM (hr.mono (by decide)) (pa_cons (pv 5) (pa_cons (pv 6) pa_nil)) (pk_cons (pv 8) pk_nil)) (pa_cons (pe_tup (pa_cons (pv 9) (pa_cons (pe_ix ix_tup (pv 4) (pe_int) (fun _ _ => rfl)) pa_nil))) pa_nil))))) (pss_one (ps_ret (pe_bl))) pss_nil)
      (pss_cons (ps_if (pt_not (pt_val (pe_cal C_same (hr.mono (by decide)) (pa_cons (pe_calK1 CM (hr.mono (by decide)) (pa_cons (pv 6) (pa_cons (pv 5) pa_nil)) (pk_cons (pe_un un_neg (pv 8)) pk_nil)) (pa_cons (pe_tup (pa_cons (pe_un un_neg (pv 9)) (pa_cons (pe_ix ix_tup (pv 4) (pe_int) (fun _ _ => rfl)) pa_nil))) pa_nil))))) (pss_one (ps_ret (pe_bl))) pss_nil)
      (pss_cons (ps_if (pt_not (pt_val (pe_cal C_same (hr.mono (by decide)) (pa_cons (pe_calK0 CM (hr.mono (by decide)) (pa_cons (pv 5) (pa_cons (pv 6) pa_nil))) (pa_cons (pe_tup (pa_cons (pe_ix ix_tup (pv 4) (pe_int) (fun _ _ => rfl)) (pa_cons (pe_ix ix_tup (pv 4) (pe_int) (fun _ _ => rfl)) pa_nil))) pa_nil))))) (pss_one (ps_ret (pe_bl))) pss_nil)
      (Evl.pss_cut (ps_set (i := 10) sc_law.nd rfl (Or.inr rfl) (pe_callB call_abs (by rfl) B.abs (by decide +kernel) (pa_cons (pe_cal C_beside (hr.mono (by decide)) (pa_cons (pv 1) (pa_cons (pe_ix ix_tup (pe_ix ix_list (pv 2) (pe_int) (fun _ _ => rfl)) (pe_int) (fun _ _ => rfl)) pa_nil))) pa_nil)))
      (pss_cons (ps_set (i := 11) sc_law.nd rfl (Or.inl rfl) (pe_cal C_sum (hr.mono (by decide)) (pa_cons (pv 2) (pa_cons (pe_lc (own := [("_law_part", 12)]) (g := gName 12) rfl sc_law.nd (pi_list (pv 2)) (blkOk_by (N := ["_law_script", "_law_pool_here", "_law_parts_here", "_law_others", "_law_due", "_law_one", "_law_other", "_law_bad", "_law_rule", "_law_top", "_law_k", "_law_single", "_law_part"]) (sc := defScope s_law) (by decide +kernel)) (fun _ _ _ _ _ => pg_name (i := 12) sc_law.nd rfl (Or.inl rfl)) (fun _ _ _ _ _ => pts_nil) (fun _ _ _ _ _ => (pe_cal C_won (hr.mono (by decide)) (pa_cons (pe_ix (show IxR _ (rIxT K) from ix_tup) (pv 12) (pe_int) (fun _ _ => rfl)) (pa_cons (pv 10) (pa_cons (pv 8) pa_nil)))))) pa_nil))))
      (pss_cons (ps_if (pt_not (pt_val (pe_cal C_same (hr.mono (by decide)) (pa_cons (pe_calK1 CM (hr.mono (by decide)) (pa_cons (pv 5) (pa_cons (pe_cm (E := fun _ => E0) C_bpoint (fun σ pins H s e s' I h => passL pins σ H s e s' I h) (hr.mono (by decide)) (pe_glob (v := .ref _) (by rfl) TF.g rfl) (pa_cons (pv 10) pa_nil)) pa_nil)) (pk_cons (pv 8) pk_nil)) (pa_cons (pv 11) pa_nil))))) (pss_one (ps_ret (pe_bl))) pss_nil)
      (pss_cons (ps_if (pt_not (pt_val (pe_cal C_listed (hr.mono (by decide)) (pa_cons (pe_fld (pv 5) rfl) (pa_cons (pv 2) (pa_cons (pe_cal C_weights (hr.mono (by decide)) (pa_cons (pv 2) pa_nil)) pa_nil)))))) (pss_one (ps_ret (pe_bl))) pss_nil)
      (pss_one (ps_ret (pe_cal C_listed (hr.mono (by decide)) (pa_cons (pe_fld (pv 6) rfl) (pa_cons (pv 3) (pa_cons (pe_cal C_weights (hr.mono (by decide)) (pa_cons (pv 3) pa_nil)) pa_nil))))))))))))))))))))))))), ?_⟩
    refine ⟨_, rfl, a, ns, rfl, hS, hl, fun p H0 s0 np nq hP0 => ?_⟩
    refine ⟨_, rfl, p, rfl, hP0, fun L0 ps0 H1 hP1 k1 n0 hl0 pk0 lo0 l60 => ?_⟩
    refine ⟨fun σ' H' => ∃ (L : Addr) (ps : List Pt), σ' = [some (.ref a), some (.ref (p : Addr)), some (.ref L), none, none, none, none, none, none, none, none, none, none] ∧ L ≠ p ∧ LAt RowP H' L ps ∧ PsOk ps ∧ (∀ p ∈ ps, p.f < 10 ^ 60) ∧ Pool H' p, ?_, ?_⟩
    · refine ⟨_, rfl, p, 24, rfl, hP1, by decide, by decide, fun r H4 r0 r1 hP4 k4 => ?_⟩
      refine ⟨rfl, _, rfl, ifE (fun _ => ?_) (fun _ => ?_)⟩
      · exact ⟨_, rfl, p, rfl, hP4, fun L2 ps2 H5 hP5 k5 n2 hl2 pk2 lo2 => ⟨L2, ps2, rfl, n2, hl2, pk2, lo2, hP5⟩⟩
      · exact ⟨L0, ps0, rfl, n0, rows_keep hl0 hP1 n0 k4, pk0, lo0, hP4⟩
    rintro σ' H1 ⟨L, ps, rfl, n0, hl0, pk, low, hP1⟩
    have l64 := pk.l64
    refine ⟨fun σ' H' => ∃ (M z : Addr) (qs : List Pt) (lv eq un : Int), σ' = [some (.ref a), some (.ref (p : Addr)), some (.ref L), some (.ref M), some (.ref z), none, none, none, none, none, none, none, none] ∧ M ≠ p ∧ LAt RowP H' L ps ∧ LAt RowP H' M qs ∧ PsOk qs ∧ ps.length * qs.length ≤ 1000 ∧ H' z = some (.tup [.int lv, .int eq, .int un]) ∧ Due ps qs lv eq un ∧ Pool H' p, ?_, ?_⟩
    · refine ⟨_, rfl, p, 2, rfl, hP1, by decide, by decide, fun r H2 r0 r1 hP2 k2 => ?_⟩
      have hl0 := rows_keep hl0 hP1 n0 k2
      refine ⟨rfl, _, rfl, ifE (fun _ => ?_) (fun _ => ?_)⟩
      · refine ⟨_, rfl, p, rfl, hP2, fun M qs H3 hP3 k3 n1 hl1 qk _ l6 => ?_⟩
        have hl0 := rows_keep hl0 hP2 n0 k3
        refine ⟨_, rfl, _, rfl, L, M, ps, qs, rfl, hl0, hl1, pk, qk, l6, fun z H4 lv eq un s4 hz hd => ?_⟩
        have : ps.length * qs.length ≤ 64 * 6 := Nat.mul_le_mul l64 l6
        exact ⟨M, z, qs, lv, eq, un, rfl, n1, hl0.same rowP_mono s4, hl1.same rowP_mono s4, qk, by omega, hz, hd, hP3.same s4⟩
      · refine ⟨_, rfl, _, rfl, p, L, ps, rfl, hP2, n0, hl0, pk, low, fun M qs H3 hP3 k3 n1 hM hl1 qk l3 q7 => ?_⟩
        have hl0 := rows_keep hl0 hP2 n0 k3
        refine ⟨_, rfl, _, rfl, L, M, ps, qs, rfl, hl0, hl1, pk, qk, q7, fun z H4 lv eq un s4 hz hd => ?_⟩
        have : ps.length * qs.length ≤ 64 * 3 := Nat.mul_le_mul l64 l3
        exact ⟨M, z, qs, lv, eq, un, rfl, n1, hl0.same rowP_mono s4, hl1.same rowP_mono s4, qk, by omega, hz, hd, hP3.same s4⟩
    rintro σ' H2 ⟨M, z, qs, lv, eq, un, rfl, n1, hl0, hl1, qk, hlen, hz, due, hP2⟩
    refine ⟨_, rfl, rfl, _, rfl, iteF ?_⟩
    refine ⟨_, rfl, L, ps, rfl, hl0, pk, fun x0 k0 H3 s3 hk0 hx0 hO0 => ?_⟩
    have kp0 := (hP2.apart hk0).1
    obtain ⟨d0, hx0⟩ := hx0
    have hP3 := hP2.same s3
    refine ⟨fun σ' H' => ∃ x1 : Addr, σ' = [some (.ref a), some (.ref (p : Addr)), some (.ref L), some (.ref M), some (.ref z), some (.ref x0), some (.ref x1), none, none, none, none, none, none] ∧ Hd C D F p L M x0 x1 z ps qs lv eq un H' ∧ Pool H' p, ?_, ?_⟩
    · refine ⟨_, rfl, M, qs, rfl, hl1.same rowP_mono s3, qk, fun x1 k1' H4 s4 hk1 hx1 hO1 => ?_⟩
      have kp1 := (hP3.apart hk1).1
      obtain ⟨d1, hx1⟩ := hx1
      have s34 := s3.trans s4
      exact ⟨x1, rfl, ⟨hl0.same rowP_mono s34, hl1.same rowP_mono s34, ⟨d0, k0, s4 _ _ hx0, hO0.same (outP_mono C D _) s4, kp0⟩, ⟨d1, k1', hx1, hO1, kp1⟩, s34 _ _ hz⟩, hP3.same s4⟩
    rintro σ' H3 ⟨x1, rfl, hd, hP3⟩
    refine ⟨fun σ' H' => ∃ bad : Int, σ' = [some (.ref a), some (.ref (p : Addr)), some (.ref L), some (.ref M), some (.ref z), some (.ref x0), some (.ref x1), some (.int bad), none, none, none, none, none] ∧ 2 ≤ bad ∧ Hd C D F p L M x0 x1 z ps qs lv eq un H' ∧ Pool H' p, ?_, ?_⟩
    · exact ⟨_, rfl, p, rfl, hP3, fun w0 H4 w00 w01 hP4 k4 => ⟨_, _, rfl, rfl, _, rfl, by omega, hd.keep hP3 k4 n0 n1, hP4⟩⟩
    rintro σ' H4 ⟨bad, rfl, b2, hd, hP4⟩
    refine ⟨fun σ' H' => ∃ bad : Int, σ' = [some (.ref a), some (.ref (p : Addr)), some (.ref L), some (.ref M), some (.ref z), some (.ref x0), some (.ref x1), some (.int bad), none, none, none, none, none] ∧ ¬ Tie bad ∧ Hd C D F p L M x0 x1 z ps qs lv eq un H' ∧ Pool H' p, ?_, ?_⟩
    · refine ⟨_, rfl, p, 2, rfl, hP4, by decide, by decide, fun r H5 r0 r1 hP5 k5 => ?_⟩
      have hd := hd.keep hP4 k5 n0 n1
      refine ⟨rfl, _, rfl, ifE (fun _ => ?_) (fun _ => ?_)⟩
      · exact ⟨_, rfl, _, rfl, _, rfl, by unfold Tie; omega, hd, hP5⟩
      · exact ⟨_, rfl, by unfold Tie; omega, hd, hP5⟩
    clear hd hP4 b2 bad
    rintro σ' H4 ⟨bad, rfl, nb, hd, hP4⟩
    refine ⟨_, rfl, _, rfl, _, rfl, x0, x1, bad, ps, qs, wsum ps, wsum qs, rfl, hd.b0.bl, hd.b1.bl, nb, fun tr H5 s5 htr => ?_⟩
    refine ⟨_, rfl, (by show 4 ≤ sizeLine; decide), fun tq htq => ?_⟩
    refine ⟨tiesD bad, tiesD bad, .tup (SqT.of (same_upd htq _ _ htr)) (.cons (.str _) (.cons (.int _) (.cons (.bl _) (.cons (.bl _) .nil)))), .tup (SqT.of upd_same) (.cons (.str _) (.cons (.int _) (.cons (.bl _) (.cons (.bl _) .nil)))), ties_shaped bad, ties_shaped bad, ?_⟩
    rw [SeqAt.eqv_refl _ (SeqAt.canLay_of_shaped (ties_shaped bad))]
    refine ⟨_, rfl, iteF ?_⟩
    have s56 := s5.trans (same_upd (o := .tup [.str "ties", .int bad, .bl true, .bl true]) htq)
    have hd := hd.same s56
    have hP5 := hP4.same s56
    generalize upd H5 tq (.tup [.str "ties", .int bad, .bl true, .bl true]) = H6 at *
    clear s56 htr htq s5 hP4
    refine ⟨fun σ' H' => ∃ v : Int, σ' = [some (.ref a), some (.ref (p : Addr)), some (.ref L), some (.ref M), some (.ref z), some (.ref x0), some (.ref x1), some (.int bad), some (.int v), none, none, none, none] ∧ Tie v ∧ Hd C D F p L M x0 x1 z ps qs lv eq un H' ∧ Pool H' p, ?_, ?_⟩
    · exact ⟨_, rfl, p, 3, rfl, hP5, by decide, by decide, fun r H7 r0 r1 hP7 k7 => ⟨_, _, rfl, rfl, r - 1, rfl, by unfold Tie; omega, hd.keep hP5 k7 n0 n1, hP7⟩⟩
    clear hd hP5 H6
    rintro σ' H7 ⟨v, rfl, hv, hd, hP7⟩
    refine ⟨fun σ' H' => σ' = [some (.ref a), some (.ref (p : Addr)), some (.ref L), some (.ref M), some (.ref z), some (.ref x0), some (.ref x1), some (.int bad), some (.int v), some (.int (lv + v * eq)), none, none, none] ∧ H' = H7, ?_, ?_⟩
    · exact ⟨_, rfl, _, _, _, _, rfl, rfl, SqT.of (hd.z), rfl, _, rfl, _, rfl, _, _, _, _, rfl, rfl, SqT.of (hd.z), rfl, _, _, rfl, rfl, wide_mul (a := 2) (by rcases hv with rfl | rfl | rfl <;> decide) due.eb (by decide) (by decide) (by decide), _, _, rfl, rfl, rfl, rfl⟩
    rintro σ' H8 ⟨rfl, rfl⟩
    have m1 := mk_of pk
    have m2 := mk_of qk
    have hlen' : qs.length * ps.length ≤ 1000 := by rw [Nat.mul_comm]; exact hlen
    have bt : (lv + v * eq).natAbs < 2 ^ 700000 := ub (ba due.lb (tie_mul due.eb hv)) (by decide)
    have bu : un.natAbs < 2 ^ 700000 := ub due.ub (by decide)
    have bl : lv.natAbs < 2 ^ 700000 := ub due.lb (by decide)
    have sq1 : ∀ u : Int, Tie u → Sq (mS (gainP u) (cprod ps) (cprod qs) ps qs) (wsum ps * wsum qs * (cprod ps * cprod qs)) := fun u hu => by
      have b := (meet_bd m1 m2 hu hlen).sq (meetL (gainP u) (cprod ps) (cprod qs) ps qs).length
      rw [List.take_length] at b
      exact b
    have sq2 : ∀ u : Int, Tie u → Sq (mS (gainP u) (cprod qs) (cprod ps) qs ps) (wsum qs * wsum ps * (cprod qs * cprod ps)) := fun u hu => by
      have b := (meet_bd m2 m1 hu hlen').sq (meetL (gainP u) (cprod qs) (cprod ps) qs ps).length
      rw [List.take_length] at b
      exact b
    -- one against the other
    refine ⟨_, rfl, _, rfl, _, rfl, rfl, rfl, x0, x1, v, ps, qs, _, _, _, _, rfl, hd.b0.bl, hd.b1.bl, fun h => absurd hv h, fun _ => ⟨m1, m2, hlen, fun y1 H9 s9 hy1 => ?_⟩⟩
    have hd := hd.same s9
    refine ⟨_, rfl, _, rfl, _, _, _, _, rfl, rfl, SqT.of (hd.z), rfl, (by show 2 ≤ sizeLine; decide), fun n1' hn1 => ?_⟩
    have sn := same_upd (o := .tup [.int (lv + v * eq), .int un]) hn1
    refine ⟨y1, n1', _, _, _, _, rfl, RatQ.same hy1 sn, sq1 v hv, upd_same, vals_due due, bt, bu, _, rfl, iteF ?_⟩
    have hd := hd.same sn
    have hP9 := (hP7.same s9).same sn
    generalize upd H9 n1' (.tup [.int (lv + v * eq), .int un]) = G1 at *
    clear hy1 hn1 sn s9 hP7
    -- the other against the one
    refine ⟨_, rfl, _, rfl, _, rfl, _, rfl, rfl, rfl, x1, x0, -v, qs, ps, _, _, _, _, rfl, hd.b1.bl, hd.b0.bl, fun h => absurd (tie_neg hv) h, fun _ => ⟨m2, m1, hlen', fun y1 H9 s9 hy1 => ?_⟩⟩
    have hd := hd.same s9
    refine ⟨_, rfl, _, rfl, _, rfl, _, _, _, _, rfl, rfl, SqT.of (hd.z), rfl, (by show 2 ≤ sizeLine; decide), fun n1' hn1 => ?_⟩
    have sn := same_upd (o := .tup [.int (-(lv + v * eq)), .int un]) hn1
    refine ⟨y1, n1', _, _, _, _, rfl, RatQ.same hy1 sn, sq2 (-v) (tie_neg hv), upd_same, vals_back due, bn bt, bu, _, rfl, iteF ?_⟩
    have hd := hd.same sn
    have hP9 := (hP9.same s9).same sn
    generalize upd H9 n1' (.tup [.int (-(lv + v * eq)), .int un]) = G2 at *
    clear hy1 hn1 sn s9
    -- without a rule
    refine ⟨_, rfl, _, rfl, x0, x1, 0, ps, qs, _, _, _, _, rfl, hd.b0.bl, hd.b1.bl, fun h => absurd (.inr (.inl rfl)) h, fun _ => ⟨m1, m2, hlen, fun y1 H9 s9 hy1 => ?_⟩⟩
    have hd := hd.same s9
    refine ⟨_, rfl, _, _, _, _, rfl, rfl, SqT.of (hd.z), rfl, _, rfl, _, _, _, _, rfl, rfl, SqT.of (hd.z), rfl, (by show 2 ≤ sizeLine; decide), fun n1' hn1 => ?_⟩
    have sn := same_upd (o := .tup [.int lv, .int un]) hn1
    have e0 := vals_due (v := 0) due
    rw [Int.zero_mul, Int.add_zero] at e0
    refine ⟨y1, n1', _, _, _, _, rfl, RatQ.same hy1 sn, sq1 0 (.inr (.inl rfl)), upd_same, e0, bl, bu, _, rfl, iteF ?_⟩
    have hd := hd.same sn
    have hP9 := (hP9.same s9).same sn
    generalize upd H9 n1' (.tup [.int lv, .int un]) = G3 at *
    clear hy1 hn1 sn s9 e0
    -- against one strength
    obtain ⟨vs, hvs, hlv, hall⟩ := id hd.l0
    have l1 := pk.l1
    have hp0 : ps[0]? = some ps[0] := List.getElem?_eq_getElem l1
    generalize ps[0] = p0 at hp0
    obtain ⟨u0, hu0, t0, r0', rfl, ht0, hrow0⟩ := hall 0 p0 hp0
    have po := pk.ok p0 (mem_at hp0)
    refine ⟨fun σ' H' => ∃ k : Int, σ' = [some (.ref a), some (.ref (p : Addr)), some (.ref L), some (.ref M), some (.ref z), some (.ref x0), some (.ref x1), some (.int bad), some (.int v), some (.int (lv + v * eq)), some (.int k), none, none] ∧ 0 ≤ k ∧ k.natAbs < 2 ^ 212 ∧ Hd C D F p L M x0 x1 z ps qs lv eq un H' ∧ Pool H' p, ?_, ?_⟩
    · refine ⟨_, rfl, _, rfl, _, _, _, _, rfl, rfl, SqL.of hvs, at_of (j := 0) (by omega) hu0, _, _, _, _, rfl, rfl, SqT.of (ht0), rfl, p, r0', p0.f, p0.s, p0.c, rfl, hP9, hrow0, po.ok, low p0 (mem_at hp0), fun k H9 kb hP10 k9 => ?_⟩
      exact ⟨k, rfl, _, rfl, by omega, by omega, hd.keep hP9 k9 n0 n1, hP10⟩
    clear hall hvs hlv hu0 ht0 hrow0 hd hP9
    rintro σ' H8 ⟨k, rfl, k0, kb, hd, hP8⟩
    obtain ⟨vs, hvs, hlv, hall⟩ := id hd.l0
    refine ⟨_, rfl, _, rfl, L, rfl, ⟨_, SqL.of hvs⟩, fun D1 hD1 => lc_build (xs := vs) (fun _ v (b : Int) => v = V.int b) (ps.map (wonP k v)) (fun _ _ _ _ _ h => h) hD1 (by rw [List.length_map]; exact hlv) (SqL.of hvs) (by rw [List.length_map]; omega) ?_ ?_⟩
    · rintro b y n H4 Kc Ke hy hn s ⟨acc, hacc⟩ kk
      obtain ⟨pt, hp⟩ := item hlv hy
      rw [List.getElem?_map, hp] at hn
      cases hn
      obtain ⟨y', hy', tp, rp, rfl, htp, hrowp⟩ := hall b pt hp
      rw [hy] at hy'
      cases hy'
      have po := pk.ok pt (mem_at hp)
      have hrow1 : Row H4 rp pt.f pt.s pt.c := s _ _ hrowp
      have ht1 := s _ _ htp
      refine ⟨rfl, ?_⟩
      exact ⟨_, rfl, _, _, _, _, rfl, rfl, SqT.of (ht1), rfl, _, rfl, _, rfl, rp, pt.f, pt.s, pt.c, k, v, rfl, hrow1, po.ok, hv, kk _ H4 (Same.refl _) rfl⟩
    intro H9 s9 hS9
    have hT : H9 D1 = some (.lst ((ps.map (wonP k v)).map V.int)) := hS9.map fun v x e => e
    have hd := hd.same s9
    refine ⟨L, D1, ps, wonP k v, 210, rfl, hd.l0, pk, by decide, by decide, fun p hp => wonP_bd (pk.ok p hp).ok hv, hT, fun z1 H10 s10 hz1 => ?_⟩
    have hd := hd.same s10
    clear hT hS9 hD1 s9 s10
    have m3 := mk_pt k0 (show k.natAbs < 2 ^ 240 by omega)
    have l3 : ps.length * [ptK k].length ≤ 1000 := by show ps.length * 1 ≤ 1000; omega
    refine ⟨_, rfl, rfl, _, rfl, k, rfl, k0, fun xb H11 s11 hb => ?_⟩
    have hd := hd.same s11
    refine ⟨_, rfl, rfl, rfl, x0, xb, v, ps, [ptK k], _, 1, _, 1, rfl, hd.b0.bl, hb, fun h => absurd hv h, fun _ => ⟨m1, m3, l3, fun y1 H12 s12 hy1 => ?_⟩⟩
    have hd := hd.same s12
    have W0 := wsum_pos pk
    have P0 := m1.p
    have sq3 : Sq (mS (gainP v) (cprod ps) 1 ps [ptK k]) (wsum ps * 1 * (cprod ps * 1)) := by
      have b := (meet_bd m1 m3 hv l3).sq (meetL (gainP v) (cprod ps) 1 ps [ptK k]).length
      rw [List.take_length] at b
      exact b
    have bs := tp_bd (e := wonP k v) (b := 210) pk (fun p hp => wonP_bd (pk.ok p hp).ok hv) (qs := ps) (fun _ h => h) l64 (P := cprod ps) (by omega) pk.pc
    refine ⟨_, rfl, y1, z1, _, _, _, _, rfl, hy1, sq3, (s11.trans s12) _ _ hz1, ?_, ub bs (by decide), ub (wide_lt pk.pc (wsum_bd pk)) (by decide), _, rfl, iteF ?_⟩
    · rw [show sumI (meetL (gainP v) (cprod ps) 1 ps [ptK k]) = tpG (wonP k v) ps from mS_pt pk k0, Int.mul_one, Int.mul_one, Int.mul_comm (wsum ps)]
    clear hy1 hb hz1
    obtain ⟨dx, kk, hx, hO, _⟩ := hd.b0.ex
    refine ⟨_, rfl, x0, F, dx, _, _, rfl, hx, TF.cl, TF.nP, bf_parts _, _, rfl, _, rfl, L, ps, rfl, hd.l0, pk.l64, fun H13 s13 => ?_⟩
    refine ⟨kk, L, ps, rfl, hO.same (outP_mono C D _) s13, hd.l0.same rowP_mono s13, pk, fun H14 s14 => ⟨_, rfl, iteF ?_⟩⟩
    have hd := hd.same (s13.trans s14)
    obtain ⟨dx, kk, hx, hO, _⟩ := hd.b1.ex
    refine ⟨_, rfl, x1, F, dx, _, _, rfl, hx, TF.cl, TF.nP, bf_parts _, _, rfl, _, rfl, M, qs, rfl, hd.l1, qk.l64, fun H15 s15 => ?_⟩
    exact ⟨kk, M, qs, rfl, hO.same (outP_mono C D _) s15, hd.l1.same rowP_mono s15, qk, fun H16 s16 => q H16⟩
end
end L

set_option Elab.async false
set_option linter.all false
set_option maxRecDepth 100000
set_option maxHeartbeats 4000000
set_option pp.maxSteps 160
set_option pp.deepTerms false
namespace L
open PySem PySem.Spec PyProof.Rows L2 Fl
local macro_rules | `(tactic| walk_at "side") => `(tactic| first | (exact .inl ⟨by omega, by omega⟩) | (exact .inr ⟨by omega, by omega⟩) | (exact .inr ⟨by decide, by decide⟩) | (show (_ : Int) ≠ _; omega) | (exact ⟨by omega, by decide⟩) | (exact ⟨by decide, by decide, by decide⟩))
local macro_rules | `(tactic| walk_at "go") => `(tactic| repeat (first | refine ⟨_, rfl, ?_⟩ | refine ⟨_, _, rfl, rfl, ?_⟩ | refine .inl ⟨_, rfl, ?_⟩ | refine ⟨rfl, ?_⟩ | refine ⟨(by walk_at "side"), ?_⟩))
local macro_rules | `(tactic| walk_at "see") => `(tactic| (set_option pp.maxSteps 110 in set_option pp.deepTerms false in trace_state))
local macro_rules | `(tactic| walk_at "if") => `(tactic| first | refine ifE ?_ ?_ | refine ifNE ?_ ?_ | refine ifD ?_ ?_ | refine ifN ?_ ?_ | refine ifB ?_ ?_)
section
variable {P : Program} {w : World} {K : PySem.W.Frag} {mg : Str → Option Value} {base : Heap}
end

theorem kit_type {K : PySem.W.Frag} {t : Addr} {n : String} {b : Bool} (hk : PySem.W.kitMeta n = true) (hs : PySem.W.subIn K (.ref t) (.type n) = some b) : PySem.W.kitOne K (.ref t) (.type n) = some b := by
  unfold PySem.W.kitOne
  rw [if_neg (by intro h; cases beq_iff_eq.mp h)]
  show (if PySem.W.kitMeta n = true then PySem.W.subIn K (.ref t) (.type n) else none) = some b
  rw [if_pos hk]
  exact hs
theorem all_mk {l : PySem.W.OpenLaw} {w : World} {K : PySem.W.Frag} {h : Heap} {mg : Str → Option Value} {fa : Addr} (X : K.In h) (G : h.Ns mainGlobals mg) (hfa : mg "law" = some (.ref fa))
    {C : Addr} {fRatio_init tD : Addr} {ocRatio_init kVRatio_init dcRatio_init pmRatio_init cdRatio_init ctRatio_init : Value} {odRatio_init anRatio_init : Option Addr} {slRatio_init : Array (Option Value)} {ocD : Value} {odD : Option Addr} {tkD : Tok} {nD : Nat} {slD : Array (Option Value)} {LE : Addr} {BN : Addr} {nmE qE : Str} {NE : Addr} {bsE subE : List Value} {snE : List Str} {abE : Bool} {colE : Option Bool} {ddE : Option Addr} {mE0 mE1 mE2 mE3 mE5 : Option Value} {fBadNumber_init : Addr} {ocBadNumber_init kVBadNumber_init dcBadNumber_init pmBadNumber_init cdBadNumber_init ctBadNumber_init : Value} {odBadNumber_init anBadNumber_init : Option Addr} {slBadNumber_init : Array (Option Value)} {ZU : Addr} {BS : Addr} {fRatio_add : Addr} {ocRatio_add kVRatio_add dcRatio_add pmRatio_add cdRatio_add ctRatio_add : Value} {odRatio_add anRatio_add : Option Addr} {slRatio_add : Array (Option Value)} {fRatio_radd : Addr} {ocRatio_radd kVRatio_radd dcRatio_radd pmRatio_radd cdRatio_radd ctRatio_radd : Value} {odRatio_radd anRatio_radd : Option Addr} {slRatio_radd : Array (Option Value)} {fRatio_mul : Addr} {ocRatio_mul kVRatio_mul dcRatio_mul pmRatio_mul cdRatio_mul ctRatio_mul : Value} {odRatio_mul anRatio_mul : Option Addr} {slRatio_mul : Array (Option Value)} {fRatio_rmul : Addr} {ocRatio_rmul kVRatio_rmul dcRatio_rmul pmRatio_rmul cdRatio_rmul ctRatio_rmul : Value} {odRatio_rmul anRatio_rmul : Option Addr} {slRatio_rmul : Array (Option Value)} {fRatio_lt : Addr} {ocRatio_lt kVRatio_lt dcRatio_lt pmRatio_lt cdRatio_lt ctRatio_lt : Value} {odRatio_lt anRatio_lt : Option Addr} {slRatio_lt : Array (Option Value)} {fRatio_eq : Addr} {ocRatio_eq kVRatio_eq dcRatio_eq pmRatio_eq cdRatio_eq ctRatio_eq : Value} {odRatio_eq anRatio_eq : Option Addr} {slRatio_eq : Array (Option Value)} {D : Addr} {tkM : Tok} {fRun_init : Addr} {ocRun_init kVRun_init dcRun_init pmRun_init cdRun_init ctRun_init : Value} {odRun_init anRun_init : Option Addr} {slRun_init : Array (Option Value)} {fRun_below : Addr} {ocRun_below kVRun_below dcRun_below pmRun_below cdRun_below ctRun_below : Value} {odRun_below anRun_below : Option Addr} {slRun_below : Array (Option Value)} {fRun_above : Addr} {ocRun_above kVRun_above dcRun_above pmRun_above cdRun_above ctRun_above : Value} {odRun_above anRun_above : Option Addr} {slRun_above : Array (Option Value)} {fRun_getitem : Addr} {ocRun_getitem kVRun_getitem dcRun_getitem pmRun_getitem cdRun_getitem ctRun_getitem : Value} {odRun_getitem anRun_getitem : Option Addr} {slRun_getitem : Array (Option Value)} {pRun_last gRun_last : Addr} {rRun_last : List Value} {ocRun_last kVRun_last dcRun_last pmRun_last cdRun_last ctRun_last : Value} {odRun_last anRun_last : Option Addr} {slRun_last : Array (Option Value)} {pRun_point gRun_point : Addr} {rRun_point : List Value} {ocRun_point kVRun_point dcRun_point pmRun_point cdRun_point ctRun_point : Value} {odRun_point anRun_point : Option Addr} {slRun_point : Array (Option Value)} {tkP : Tok} {BL : Addr} {fBlend_init : Addr} {ocBlend_init kVBlend_init dcBlend_init pmBlend_init cdBlend_init ctBlend_init : Value} {odBlend_init anBlend_init : Option Addr} {slBlend_init : Array (Option Value)} {fBlend_iter : Addr} {ocBlend_iter kVBlend_iter dcBlend_iter pmBlend_iter cdBlend_iter ctBlend_iter : Value} {odBlend_iter anBlend_iter : Option Addr} {slBlend_iter : Array (Option Value)} {pBlend_point gBlend_point : Addr} {rBlend_point : List Value} {ocBlend_point kVBlend_point dcBlend_point pmBlend_point cdBlend_point ctBlend_point : Value} {odBlend_point anBlend_point : Option Addr} {slBlend_point : Array (Option Value)} {fpool : Addr} {ocpool kVpool dcpool pmpool cdpool ctpool : Value} {odpool anpool : Option Addr} {slpool : Array (Option Value)} {fmix : Addr} {ocmix kVmix dcmix pmmix cdmix ctmix : Value} {odmix anmix : Option Addr} {slmix : Array (Option Value)} {fdraw : Addr} {ocdraw kVdraw dcdraw pmdraw cddraw ctdraw : Value} {oddraw andraw : Option Addr} {sldraw : Array (Option Value)} {fwide : Addr} {ocwide kVwide dcwide pmwide cdwide ctwide : Value} {odwide anwide : Option Addr} {slwide : Array (Option Value)} {fany : Addr} {ocany kVany dcany pmany cdany ctany : Value} {odany anany : Option Addr} {slany : Array (Option Value)} {fwhole : Addr} {ocwhole kVwhole dcwhole pmwhole cdwhole ctwhole : Value} {odwhole anwhole : Option Addr} {slwhole : Array (Option Value)} {fratio : Addr} {ocratio kVratio dcratio pmratio cdratio ctratio : Value} {odratio anratio : Option Addr} {slratio : Array (Option Value)} {fsame : Addr} {ocsame kVsame dcsame pmsame cdsame ctsame : Value} {odsame ansame : Option Addr} {slsame : Array (Option Value)} {fgreat_run : Addr} {ocgreat_run kVgreat_run dcgreat_run pmgreat_run cdgreat_run ctgreat_run : Value} {odgreat_run angreat_run : Option Addr} {slgreat_run : Array (Option Value)} {flast : Addr} {oclast kVlast dclast pmlast cdlast ctlast : Value} {odlast anlast : Option Addr} {sllast : Array (Option Value)} {fbeside : Addr} {ocbeside kVbeside dcbeside pmbeside cdbeside ctbeside : Value} {odbeside anbeside : Option Addr} {slbeside : Array (Option Value)} {fupto : Addr} {ocupto kVupto dcupto pmupto cdupto ctupto : Value} {odupto anupto : Option Addr} {slupto : Array (Option Value)} {fwon : Addr} {ocwon kVwon dcwon pmwon cdwon ctwon : Value} {odwon anwon : Option Addr} {slwon : Array (Option Value)} {fheld : Addr} {ocheld kVheld dcheld pmheld cdheld ctheld : Value} {odheld anheld : Option Addr} {slheld : Array (Option Value)} {fparts : Addr} {ocparts kVparts dcparts pmparts cdparts ctparts : Value} {odparts anparts : Option Addr} {slparts : Array (Option Value)} {fweights : Addr} {ocweights kVweights dcweights pmweights cdweights ctweights : Value} {odweights anweights : Option Addr} {slweights : Array (Option Value)} {fblend : Addr} {ocblend kVblend dcblend pmblend cdblend ctblend : Value} {odblend anblend : Option Addr} {slblend : Array (Option Value)} {fsum : Addr} {ocsum kVsum dcsum pmsum cdsum ctsum : Value} {odsum ansum : Option Addr} {slsum : Array (Option Value)} {flisted : Addr} {oclisted kVlisted dclisted pmlisted cdlisted ctlisted : Value} {odlisted anlisted : Option Addr} {sllisted : Array (Option Value)} {flot : Addr} {oclot kVlot dclot pmlot cdlot ctlot : Value} {odlot anlot : Option Addr} {sllot : Array (Option Value)} {fby_walk : Addr} {ocby_walk kVby_walk dcby_walk pmby_walk cdby_walk ctby_walk : Value} {odby_walk anby_walk : Option Addr} {slby_walk : Array (Option Value)} {fby_runs : Addr} {ocby_runs kVby_runs dcby_runs pmby_runs cdby_runs ctby_runs : Value} {odby_runs anby_runs : Option Addr} {slby_runs : Array (Option Value)} {frule_refused : Addr} {ocrule_refused kVrule_refused dcrule_refused pmrule_refused cdrule_refused ctrule_refused : Value} {odrule_refused anrule_refused : Option Addr} {slrule_refused : Array (Option Value)} {flong_row : Addr} {oclong_row kVlong_row dclong_row pmlong_row cdlong_row ctlong_row : Value} {odlong_row anlong_row : Option Addr} {sllong_row : Array (Option Value)} {fcheck_ties : Addr} {occheck_ties kVcheck_ties dccheck_ties pmcheck_ties cdcheck_ties ctcheck_ties : Value} {odcheck_ties ancheck_ties : Option Addr} {slcheck_ties : Array (Option Value)} {fcheck_floor_sum : Addr} {occheck_floor_sum kVcheck_floor_sum dccheck_floor_sum pmcheck_floor_sum cdcheck_floor_sum ctcheck_floor_sum : Value} {odcheck_floor_sum ancheck_floor_sum : Option Addr} {slcheck_floor_sum : Array (Option Value)} {ffloor_sum : Addr} {ocfloor_sum kVfloor_sum dcfloor_sum pmfloor_sum cdfloor_sum ctfloor_sum : Value} {odfloor_sum anfloor_sum : Option Addr} {slfloor_sum : Array (Option Value)} {fpairs_above : Addr} {ocpairs_above kVpairs_above dcpairs_above pmpairs_above cdpairs_above ctpairs_above : Value} {odpairs_above anpairs_above : Option Addr} {slpairs_above : Array (Option Value)} {fpairs_alike : Addr} {ocpairs_alike kVpairs_alike dcpairs_alike pmpairs_alike cdpairs_alike ctpairs_alike : Value} {odpairs_alike anpairs_alike : Option Addr} {slpairs_alike : Array (Option Value)} {fis_number : Addr} {ocis_number kVis_number dcis_number pmis_number cdis_number ctis_number : Value} {odis_number anis_number : Option Addr} {slis_number : Array (Option Value)} {fas_ratio : Addr} {ocas_ratio kVas_ratio dcas_ratio pmas_ratio cdas_ratio ctas_ratio : Value} {odas_ratio anas_ratio : Option Addr} {slas_ratio : Array (Option Value)} {ftop_of : Addr} {octop_of kVtop_of dctop_of pmtop_of cdtop_of cttop_of : Value} {odtop_of antop_of : Option Addr} {sltop_of : Array (Option Value)} {funder_of : Addr} {ocunder_of kVunder_of dcunder_of pmunder_of cdunder_of ctunder_of : Value} {odunder_of anunder_of : Option Addr} {slunder_of : Array (Option Value)} {fadded : Addr} {ocadded kVadded dcadded pmadded cdadded ctadded : Value} {odadded anadded : Option Addr} {sladded : Array (Option Value)} {fcheck_parts : Addr} {occheck_parts kVcheck_parts dccheck_parts pmcheck_parts cdcheck_parts ctcheck_parts : Value} {odcheck_parts ancheck_parts : Option Addr} {slcheck_parts : Array (Option Value)} {fput_together : Addr} {ocput_together kVput_together dcput_together pmput_together cdput_together ctput_together : Value} {odput_together anput_together : Option Addr} {slput_together : Array (Option Value)} {frun_gain kdrun_gain : Addr} {tkkrun_gain : Tok} {ocrun_gain dcrun_gain pmrun_gain cdrun_gain ctrun_gain : Value} {odrun_gain anrun_gain : Option Addr} {slrun_gain : Array (Option Value)} {fmeet kdmeet : Addr} {tkkmeet : Tok} {ocmeet dcmeet pmmeet cdmeet ctmeet : Value} {odmeet anmeet : Option Addr} {slmeet : Array (Option Value)} {flaw : Addr} {oclaw kVlaw dclaw pmlaw cdlaw ctlaw : Value} {odlaw anlaw : Option Addr} {sllaw : Array (Option Value)}
    (zlen : PySem.W.nsIn K mainGlobals "len" = some none)
    (zint : PySem.W.nsIn K mainGlobals "int" = some none)
    (zabs : PySem.W.nsIn K mainGlobals "abs" = some none)
    (zrange : PySem.W.nsIn K mainGlobals "range" = some none)
    (zisinstance : PySem.W.nsIn K mainGlobals "isinstance" = some none)
    (zmax : PySem.W.nsIn K mainGlobals "max" = some none)
    (zmin : PySem.W.nsIn K mainGlobals "min" = some none)
    (zsum : PySem.W.nsIn K mainGlobals "sum" = some none)
    (zstr : PySem.W.nsIn K mainGlobals "str" = some none)
    (zbool : PySem.W.nsIn K mainGlobals "bool" = some none)
    (zlist : PySem.W.nsIn K mainGlobals "list" = some none)
    (zValueError : PySem.W.nsIn K mainGlobals "ValueError" = some none)
    (zzip : PySem.W.nsIn K mainGlobals "zip" = some none)
    (zany : PySem.W.nsIn K mainGlobals "any" = some none)
    (ztuple : PySem.W.nsIn K mainGlobals "tuple" = some none)
    (ziter : PySem.W.nsIn K mainGlobals "iter" = some none)
    (aC : PySem.W.nsIn K mainGlobals "Ratio" = some (some (.ref C)))
    (pgC : PySem.W.plainGet K C Str.empty = true)
    (hdC : PySem.W.hasDictIn K C = true)
    (poC : PySem.W.plainOver K C = true)
    (saC : PySem.W.findIn K (.ref C) "__setattr__" = some (some (.builtin "object.__setattr__")))
    (mkC : PySem.W.makesIn K C = true)
    (kcC : PySem.W.keepIn K (.ref C) = true)
    (nTC : PySem.W.findIn K (.ref C) "top" = some none)
    (nUC : PySem.W.findIn K (.ref C) "under" = some none)
    (haC : PySem.W.findIn K (.ref C) "__class__" = some (some (.builtin "object.__class__")))
    (hnO : PySem.W.specialIn K (.builtin "object.__class__") "__get__" = some (some (.builtin "getset_descriptor.__get__")))
    (htO : PySem.W.takesIn K (.builtin "object.__class__") = some true)
    (hmC : PySem.W.mroIn K C (.type "object") = some true)
    (siC : PySem.W.subIn K (.type "int") (.ref C) = some false)
    (tyC : PySem.W.typeIn K (.ref C) = some (.type "type"))
    (aRatio_init : PySem.W.findIn K (.ref C) "__init__" = some (some (.ref fRatio_init)))
    (iRatio_init : PySem.W.isFn K (.ref fRatio_init) = true)
    (lRatio_init : K.lookup fRatio_init = some ⟨ocRatio_init, odRatio_init, .func (PySem.W.fnOf "__init__" "Ratio.__init__" (defArgs s_Ratio_init) (defBody s_Ratio_init) (defScope s_Ratio_init) (.ref tD) kVRatio_init dcRatio_init pmRatio_init anRatio_init cdRatio_init ctRatio_init), slRatio_init⟩)
    (cRatio_init : PySem.W.codeIn K cdRatio_init "Ratio.__init__" = true)
    (kRatio_init : PySem.W.keepIn K (.ref fRatio_init) = true)
    (lD : K.lookup tD = some ⟨ocD, odD, .seq #[.int 1 tkD] nD, slD⟩)
    (aGcd : PySem.W.nsIn K mainGlobals "gcd" = some (some (.builtin "math.gcd")))
    (aLE : PySem.W.nsIn K mainGlobals "LotError" = some (some (.ref LE)))
    (hdLE : PySem.W.hasDictIn K LE = true)
    (teLE : PySem.W.typeIn K (.ref LE) = some (.type "type"))
    (aBN : PySem.W.nsIn K mainGlobals "BadNumber" = some (some (.ref BN)))
    (xBN : K.lookup BN = some (excClassObj nmE qE BN NE bsE [.ref LE, .type "ValueError", .type "Exception", .type "BaseException", .type "object"] true snE subE abE colE ddE mE0 mE1 mE2 mE3 mE5 "ValueError.__new__"))
    (saBN : PySem.W.findIn K (.ref BN) "__setattr__" = some (some (.builtin "object.__setattr__")))
    (keBN : PySem.W.keepIn K (.ref BN) = true)
    (beBN : PySem.W.subIn K (.ref BN) (.type "BaseException") = some true)
    (teBN : PySem.W.typeIn K (.ref BN) = some (.type "type"))
    (seBN : PySem.W.subIn K (.ref BN) (.ref BN) = some true)
    (geBN : PySem.W.findIn K (.ref BN) "__getattribute__" = some (some (.builtin "BaseException.__getattribute__")))
    (ggBN : PySem.W.findIn K (.ref BN) "__getattr__" = some none)
    (hdBN : PySem.W.hasDictIn K BN = true)
    (hcBN : PySem.W.findIn K (.ref BN) "__class__" = some (some (.builtin "object.__class__")))
    (hoBN : PySem.W.mroIn K BN (.type "object") = some true)
    (veBN : PySem.W.subIn K (.ref BN) (.type "ValueError") = some true)
    (fnBN : PySem.W.findIn K (.ref BN) "name" = some none)
    (fvBN : PySem.W.findIn K (.ref BN) "value" = some none)
    (aBadNumber_init : PySem.W.findIn K (.ref BN) "__init__" = some (some (.ref fBadNumber_init)))
    (tBadNumber_init : PySem.W.typeIn K (.ref fBadNumber_init) = some (.type "function"))
    (lBadNumber_init : K.lookup fBadNumber_init = some ⟨ocBadNumber_init, odBadNumber_init, .func (PySem.W.fnOf "__init__" "BadNumber.__init__" (defArgs s_BadNumber_init) (defBody s_BadNumber_init) (defScope s_BadNumber_init) .none kVBadNumber_init dcBadNumber_init pmBadNumber_init anBadNumber_init cdBadNumber_init ctBadNumber_init), slBadNumber_init⟩)
    (cBadNumber_init : PySem.W.codeIn K cdBadNumber_init "BadNumber.__init__" = true)
    (kBadNumber_init : PySem.W.keepIn K (.ref fBadNumber_init) = true)
    (sBNLE : PySem.W.subIn K (.ref BN) (.ref LE) = some true)
    (kmV : PySem.W.kitMeta "ValueError" = true)
    (aZU : PySem.W.nsIn K mainGlobals "ZeroUnder" = some (some (.ref ZU)))
    (xZU : PySem.W.excIn K ZU [.type "ValueError", .type "Exception", .type "BaseException", .type "object"] "ValueError.__new__" = true)
    (keZU : PySem.W.keepIn K (.ref ZU) = true)
    (beZU : PySem.W.subIn K (.ref ZU) (.type "BaseException") = some true)
    (teZU : PySem.W.typeIn K (.ref ZU) = some (.type "type"))
    (seZU : PySem.W.subIn K (.ref ZU) (.ref ZU) = some true)
    (geZU : PySem.W.findIn K (.ref ZU) "__getattribute__" = some (some (.builtin "BaseException.__getattribute__")))
    (ggZU : PySem.W.findIn K (.ref ZU) "__getattr__" = some none)
    (hdZU : PySem.W.hasDictIn K ZU = true)
    (hcZU : PySem.W.findIn K (.ref ZU) "__class__" = some (some (.builtin "object.__class__")))
    (hoZU : PySem.W.mroIn K ZU (.type "object") = some true)
    (veZU : PySem.W.subIn K (.ref ZU) (.type "ValueError") = some true)
    (aBS : PySem.W.nsIn K mainGlobals "BadShares" = some (some (.ref BS)))
    (xBS : PySem.W.excIn K BS [.type "ValueError", .type "Exception", .type "BaseException", .type "object"] "ValueError.__new__" = true)
    (keBS : PySem.W.keepIn K (.ref BS) = true)
    (beBS : PySem.W.subIn K (.ref BS) (.type "BaseException") = some true)
    (teBS : PySem.W.typeIn K (.ref BS) = some (.type "type"))
    (seBS : PySem.W.subIn K (.ref BS) (.ref BS) = some true)
    (geBS : PySem.W.findIn K (.ref BS) "__getattribute__" = some (some (.builtin "BaseException.__getattribute__")))
    (ggBS : PySem.W.findIn K (.ref BS) "__getattr__" = some none)
    (hdBS : PySem.W.hasDictIn K BS = true)
    (hcBS : PySem.W.findIn K (.ref BS) "__class__" = some (some (.builtin "object.__class__")))
    (hoBS : PySem.W.mroIn K BS (.type "object") = some true)
    (veBS : PySem.W.subIn K (.ref BS) (.type "ValueError") = some true)
    (ziAdd : PySem.W.findIn K (.type "int") "__add__" = some (some (.builtin "int.__add__")))
    (zjAdd : PySem.W.findIn K (.type "int") "__radd__" = some (some (.builtin "int.__radd__")))
    (ziSub : PySem.W.findIn K (.type "int") "__sub__" = some (some (.builtin "int.__sub__")))
    (zjSub : PySem.W.findIn K (.type "int") "__rsub__" = some (some (.builtin "int.__rsub__")))
    (ziMult : PySem.W.findIn K (.type "int") "__mul__" = some (some (.builtin "int.__mul__")))
    (zjMult : PySem.W.findIn K (.type "int") "__rmul__" = some (some (.builtin "int.__rmul__")))
    (hSF : PySem.W.selfFirst K C = true)
    (scI : PySem.W.subIn K (.ref C) (.type "int") = some false)
    (kmI : PySem.W.kitMeta "int" = true)
    (aRatio_add : PySem.W.findIn K (.ref C) "__add__" = some (some (.ref fRatio_add)))
    (iRatio_add : PySem.W.isFn K (.ref fRatio_add) = true)
    (lRatio_add : K.lookup fRatio_add = some ⟨ocRatio_add, odRatio_add, .func (PySem.W.fnOf "__add__" "Ratio.__add__" (defArgs s_Ratio_add) (defBody s_Ratio_add) (defScope s_Ratio_add) .none kVRatio_add dcRatio_add pmRatio_add anRatio_add cdRatio_add ctRatio_add), slRatio_add⟩)
    (cRatio_add : PySem.W.codeIn K cdRatio_add "Ratio.__add__" = true)
    (kRatio_add : PySem.W.keepIn K (.ref fRatio_add) = true)
    (aRatio_radd : PySem.W.findIn K (.ref C) "__radd__" = some (some (.ref fRatio_radd)))
    (iRatio_radd : PySem.W.isFn K (.ref fRatio_radd) = true)
    (lRatio_radd : K.lookup fRatio_radd = some ⟨ocRatio_radd, odRatio_radd, .func (PySem.W.fnOf "__radd__" "Ratio.__radd__" (defArgs s_Ratio_radd) (defBody s_Ratio_radd) (defScope s_Ratio_radd) .none kVRatio_radd dcRatio_radd pmRatio_radd anRatio_radd cdRatio_radd ctRatio_radd), slRatio_radd⟩)
    (cRatio_radd : PySem.W.codeIn K cdRatio_radd "Ratio.__radd__" = true)
    (kRatio_radd : PySem.W.keepIn K (.ref fRatio_radd) = true)
    (aRatio_mul : PySem.W.findIn K (.ref C) "__mul__" = some (some (.ref fRatio_mul)))
    (iRatio_mul : PySem.W.isFn K (.ref fRatio_mul) = true)
    (lRatio_mul : K.lookup fRatio_mul = some ⟨ocRatio_mul, odRatio_mul, .func (PySem.W.fnOf "__mul__" "Ratio.__mul__" (defArgs s_Ratio_mul) (defBody s_Ratio_mul) (defScope s_Ratio_mul) .none kVRatio_mul dcRatio_mul pmRatio_mul anRatio_mul cdRatio_mul ctRatio_mul), slRatio_mul⟩)
    (cRatio_mul : PySem.W.codeIn K cdRatio_mul "Ratio.__mul__" = true)
    (kRatio_mul : PySem.W.keepIn K (.ref fRatio_mul) = true)
    (aRatio_rmul : PySem.W.findIn K (.ref C) "__rmul__" = some (some (.ref fRatio_rmul)))
    (iRatio_rmul : PySem.W.isFn K (.ref fRatio_rmul) = true)
    (lRatio_rmul : K.lookup fRatio_rmul = some ⟨ocRatio_rmul, odRatio_rmul, .func (PySem.W.fnOf "__rmul__" "Ratio.__rmul__" (defArgs s_Ratio_rmul) (defBody s_Ratio_rmul) (defScope s_Ratio_rmul) .none kVRatio_rmul dcRatio_rmul pmRatio_rmul anRatio_rmul cdRatio_rmul ctRatio_rmul), slRatio_rmul⟩)
    (cRatio_rmul : PySem.W.codeIn K cdRatio_rmul "Ratio.__rmul__" = true)
    (kRatio_rmul : PySem.W.keepIn K (.ref fRatio_rmul) = true)
    (aRatio_lt : PySem.W.findIn K (.ref C) "__lt__" = some (some (.ref fRatio_lt)))
    (iRatio_lt : PySem.W.isFn K (.ref fRatio_lt) = true)
    (lRatio_lt : K.lookup fRatio_lt = some ⟨ocRatio_lt, odRatio_lt, .func (PySem.W.fnOf "__lt__" "Ratio.__lt__" (defArgs s_Ratio_lt) (defBody s_Ratio_lt) (defScope s_Ratio_lt) .none kVRatio_lt dcRatio_lt pmRatio_lt anRatio_lt cdRatio_lt ctRatio_lt), slRatio_lt⟩)
    (cRatio_lt : PySem.W.codeIn K cdRatio_lt "Ratio.__lt__" = true)
    (kRatio_lt : PySem.W.keepIn K (.ref fRatio_lt) = true)
    (aRatio_eq : PySem.W.findIn K (.ref C) "__eq__" = some (some (.ref fRatio_eq)))
    (iRatio_eq : PySem.W.isFn K (.ref fRatio_eq) = true)
    (lRatio_eq : K.lookup fRatio_eq = some ⟨ocRatio_eq, odRatio_eq, .func (PySem.W.fnOf "__eq__" "Ratio.__eq__" (defArgs s_Ratio_eq) (defBody s_Ratio_eq) (defScope s_Ratio_eq) .none kVRatio_eq dcRatio_eq pmRatio_eq anRatio_eq cdRatio_eq ctRatio_eq), slRatio_eq⟩)
    (cRatio_eq : PySem.W.codeIn K cdRatio_eq "Ratio.__eq__" = true)
    (kRatio_eq : PySem.W.keepIn K (.ref fRatio_eq) = true)
    (neC : PySem.W.findIn K (.ref C) "__ne__" = some (some (.builtin "object.__ne__")))
    (aD : PySem.W.nsIn K mainGlobals "Run" = some (some (.ref D)))
    (pgD : PySem.W.plainGet K D Str.empty = true)
    (hdD : PySem.W.hasDictIn K D = true)
    (poD : PySem.W.plainOver K D = true)
    (saD : PySem.W.findIn K (.ref D) "__setattr__" = some (some (.builtin "object.__setattr__")))
    (mkD : PySem.W.makesIn K D = true)
    (kcD : PySem.W.keepIn K (.ref D) = true)
    (n1D : PySem.W.findIn K (.ref D) "first" = some none)
    (n2D : PySem.W.findIn K (.ref D) "step" = some none)
    (n3D : PySem.W.findIn K (.ref D) "count" = some none)
    (haD : PySem.W.findIn K (.ref D) "__class__" = some (some (.builtin "object.__class__")))
    (hmD : PySem.W.mroIn K D (.type "object") = some true)
    (aMS : PySem.W.nsIn K mainGlobals "MOST_STEP" = some (some (.int 4 tkM)))
    (aRun_init : PySem.W.findIn K (.ref D) "__init__" = some (some (.ref fRun_init)))
    (iRun_init : PySem.W.isFn K (.ref fRun_init) = true)
    (lRun_init : K.lookup fRun_init = some ⟨ocRun_init, odRun_init, .func (PySem.W.fnOf "__init__" "Run.__init__" (defArgs s_Run_init) (defBody s_Run_init) (defScope s_Run_init) .none kVRun_init dcRun_init pmRun_init anRun_init cdRun_init ctRun_init), slRun_init⟩)
    (cRun_init : PySem.W.codeIn K cdRun_init "Run.__init__" = true)
    (kRun_init : PySem.W.keepIn K (.ref fRun_init) = true)
    (aRun_below : PySem.W.findIn K (.ref D) "below" = some (some (.ref fRun_below)))
    (iRun_below : PySem.W.isFn K (.ref fRun_below) = true)
    (lRun_below : K.lookup fRun_below = some ⟨ocRun_below, odRun_below, .func (PySem.W.fnOf "below" "Run.below" (defArgs s_Run_below) (defBody s_Run_below) (defScope s_Run_below) .none kVRun_below dcRun_below pmRun_below anRun_below cdRun_below ctRun_below), slRun_below⟩)
    (cRun_below : PySem.W.codeIn K cdRun_below "Run.below" = true)
    (kRun_below : PySem.W.keepIn K (.ref fRun_below) = true)
    (aRun_above : PySem.W.findIn K (.ref D) "above" = some (some (.ref fRun_above)))
    (iRun_above : PySem.W.isFn K (.ref fRun_above) = true)
    (lRun_above : K.lookup fRun_above = some ⟨ocRun_above, odRun_above, .func (PySem.W.fnOf "above" "Run.above" (defArgs s_Run_above) (defBody s_Run_above) (defScope s_Run_above) .none kVRun_above dcRun_above pmRun_above anRun_above cdRun_above ctRun_above), slRun_above⟩)
    (cRun_above : PySem.W.codeIn K cdRun_above "Run.above" = true)
    (kRun_above : PySem.W.keepIn K (.ref fRun_above) = true)
    (aRun_getitem : PySem.W.findIn K (.ref D) "__getitem__" = some (some (.ref fRun_getitem)))
    (iRun_getitem : PySem.W.isFn K (.ref fRun_getitem) = true)
    (lRun_getitem : K.lookup fRun_getitem = some ⟨ocRun_getitem, odRun_getitem, .func (PySem.W.fnOf "__getitem__" "Run.__getitem__" (defArgs s_Run_getitem) (defBody s_Run_getitem) (defScope s_Run_getitem) .none kVRun_getitem dcRun_getitem pmRun_getitem anRun_getitem cdRun_getitem ctRun_getitem), slRun_getitem⟩)
    (cRun_getitem : PySem.W.codeIn K cdRun_getitem "Run.__getitem__" = true)
    (kRun_getitem : PySem.W.keepIn K (.ref fRun_getitem) = true)
    (q1Run_last : PySem.W.findIn K (.ref D) "last" = some (some (.ref pRun_last)))
    (q2Run_last : PySem.W.specialIn K (.ref pRun_last) "__get__" = some (some (.builtin "property.__get__")))
    (q3Run_last : PySem.W.takesIn K (.ref pRun_last) = some true)
    (q4Run_last : PySem.W.recIn K pRun_last "property" = some (.ref gRun_last :: rRun_last))
    (lRun_last : K.lookup gRun_last = some ⟨ocRun_last, odRun_last, .func (PySem.W.fnOf "last" "Run.last" (defArgs s_Run_last) (defBody s_Run_last) (defScope s_Run_last) .none kVRun_last dcRun_last pmRun_last anRun_last cdRun_last ctRun_last), slRun_last⟩)
    (cRun_last : PySem.W.codeIn K cdRun_last "Run.last" = true)
    (kRun_last : PySem.W.keepIn K (.ref gRun_last) = true)
    (fnG : PySem.W.fnIn K fRun_getitem = true)
    (rdD : PySem.W.readsIn K D (.type "type") = true)
    (gatD : PySem.W.specialIn K (.ref D) "__getattribute__" = some (some (.builtin "type.__getattribute__")))
    (q1Run_point : PySem.W.findCls K (.ref D) (.type "type") "point" = some (.get (.builtin "classmethod.__get__") (.ref pRun_point) .none (.ref D)))
    (q2Run_point : PySem.W.recIn K pRun_point "classmethod" = some (.ref gRun_point :: rRun_point))
    (q3Run_point : PySem.W.fnIn K gRun_point = true)
    (lRun_point : K.lookup gRun_point = some ⟨ocRun_point, odRun_point, .func (PySem.W.fnOf "point" "Run.point" (defArgs s_Run_point) (defBody s_Run_point) (defScope s_Run_point) .none kVRun_point dcRun_point pmRun_point anRun_point cdRun_point ctRun_point), slRun_point⟩)
    (cRun_point : PySem.W.codeIn K cdRun_point "Run.point" = true)
    (kRun_point : PySem.W.keepIn K (.ref gRun_point) = true)
    (aMP : PySem.W.nsIn K mainGlobals "MOST_PARTS" = some (some (.int 64 tkP)))
    (aBL : PySem.W.nsIn K mainGlobals "Blend" = some (some (.ref BL)))
    (pgBL : PySem.W.plainGet K BL Str.empty = true)
    (hdBL : PySem.W.hasDictIn K BL = true)
    (poBL : PySem.W.plainOver K BL = true)
    (saBL : PySem.W.findIn K (.ref BL) "__setattr__" = some (some (.builtin "object.__setattr__")))
    (mkBL : PySem.W.makesIn K BL = true)
    (kcBL : PySem.W.keepIn K (.ref BL) = true)
    (n1BL : PySem.W.findIn K (.ref BL) "parts" = some none)
    (haBL : PySem.W.findIn K (.ref BL) "__class__" = some (some (.builtin "object.__class__")))
    (hmBL : PySem.W.mroIn K BL (.type "object") = some true)
    (aBlend_init : PySem.W.findIn K (.ref BL) "__init__" = some (some (.ref fBlend_init)))
    (iBlend_init : PySem.W.isFn K (.ref fBlend_init) = true)
    (lBlend_init : K.lookup fBlend_init = some ⟨ocBlend_init, odBlend_init, .func (PySem.W.fnOf "__init__" "Blend.__init__" (defArgs s_Blend_init) (defBody s_Blend_init) (defScope s_Blend_init) .none kVBlend_init dcBlend_init pmBlend_init anBlend_init cdBlend_init ctBlend_init), slBlend_init⟩)
    (cBlend_init : PySem.W.codeIn K cdBlend_init "Blend.__init__" = true)
    (kBlend_init : PySem.W.keepIn K (.ref fBlend_init) = true)
    (aBlend_iter : PySem.W.findIn K (.ref BL) "__iter__" = some (some (.ref fBlend_iter)))
    (iBlend_iter : PySem.W.isFn K (.ref fBlend_iter) = true)
    (lBlend_iter : K.lookup fBlend_iter = some ⟨ocBlend_iter, odBlend_iter, .func (PySem.W.fnOf "__iter__" "Blend.__iter__" (defArgs s_Blend_iter) (defBody s_Blend_iter) (defScope s_Blend_iter) .none kVBlend_iter dcBlend_iter pmBlend_iter anBlend_iter cdBlend_iter ctBlend_iter), slBlend_iter⟩)
    (cBlend_iter : PySem.W.codeIn K cdBlend_iter "Blend.__iter__" = true)
    (kBlend_iter : PySem.W.keepIn K (.ref fBlend_iter) = true)
    (rdBL : PySem.W.readsIn K BL (.type "type") = true)
    (gatBL : PySem.W.specialIn K (.ref BL) "__getattribute__" = some (some (.builtin "type.__getattribute__")))
    (q1Blend_point : PySem.W.findCls K (.ref BL) (.type "type") "point" = some (.get (.builtin "classmethod.__get__") (.ref pBlend_point) .none (.ref BL)))
    (q2Blend_point : PySem.W.recIn K pBlend_point "classmethod" = some (.ref gBlend_point :: rBlend_point))
    (q3Blend_point : PySem.W.fnIn K gBlend_point = true)
    (lBlend_point : K.lookup gBlend_point = some ⟨ocBlend_point, odBlend_point, .func (PySem.W.fnOf "point" "Blend.point" (defArgs s_Blend_point) (defBody s_Blend_point) (defScope s_Blend_point) .none kVBlend_point dcBlend_point pmBlend_point anBlend_point cdBlend_point ctBlend_point), slBlend_point⟩)
    (cBlend_point : PySem.W.codeIn K cdBlend_point "Blend.point" = true)
    (kBlend_point : PySem.W.keepIn K (.ref gBlend_point) = true)
    (apool : PySem.W.nsIn K mainGlobals "_law_pool" = some (some (.ref fpool)))
    (lpool : K.lookup fpool = some ⟨ocpool, odpool, .func (PySem.W.fnOf "_law_pool" "_law_pool" (defArgs s_pool) (defBody s_pool) (defScope s_pool) .none kVpool dcpool pmpool anpool cdpool ctpool), slpool⟩)
    (cpool : PySem.W.codeIn K cdpool "_law_pool" = true)
    (kpool : PySem.W.keepIn K (.ref fpool) = true)
    (amix : PySem.W.nsIn K mainGlobals "_law_mix" = some (some (.ref fmix)))
    (lmix : K.lookup fmix = some ⟨ocmix, odmix, .func (PySem.W.fnOf "_law_mix" "_law_mix" (defArgs s_mix) (defBody s_mix) (defScope s_mix) .none kVmix dcmix pmmix anmix cdmix ctmix), slmix⟩)
    (cmix : PySem.W.codeIn K cdmix "_law_mix" = true)
    (kmix : PySem.W.keepIn K (.ref fmix) = true)
    (adraw : PySem.W.nsIn K mainGlobals "_law_draw" = some (some (.ref fdraw)))
    (ldraw : K.lookup fdraw = some ⟨ocdraw, oddraw, .func (PySem.W.fnOf "_law_draw" "_law_draw" (defArgs s_draw) (defBody s_draw) (defScope s_draw) .none kVdraw dcdraw pmdraw andraw cddraw ctdraw), sldraw⟩)
    (cdraw : PySem.W.codeIn K cddraw "_law_draw" = true)
    (kdraw : PySem.W.keepIn K (.ref fdraw) = true)
    (awide : PySem.W.nsIn K mainGlobals "_law_wide" = some (some (.ref fwide)))
    (lwide : K.lookup fwide = some ⟨ocwide, odwide, .func (PySem.W.fnOf "_law_wide" "_law_wide" (defArgs s_wide) (defBody s_wide) (defScope s_wide) .none kVwide dcwide pmwide anwide cdwide ctwide), slwide⟩)
    (cwide : PySem.W.codeIn K cdwide "_law_wide" = true)
    (kwide : PySem.W.keepIn K (.ref fwide) = true)
    (aany : PySem.W.nsIn K mainGlobals "_law_any" = some (some (.ref fany)))
    (lany : K.lookup fany = some ⟨ocany, odany, .func (PySem.W.fnOf "_law_any" "_law_any" (defArgs s_any) (defBody s_any) (defScope s_any) .none kVany dcany pmany anany cdany ctany), slany⟩)
    (cany : PySem.W.codeIn K cdany "_law_any" = true)
    (kany : PySem.W.keepIn K (.ref fany) = true)
    (awhole : PySem.W.nsIn K mainGlobals "_law_whole" = some (some (.ref fwhole)))
    (lwhole : K.lookup fwhole = some ⟨ocwhole, odwhole, .func (PySem.W.fnOf "_law_whole" "_law_whole" (defArgs s_whole) (defBody s_whole) (defScope s_whole) .none kVwhole dcwhole pmwhole anwhole cdwhole ctwhole), slwhole⟩)
    (cwhole : PySem.W.codeIn K cdwhole "_law_whole" = true)
    (kwhole : PySem.W.keepIn K (.ref fwhole) = true)
    (aratio : PySem.W.nsIn K mainGlobals "_law_ratio" = some (some (.ref fratio)))
    (lratio : K.lookup fratio = some ⟨ocratio, odratio, .func (PySem.W.fnOf "_law_ratio" "_law_ratio" (defArgs s_ratio) (defBody s_ratio) (defScope s_ratio) .none kVratio dcratio pmratio anratio cdratio ctratio), slratio⟩)
    (cratio : PySem.W.codeIn K cdratio "_law_ratio" = true)
    (kratio : PySem.W.keepIn K (.ref fratio) = true)
    (asame : PySem.W.nsIn K mainGlobals "_law_same" = some (some (.ref fsame)))
    (lsame : K.lookup fsame = some ⟨ocsame, odsame, .func (PySem.W.fnOf "_law_same" "_law_same" (defArgs s_same) (defBody s_same) (defScope s_same) .none kVsame dcsame pmsame ansame cdsame ctsame), slsame⟩)
    (csame : PySem.W.codeIn K cdsame "_law_same" = true)
    (ksame : PySem.W.keepIn K (.ref fsame) = true)
    (agreat_run : PySem.W.nsIn K mainGlobals "_law_great_run" = some (some (.ref fgreat_run)))
    (lgreat_run : K.lookup fgreat_run = some ⟨ocgreat_run, odgreat_run, .func (PySem.W.fnOf "_law_great_run" "_law_great_run" (defArgs s_great_run) (defBody s_great_run) (defScope s_great_run) .none kVgreat_run dcgreat_run pmgreat_run angreat_run cdgreat_run ctgreat_run), slgreat_run⟩)
    (cgreat_run : PySem.W.codeIn K cdgreat_run "_law_great_run" = true)
    (kgreat_run : PySem.W.keepIn K (.ref fgreat_run) = true)
    (alast : PySem.W.nsIn K mainGlobals "_law_last" = some (some (.ref flast)))
    (llast : K.lookup flast = some ⟨oclast, odlast, .func (PySem.W.fnOf "_law_last" "_law_last" (defArgs s_last) (defBody s_last) (defScope s_last) .none kVlast dclast pmlast anlast cdlast ctlast), sllast⟩)
    (clast : PySem.W.codeIn K cdlast "_law_last" = true)
    (klast : PySem.W.keepIn K (.ref flast) = true)
    (abeside : PySem.W.nsIn K mainGlobals "_law_beside" = some (some (.ref fbeside)))
    (lbeside : K.lookup fbeside = some ⟨ocbeside, odbeside, .func (PySem.W.fnOf "_law_beside" "_law_beside" (defArgs s_beside) (defBody s_beside) (defScope s_beside) .none kVbeside dcbeside pmbeside anbeside cdbeside ctbeside), slbeside⟩)
    (cbeside : PySem.W.codeIn K cdbeside "_law_beside" = true)
    (kbeside : PySem.W.keepIn K (.ref fbeside) = true)
    (aupto : PySem.W.nsIn K mainGlobals "_law_upto" = some (some (.ref fupto)))
    (lupto : K.lookup fupto = some ⟨ocupto, odupto, .func (PySem.W.fnOf "_law_upto" "_law_upto" (defArgs s_upto) (defBody s_upto) (defScope s_upto) .none kVupto dcupto pmupto anupto cdupto ctupto), slupto⟩)
    (cupto : PySem.W.codeIn K cdupto "_law_upto" = true)
    (kupto : PySem.W.keepIn K (.ref fupto) = true)
    (awon : PySem.W.nsIn K mainGlobals "_law_won" = some (some (.ref fwon)))
    (lwon : K.lookup fwon = some ⟨ocwon, odwon, .func (PySem.W.fnOf "_law_won" "_law_won" (defArgs s_won) (defBody s_won) (defScope s_won) .none kVwon dcwon pmwon anwon cdwon ctwon), slwon⟩)
    (cwon : PySem.W.codeIn K cdwon "_law_won" = true)
    (kwon : PySem.W.keepIn K (.ref fwon) = true)
    (aheld : PySem.W.nsIn K mainGlobals "_law_held" = some (some (.ref fheld)))
    (lheld : K.lookup fheld = some ⟨ocheld, odheld, .func (PySem.W.fnOf "_law_held" "_law_held" (defArgs s_held) (defBody s_held) (defScope s_held) .none kVheld dcheld pmheld anheld cdheld ctheld), slheld⟩)
    (cheld : PySem.W.codeIn K cdheld "_law_held" = true)
    (kheld : PySem.W.keepIn K (.ref fheld) = true)
    (aparts : PySem.W.nsIn K mainGlobals "_law_parts" = some (some (.ref fparts)))
    (lparts : K.lookup fparts = some ⟨ocparts, odparts, .func (PySem.W.fnOf "_law_parts" "_law_parts" (defArgs s_parts) (defBody s_parts) (defScope s_parts) .none kVparts dcparts pmparts anparts cdparts ctparts), slparts⟩)
    (cparts : PySem.W.codeIn K cdparts "_law_parts" = true)
    (kparts : PySem.W.keepIn K (.ref fparts) = true)
    (aweights : PySem.W.nsIn K mainGlobals "_law_weights" = some (some (.ref fweights)))
    (lweights : K.lookup fweights = some ⟨ocweights, odweights, .func (PySem.W.fnOf "_law_weights" "_law_weights" (defArgs s_weights) (defBody s_weights) (defScope s_weights) .none kVweights dcweights pmweights anweights cdweights ctweights), slweights⟩)
    (cweights : PySem.W.codeIn K cdweights "_law_weights" = true)
    (kweights : PySem.W.keepIn K (.ref fweights) = true)
    (ablend : PySem.W.nsIn K mainGlobals "_law_blend" = some (some (.ref fblend)))
    (lblend : K.lookup fblend = some ⟨ocblend, odblend, .func (PySem.W.fnOf "_law_blend" "_law_blend" (defArgs s_blend) (defBody s_blend) (defScope s_blend) .none kVblend dcblend pmblend anblend cdblend ctblend), slblend⟩)
    (cblend : PySem.W.codeIn K cdblend "_law_blend" = true)
    (kblend : PySem.W.keepIn K (.ref fblend) = true)
    (asum : PySem.W.nsIn K mainGlobals "_law_sum" = some (some (.ref fsum)))
    (lsum : K.lookup fsum = some ⟨ocsum, odsum, .func (PySem.W.fnOf "_law_sum" "_law_sum" (defArgs s_sum) (defBody s_sum) (defScope s_sum) .none kVsum dcsum pmsum ansum cdsum ctsum), slsum⟩)
    (csum : PySem.W.codeIn K cdsum "_law_sum" = true)
    (ksum : PySem.W.keepIn K (.ref fsum) = true)
    (alisted : PySem.W.nsIn K mainGlobals "_law_listed" = some (some (.ref flisted)))
    (llisted : K.lookup flisted = some ⟨oclisted, odlisted, .func (PySem.W.fnOf "_law_listed" "_law_listed" (defArgs s_listed) (defBody s_listed) (defScope s_listed) .none kVlisted dclisted pmlisted anlisted cdlisted ctlisted), sllisted⟩)
    (clisted : PySem.W.codeIn K cdlisted "_law_listed" = true)
    (klisted : PySem.W.keepIn K (.ref flisted) = true)
    (alot : PySem.W.nsIn K mainGlobals "_law_lot" = some (some (.ref flot)))
    (llot : K.lookup flot = some ⟨oclot, odlot, .func (PySem.W.fnOf "_law_lot" "_law_lot" (defArgs s_lot) (defBody s_lot) (defScope s_lot) .none kVlot dclot pmlot anlot cdlot ctlot), sllot⟩)
    (clot : PySem.W.codeIn K cdlot "_law_lot" = true)
    (klot : PySem.W.keepIn K (.ref flot) = true)
    (aby_walk : PySem.W.nsIn K mainGlobals "_law_by_walk" = some (some (.ref fby_walk)))
    (lby_walk : K.lookup fby_walk = some ⟨ocby_walk, odby_walk, .func (PySem.W.fnOf "_law_by_walk" "_law_by_walk" (defArgs s_by_walk) (defBody s_by_walk) (defScope s_by_walk) .none kVby_walk dcby_walk pmby_walk anby_walk cdby_walk ctby_walk), slby_walk⟩)
    (cby_walk : PySem.W.codeIn K cdby_walk "_law_by_walk" = true)
    (kby_walk : PySem.W.keepIn K (.ref fby_walk) = true)
    (aby_runs : PySem.W.nsIn K mainGlobals "_law_by_runs" = some (some (.ref fby_runs)))
    (lby_runs : K.lookup fby_runs = some ⟨ocby_runs, odby_runs, .func (PySem.W.fnOf "_law_by_runs" "_law_by_runs" (defArgs s_by_runs) (defBody s_by_runs) (defScope s_by_runs) .none kVby_runs dcby_runs pmby_runs anby_runs cdby_runs ctby_runs), slby_runs⟩)
    (cby_runs : PySem.W.codeIn K cdby_runs "_law_by_runs" = true)
    (kby_runs : PySem.W.keepIn K (.ref fby_runs) = true)
    (arule_refused : PySem.W.nsIn K mainGlobals "_law_rule_refused" = some (some (.ref frule_refused)))
    (lrule_refused : K.lookup frule_refused = some ⟨ocrule_refused, odrule_refused, .func (PySem.W.fnOf "_law_rule_refused" "_law_rule_refused" (defArgs s_rule_refused) (defBody s_rule_refused) (defScope s_rule_refused) .none kVrule_refused dcrule_refused pmrule_refused anrule_refused cdrule_refused ctrule_refused), slrule_refused⟩)
    (crule_refused : PySem.W.codeIn K cdrule_refused "_law_rule_refused" = true)
    (krule_refused : PySem.W.keepIn K (.ref frule_refused) = true)
    (along_row : PySem.W.nsIn K mainGlobals "_law_long_row" = some (some (.ref flong_row)))
    (llong_row : K.lookup flong_row = some ⟨oclong_row, odlong_row, .func (PySem.W.fnOf "_law_long_row" "_law_long_row" (defArgs s_long_row) (defBody s_long_row) (defScope s_long_row) .none kVlong_row dclong_row pmlong_row anlong_row cdlong_row ctlong_row), sllong_row⟩)
    (clong_row : PySem.W.codeIn K cdlong_row "_law_long_row" = true)
    (klong_row : PySem.W.keepIn K (.ref flong_row) = true)
    (acheck_ties : PySem.W.nsIn K mainGlobals "check_ties" = some (some (.ref fcheck_ties)))
    (lcheck_ties : K.lookup fcheck_ties = some ⟨occheck_ties, odcheck_ties, .func (PySem.W.fnOf "check_ties" "check_ties" (defArgs s_check_ties) (defBody s_check_ties) (defScope s_check_ties) .none kVcheck_ties dccheck_ties pmcheck_ties ancheck_ties cdcheck_ties ctcheck_ties), slcheck_ties⟩)
    (ccheck_ties : PySem.W.codeIn K cdcheck_ties "check_ties" = true)
    (kcheck_ties : PySem.W.keepIn K (.ref fcheck_ties) = true)
    (acheck_floor_sum : PySem.W.nsIn K mainGlobals "_check_floor_sum" = some (some (.ref fcheck_floor_sum)))
    (lcheck_floor_sum : K.lookup fcheck_floor_sum = some ⟨occheck_floor_sum, odcheck_floor_sum, .func (PySem.W.fnOf "_check_floor_sum" "_check_floor_sum" (defArgs s_check_floor_sum) (defBody s_check_floor_sum) (defScope s_check_floor_sum) .none kVcheck_floor_sum dccheck_floor_sum pmcheck_floor_sum ancheck_floor_sum cdcheck_floor_sum ctcheck_floor_sum), slcheck_floor_sum⟩)
    (ccheck_floor_sum : PySem.W.codeIn K cdcheck_floor_sum "_check_floor_sum" = true)
    (kcheck_floor_sum : PySem.W.keepIn K (.ref fcheck_floor_sum) = true)
    (afloor_sum : PySem.W.nsIn K mainGlobals "floor_sum" = some (some (.ref ffloor_sum)))
    (lfloor_sum : K.lookup ffloor_sum = some ⟨ocfloor_sum, odfloor_sum, .func (PySem.W.fnOf "floor_sum" "floor_sum" (defArgs s_floor_sum) (defBody s_floor_sum) (defScope s_floor_sum) .none kVfloor_sum dcfloor_sum pmfloor_sum anfloor_sum cdfloor_sum ctfloor_sum), slfloor_sum⟩)
    (cfloor_sum : PySem.W.codeIn K cdfloor_sum "floor_sum" = true)
    (kfloor_sum : PySem.W.keepIn K (.ref ffloor_sum) = true)
    (apairs_above : PySem.W.nsIn K mainGlobals "pairs_above" = some (some (.ref fpairs_above)))
    (lpairs_above : K.lookup fpairs_above = some ⟨ocpairs_above, odpairs_above, .func (PySem.W.fnOf "pairs_above" "pairs_above" (defArgs s_pairs_above) (defBody s_pairs_above) (defScope s_pairs_above) .none kVpairs_above dcpairs_above pmpairs_above anpairs_above cdpairs_above ctpairs_above), slpairs_above⟩)
    (cpairs_above : PySem.W.codeIn K cdpairs_above "pairs_above" = true)
    (kpairs_above : PySem.W.keepIn K (.ref fpairs_above) = true)
    (apairs_alike : PySem.W.nsIn K mainGlobals "pairs_alike" = some (some (.ref fpairs_alike)))
    (lpairs_alike : K.lookup fpairs_alike = some ⟨ocpairs_alike, odpairs_alike, .func (PySem.W.fnOf "pairs_alike" "pairs_alike" (defArgs s_pairs_alike) (defBody s_pairs_alike) (defScope s_pairs_alike) .none kVpairs_alike dcpairs_alike pmpairs_alike anpairs_alike cdpairs_alike ctpairs_alike), slpairs_alike⟩)
    (cpairs_alike : PySem.W.codeIn K cdpairs_alike "pairs_alike" = true)
    (kpairs_alike : PySem.W.keepIn K (.ref fpairs_alike) = true)
    (ais_number : PySem.W.nsIn K mainGlobals "is_number" = some (some (.ref fis_number)))
    (lis_number : K.lookup fis_number = some ⟨ocis_number, odis_number, .func (PySem.W.fnOf "is_number" "is_number" (defArgs s_is_number) (defBody s_is_number) (defScope s_is_number) .none kVis_number dcis_number pmis_number anis_number cdis_number ctis_number), slis_number⟩)
    (cis_number : PySem.W.codeIn K cdis_number "is_number" = true)
    (kis_number : PySem.W.keepIn K (.ref fis_number) = true)
    (aas_ratio : PySem.W.nsIn K mainGlobals "as_ratio" = some (some (.ref fas_ratio)))
    (las_ratio : K.lookup fas_ratio = some ⟨ocas_ratio, odas_ratio, .func (PySem.W.fnOf "as_ratio" "as_ratio" (defArgs s_as_ratio) (defBody s_as_ratio) (defScope s_as_ratio) .none kVas_ratio dcas_ratio pmas_ratio anas_ratio cdas_ratio ctas_ratio), slas_ratio⟩)
    (cas_ratio : PySem.W.codeIn K cdas_ratio "as_ratio" = true)
    (kas_ratio : PySem.W.keepIn K (.ref fas_ratio) = true)
    (atop_of : PySem.W.nsIn K mainGlobals "_top_of" = some (some (.ref ftop_of)))
    (ltop_of : K.lookup ftop_of = some ⟨octop_of, odtop_of, .func (PySem.W.fnOf "_top_of" "_top_of" (defArgs s_top_of) (defBody s_top_of) (defScope s_top_of) .none kVtop_of dctop_of pmtop_of antop_of cdtop_of cttop_of), sltop_of⟩)
    (ctop_of : PySem.W.codeIn K cdtop_of "_top_of" = true)
    (ktop_of : PySem.W.keepIn K (.ref ftop_of) = true)
    (aunder_of : PySem.W.nsIn K mainGlobals "_under_of" = some (some (.ref funder_of)))
    (lunder_of : K.lookup funder_of = some ⟨ocunder_of, odunder_of, .func (PySem.W.fnOf "_under_of" "_under_of" (defArgs s_under_of) (defBody s_under_of) (defScope s_under_of) .none kVunder_of dcunder_of pmunder_of anunder_of cdunder_of ctunder_of), slunder_of⟩)
    (cunder_of : PySem.W.codeIn K cdunder_of "_under_of" = true)
    (kunder_of : PySem.W.keepIn K (.ref funder_of) = true)
    (aadded : PySem.W.nsIn K mainGlobals "added" = some (some (.ref fadded)))
    (ladded : K.lookup fadded = some ⟨ocadded, odadded, .func (PySem.W.fnOf "added" "added" (defArgs s_added) (defBody s_added) (defScope s_added) .none kVadded dcadded pmadded anadded cdadded ctadded), sladded⟩)
    (cadded : PySem.W.codeIn K cdadded "added" = true)
    (kadded : PySem.W.keepIn K (.ref fadded) = true)
    (acheck_parts : PySem.W.nsIn K mainGlobals "check_parts" = some (some (.ref fcheck_parts)))
    (lcheck_parts : K.lookup fcheck_parts = some ⟨occheck_parts, odcheck_parts, .func (PySem.W.fnOf "check_parts" "check_parts" (defArgs s_check_parts) (defBody s_check_parts) (defScope s_check_parts) .none kVcheck_parts dccheck_parts pmcheck_parts ancheck_parts cdcheck_parts ctcheck_parts), slcheck_parts⟩)
    (ccheck_parts : PySem.W.codeIn K cdcheck_parts "check_parts" = true)
    (kcheck_parts : PySem.W.keepIn K (.ref fcheck_parts) = true)
    (aput_together : PySem.W.nsIn K mainGlobals "put_together" = some (some (.ref fput_together)))
    (lput_together : K.lookup fput_together = some ⟨ocput_together, odput_together, .func (PySem.W.fnOf "put_together" "put_together" (defArgs s_put_together) (defBody s_put_together) (defScope s_put_together) .none kVput_together dcput_together pmput_together anput_together cdput_together ctput_together), slput_together⟩)
    (cput_together : PySem.W.codeIn K cdput_together "put_together" = true)
    (kput_together : PySem.W.keepIn K (.ref fput_together) = true)
    (arun_gain : PySem.W.nsIn K mainGlobals "run_gain" = some (some (.ref frun_gain)))
    (lrun_gain : K.lookup frun_gain = some ⟨ocrun_gain, odrun_gain, .func (PySem.W.fnOf "run_gain" "run_gain" (defArgs s_run_gain) (defBody s_run_gain) (defScope s_run_gain) .none (.ref kdrun_gain) dcrun_gain pmrun_gain anrun_gain cdrun_gain ctrun_gain), slrun_gain⟩)
    (crun_gain : PySem.W.codeIn K cdrun_gain "run_gain" = true)
    (krun_gain : PySem.W.keepIn K (.ref frun_gain) = true)
    (nrun_gain : PySem.W.nsIn K kdrun_gain "ties" = some (some (.int 0 tkkrun_gain)))
    (ameet : PySem.W.nsIn K mainGlobals "meet" = some (some (.ref fmeet)))
    (lmeet : K.lookup fmeet = some ⟨ocmeet, odmeet, .func (PySem.W.fnOf "meet" "meet" (defArgs s_meet) (defBody s_meet) (defScope s_meet) .none (.ref kdmeet) dcmeet pmmeet anmeet cdmeet ctmeet), slmeet⟩)
    (cmeet : PySem.W.codeIn K cdmeet "meet" = true)
    (kmeet : PySem.W.keepIn K (.ref fmeet) = true)
    (nmeet : PySem.W.nsIn K kdmeet "ties" = some (some (.int 0 tkkmeet)))
    (alaw : PySem.W.nsIn K mainGlobals "law" = some (some (.ref flaw)))
    (llaw : K.lookup flaw = some ⟨oclaw, odlaw, .func (PySem.W.fnOf "law" "law" (defArgs s_law) (defBody s_law) (defScope s_law) .none kVlaw dclaw pmlaw anlaw cdlaw ctlaw), sllaw⟩)
    (claw : PySem.W.codeIn K cdlaw "law" = true)
    (klaw : PySem.W.keepIn K (.ref flaw) = true) :
    ∃ fd : FuncData, (∀ (s : Shared) (v : Value), BindsTo s fd ⟨[v], []⟩ [("_law_script", v)]) ∧ ∀ base : Heap, K.In base → base.Ns mainGlobals mg → FnOk l.prog w K mg base CX0 9 fa fd ["_law_script"] (spLaw K) := by
  have e := hfa.symm.trans (PySem.W.mg_of X G alaw)
  cases e
  have B : Blt mg := ⟨PySem.W.mg_none_of X G zlen, PySem.W.mg_none_of X G zint, PySem.W.mg_none_of X G zabs, PySem.W.mg_none_of X G zrange, PySem.W.mg_none_of X G zisinstance, PySem.W.mg_none_of X G zmax, PySem.W.mg_none_of X G zmin, PySem.W.mg_none_of X G zsum, PySem.W.mg_none_of X G zstr, PySem.W.mg_none_of X G zbool, PySem.W.mg_none_of X G zlist, PySem.W.mg_none_of X G zValueError⟩
  have hZip := PySem.W.mg_none_of X G zzip
  have hAny := PySem.W.mg_none_of X G zany
  have hTup := PySem.W.mg_none_of X G ztuple
  have hIter := PySem.W.mg_none_of X G ziter
  have gRatio := PySem.W.mg_of X G aC
  have T : RatC K mg C := ⟨⟨pgC, hdC, poC, saC⟩, nTC, nUC, gRatio, haC, hnO, htO, hmC, kit_int hdC tyC siC⟩
  have FI : FunD K "__init__" "Ratio.__init__" (defArgs s_Ratio_init) (defBody s_Ratio_init) (defScope s_Ratio_init) [.int 1] [] fRatio_init _ := ⟨⟨_, _, _, _, _, _, _, _, _, _, rfl, lRatio_init, cRatio_init, .inr ⟨(by intro e; cases e), tD, _, [Value.int 1 tkD], nD, rfl, lD, rfl, .cons ⟨_, rfl⟩ .nil⟩, .inl rfl⟩, kRatio_init⟩
  have hgcd := PySem.W.mg_of X G aGcd
  have gLotError := PySem.W.mg_of X G aLE
  have gBadNumber := PySem.W.mg_of X G aBN
  have rBN : PySem.HandSPX.refsVE [.ref LE, .type "ValueError", .type "Exception", .type "BaseException", .type "object"] = true := (show PySem.HandSPX.refsVE [.type "ValueError", .type "Exception", .type "BaseException", .type "object"] = true by decide +kernel)
  have TB : BnC K mg BN := ⟨⟨⟨nmE, qE, NE, bsE, _, snE, subE, abE, colE, ddE, mE0, mE1, mE2, mE3, mE5, xBN, rBN⟩, saBN, beBN, teBN, keBN⟩, gBadNumber, fnBN, fvBN, ⟨geBN, ggBN, beBN, hdBN, hcBN, hnO, htO, hoBN⟩, seBN⟩
  have FB := fun_mk (st := s_BadNumber_init) lBadNumber_init cBadNumber_init kBadNumber_init
  have bB := FB.binds (ps := ["self", "name", "value"]) fun _ _ _ _ _ _ us hl => match us, hl with | [_, _, _], _ => rfl
  have gZeroUnder := PySem.W.mg_of X G aZU
  have TZU : ExC K mg "ZeroUnder" ZU := ⟨xZU, gZeroUnder, keZU, beZU, teZU, seZU, ⟨geZU, ggZU, beZU, hdZU, hcZU, hnO, htO, hoZU⟩⟩
  have gBadShares := PySem.W.mg_of X G aBS
  have TBS : ExC K mg "BadShares" BS := ⟨xBS, gBadShares, keBS, beBS, teBS, seBS, ⟨geBS, ggBS, beBS, hdBS, hcBS, hnO, htO, hoBS⟩⟩
  have FRatio_add := fun_mk (st := s_Ratio_add) lRatio_add cRatio_add kRatio_add
  have bRatio_add := FRatio_add.binds (ps := ["self", "other"]) fun _ _ _ _ _ _ us hl => match us, hl with | [_, _], _ => rfl
  have FRatio_radd := fun_mk (st := s_Ratio_radd) lRatio_radd cRatio_radd kRatio_radd
  have bRatio_radd := FRatio_radd.binds (ps := ["self", "other"]) fun _ _ _ _ _ _ us hl => match us, hl with | [_, _], _ => rfl
  have FRatio_mul := fun_mk (st := s_Ratio_mul) lRatio_mul cRatio_mul kRatio_mul
  have bRatio_mul := FRatio_mul.binds (ps := ["self", "other"]) fun _ _ _ _ _ _ us hl => match us, hl with | [_, _], _ => rfl
  have FRatio_rmul := fun_mk (st := s_Ratio_rmul) lRatio_rmul cRatio_rmul kRatio_rmul
  have bRatio_rmul := FRatio_rmul.binds (ps := ["self", "other"]) fun _ _ _ _ _ _ us hl => match us, hl with | [_, _], _ => rfl
  have FRatio_lt := fun_mk (st := s_Ratio_lt) lRatio_lt cRatio_lt kRatio_lt
  have bRatio_lt := FRatio_lt.binds (ps := ["self", "other"]) fun _ _ _ _ _ _ us hl => match us, hl with | [_, _], _ => rfl
  have FRatio_eq := fun_mk (st := s_Ratio_eq) lRatio_eq cRatio_eq kRatio_eq
  have bRatio_eq := FRatio_eq.binds (ps := ["self", "other"]) fun _ _ _ _ _ _ us hl => match us, hl with | [_, _], _ => rfl
  have gRun := PySem.W.mg_of X G aD
  have TD : RunC K mg D := ⟨⟨pgD, hdD, poD, saD⟩, n1D, n2D, n3D, gRun, haD, hnO, htO, hmD⟩
  have gMS := PySem.W.mg_of X G aMS
  have FRun_init := fun_mk (st := s_Run_init) lRun_init cRun_init kRun_init
  have bRun_init := FRun_init.binds (ps := ["self", "first", "step", "count"]) fun _ _ _ _ _ _ us hl => match us, hl with | [_, _, _, _], _ => rfl
  have FRun_below := fun_mk (st := s_Run_below) lRun_below cRun_below kRun_below
  have bRun_below := FRun_below.binds (ps := ["self", "k"]) fun _ _ _ _ _ _ us hl => match us, hl with | [_, _], _ => rfl
  have mRun_below : Meth K D "below" fRun_below := ⟨aRun_below, iRun_below, kRun_below⟩
  have FRun_above := fun_mk (st := s_Run_above) lRun_above cRun_above kRun_above
  have bRun_above := FRun_above.binds (ps := ["self", "k"]) fun _ _ _ _ _ _ us hl => match us, hl with | [_, _], _ => rfl
  have mRun_above : Meth K D "above" fRun_above := ⟨aRun_above, iRun_above, kRun_above⟩
  have FRun_getitem := fun_mk (st := s_Run_getitem) lRun_getitem cRun_getitem kRun_getitem
  have bRun_getitem := FRun_getitem.binds (ps := ["self", "at"]) fun _ _ _ _ _ _ us hl => match us, hl with | [_, _], _ => rfl
  have mRun_getitem : Meth K D "__getitem__" fRun_getitem := ⟨aRun_getitem, iRun_getitem, kRun_getitem⟩
  have FRun_last := fun_mk (st := s_Run_last) lRun_last cRun_last kRun_last
  have bRun_last := FRun_last.binds (ps := ["self"]) fun _ _ _ _ _ _ us hl => match us, hl with | [_], _ => rfl
  have PRun_last : PropOf K D "last" pRun_last gRun_last := ⟨q1Run_last, q2Run_last, q3Run_last, _, q4Run_last⟩
  have CRD : ClX.CRead K D (.type "type") := ⟨rdD, gatD⟩
  have FRun_point := fun_mk (st := s_Run_point) lRun_point cRun_point kRun_point
  have bRun_point := FRun_point.binds (ps := ["cls", "k"]) fun _ _ _ _ _ _ us hl => match us, hl with | [_, _], _ => rfl
  have CMRun_point : ClX.CMet K D (.type "type") "point" pRun_point gRun_point := ⟨q1Run_point, ⟨_, q2Run_point⟩, q3Run_point⟩
  have gMP := PySem.W.mg_of X G aMP
  have gBlend := PySem.W.mg_of X G aBL
  have TF : BleC K mg BL := ⟨⟨pgBL, hdBL, poBL, saBL⟩, n1BL, gBlend, haBL, hnO, htO, hmBL⟩
  have FBlend_init := fun_mk (st := s_Blend_init) lBlend_init cBlend_init kBlend_init
  have bBlend_init := FBlend_init.binds (ps := ["self", "parts"]) fun _ _ _ _ _ _ us hl => match us, hl with | [_, _], _ => rfl
  have FBlend_iter := fun_mk (st := s_Blend_iter) lBlend_iter cBlend_iter kBlend_iter
  have bBlend_iter := FBlend_iter.binds (ps := ["self"]) fun _ _ _ _ _ _ us hl => match us, hl with | [_], _ => rfl
  have CRBL : ClX.CRead K BL (.type "type") := ⟨rdBL, gatBL⟩
  have FBlend_point := fun_mk (st := s_Blend_point) lBlend_point cBlend_point kBlend_point
  have bBlend_point := FBlend_point.binds (ps := ["cls", "k"]) fun _ _ _ _ _ _ us hl => match us, hl with | [_, _], _ => rfl
  have CMBlend_point : ClX.CMet K BL (.type "type") "point" pBlend_point gBlend_point := ⟨q1Blend_point, ⟨_, q2Blend_point⟩, q3Blend_point⟩
  have Fpool := fun_mk (st := s_pool) lpool cpool kpool
  have Dpool : Dfn K mg "_law_pool" "_law_pool" s_pool ["_law_script"] := ⟨fpool, _, Fpool, PySem.W.mg_of X G apool, Fpool.binds (ps := ["_law_script"]) fun _ _ _ _ _ _ us hl => match us, hl with | [_], _ => rfl⟩
  have Fmix := fun_mk (st := s_mix) lmix cmix kmix
  have Dmix : Dfn K mg "_law_mix" "_law_mix" s_mix ["_law_state", "_law_turn", "_law_many"] := ⟨fmix, _, Fmix, PySem.W.mg_of X G amix, Fmix.binds (ps := ["_law_state", "_law_turn", "_law_many"]) fun _ _ _ _ _ _ us hl => match us, hl with | [_, _, _], _ => rfl⟩
  have Fdraw := fun_mk (st := s_draw) ldraw cdraw kdraw
  have Ddraw : Dfn K mg "_law_draw" "_law_draw" s_draw ["_law_pool_here", "_law_many"] := ⟨fdraw, _, Fdraw, PySem.W.mg_of X G adraw, Fdraw.binds (ps := ["_law_pool_here", "_law_many"]) fun _ _ _ _ _ _ us hl => match us, hl with | [_, _], _ => rfl⟩
  have Fwide := fun_mk (st := s_wide) lwide cwide kwide
  have Dwide : Dfn K mg "_law_wide" "_law_wide" s_wide ["_law_pool_here"] := ⟨fwide, _, Fwide, PySem.W.mg_of X G awide, Fwide.binds (ps := ["_law_pool_here"]) fun _ _ _ _ _ _ us hl => match us, hl with | [_], _ => rfl⟩
  have Fany := fun_mk (st := s_any) lany cany kany
  have Dany : Dfn K mg "_law_any" "_law_any" s_any ["_law_pool_here"] := ⟨fany, _, Fany, PySem.W.mg_of X G aany, Fany.binds (ps := ["_law_pool_here"]) fun _ _ _ _ _ _ us hl => match us, hl with | [_], _ => rfl⟩
  have Fwhole := fun_mk (st := s_whole) lwhole cwhole kwhole
  have Dwhole : Dfn K mg "_law_whole" "_law_whole" s_whole ["_law_actual"] := ⟨fwhole, _, Fwhole, PySem.W.mg_of X G awhole, Fwhole.binds (ps := ["_law_actual"]) fun _ _ _ _ _ _ us hl => match us, hl with | [_], _ => rfl⟩
  have Fratio := fun_mk (st := s_ratio) lratio cratio kratio
  have Dratio : Dfn K mg "_law_ratio" "_law_ratio" s_ratio ["_law_actual"] := ⟨fratio, _, Fratio, PySem.W.mg_of X G aratio, Fratio.binds (ps := ["_law_actual"]) fun _ _ _ _ _ _ us hl => match us, hl with | [_], _ => rfl⟩
  have Fsame := fun_mk (st := s_same) lsame csame ksame
  have Dsame : Dfn K mg "_law_same" "_law_same" s_same ["_law_actual", "_law_due"] := ⟨fsame, _, Fsame, PySem.W.mg_of X G asame, Fsame.binds (ps := ["_law_actual", "_law_due"]) fun _ _ _ _ _ _ us hl => match us, hl with | [_, _], _ => rfl⟩
  have Fgreat_run := fun_mk (st := s_great_run) lgreat_run cgreat_run kgreat_run
  have Dgreat_run : Dfn K mg "_law_great_run" "_law_great_run" s_great_run ["_law_pool_here"] := ⟨fgreat_run, _, Fgreat_run, PySem.W.mg_of X G agreat_run, Fgreat_run.binds (ps := ["_law_pool_here"]) fun _ _ _ _ _ _ us hl => match us, hl with | [_], _ => rfl⟩
  have Flast := fun_mk (st := s_last) llast clast klast
  have Dlast : Dfn K mg "_law_last" "_law_last" s_last ["_law_row"] := ⟨flast, _, Flast, PySem.W.mg_of X G alast, Flast.binds (ps := ["_law_row"]) fun _ _ _ _ _ _ us hl => match us, hl with | [_], _ => rfl⟩
  have Fbeside := fun_mk (st := s_beside) lbeside cbeside kbeside
  have Dbeside : Dfn K mg "_law_beside" "_law_beside" s_beside ["_law_pool_here", "_law_row"] := ⟨fbeside, _, Fbeside, PySem.W.mg_of X G abeside, Fbeside.binds (ps := ["_law_pool_here", "_law_row"]) fun _ _ _ _ _ _ us hl => match us, hl with | [_, _], _ => rfl⟩
  have Fupto := fun_mk (st := s_upto) lupto cupto kupto
  have Dupto : Dfn K mg "_law_upto" "_law_upto" s_upto ["_law_row", "_law_y"] := ⟨fupto, _, Fupto, PySem.W.mg_of X G aupto, Fupto.binds (ps := ["_law_row", "_law_y"]) fun _ _ _ _ _ _ us hl => match us, hl with | [_, _], _ => rfl⟩
  have Fwon := fun_mk (st := s_won) lwon cwon kwon
  have Dwon : Dfn K mg "_law_won" "_law_won" s_won ["_law_row", "_law_y", "_law_rule"] := ⟨fwon, _, Fwon, PySem.W.mg_of X G awon, Fwon.binds (ps := ["_law_row", "_law_y", "_law_rule"]) fun _ _ _ _ _ _ us hl => match us, hl with | [_, _, _], _ => rfl⟩
  have Fheld := fun_mk (st := s_held) lheld cheld kheld
  have Dheld : Dfn K mg "_law_held" "_law_held" s_held ["_law_run", "_law_row"] := ⟨fheld, _, Fheld, PySem.W.mg_of X G aheld, Fheld.binds (ps := ["_law_run", "_law_row"]) fun _ _ _ _ _ _ us hl => match us, hl with | [_, _], _ => rfl⟩
  have Fparts := fun_mk (st := s_parts) lparts cparts kparts
  have Dparts : Dfn K mg "_law_parts" "_law_parts" s_parts ["_law_pool_here", "_law_most"] := ⟨fparts, _, Fparts, PySem.W.mg_of X G aparts, Fparts.binds (ps := ["_law_pool_here", "_law_most"]) fun _ _ _ _ _ _ us hl => match us, hl with | [_, _], _ => rfl⟩
  have Fweights := fun_mk (st := s_weights) lweights cweights kweights
  have Dweights : Dfn K mg "_law_weights" "_law_weights" s_weights ["_law_parts_here"] := ⟨fweights, _, Fweights, PySem.W.mg_of X G aweights, Fweights.binds (ps := ["_law_parts_here"]) fun _ _ _ _ _ _ us hl => match us, hl with | [_], _ => rfl⟩
  have Fblend := fun_mk (st := s_blend) lblend cblend kblend
  have Dblend : Dfn K mg "_law_blend" "_law_blend" s_blend ["_law_parts_here"] := ⟨fblend, _, Fblend, PySem.W.mg_of X G ablend, Fblend.binds (ps := ["_law_parts_here"]) fun _ _ _ _ _ _ us hl => match us, hl with | [_], _ => rfl⟩
  have Fsum := fun_mk (st := s_sum) lsum csum ksum
  have Dsum : Dfn K mg "_law_sum" "_law_sum" s_sum ["_law_parts_here", "_law_tops"] := ⟨fsum, _, Fsum, PySem.W.mg_of X G asum, Fsum.binds (ps := ["_law_parts_here", "_law_tops"]) fun _ _ _ _ _ _ us hl => match us, hl with | [_, _], _ => rfl⟩
  have Flisted := fun_mk (st := s_listed) llisted clisted klisted
  have Dlisted : Dfn K mg "_law_listed" "_law_listed" s_listed ["_law_pairs", "_law_due", "_law_total"] := ⟨flisted, _, Flisted, PySem.W.mg_of X G alisted, Flisted.binds (ps := ["_law_pairs", "_law_due", "_law_total"]) fun _ _ _ _ _ _ us hl => match us, hl with | [_, _, _], _ => rfl⟩
  have Flot := fun_mk (st := s_lot) llot clot klot
  have Dlot : Dfn K mg "_law_lot" "_law_lot" s_lot ["_law_pool_here", "_law_parts_here"] := ⟨flot, _, Flot, PySem.W.mg_of X G alot, Flot.binds (ps := ["_law_pool_here", "_law_parts_here"]) fun _ _ _ _ _ _ us hl => match us, hl with | [_, _], _ => rfl⟩
  have Fby_walk := fun_mk (st := s_by_walk) lby_walk cby_walk kby_walk
  have Dby_walk : Dfn K mg "_law_by_walk" "_law_by_walk" s_by_walk ["_law_parts_here", "_law_others"] := ⟨fby_walk, _, Fby_walk, PySem.W.mg_of X G aby_walk, Fby_walk.binds (ps := ["_law_parts_here", "_law_others"]) fun _ _ _ _ _ _ us hl => match us, hl with | [_, _], _ => rfl⟩
  have Fby_runs := fun_mk (st := s_by_runs) lby_runs cby_runs kby_runs
  have Dby_runs : Dfn K mg "_law_by_runs" "_law_by_runs" s_by_runs ["_law_parts_here", "_law_others"] := ⟨fby_runs, _, Fby_runs, PySem.W.mg_of X G aby_runs, Fby_runs.binds (ps := ["_law_parts_here", "_law_others"]) fun _ _ _ _ _ _ us hl => match us, hl with | [_, _], _ => rfl⟩
  have Frule_refused := fun_mk (st := s_rule_refused) lrule_refused crule_refused krule_refused
  have Drule_refused : Dfn K mg "_law_rule_refused" "_law_rule_refused" s_rule_refused ["_law_one", "_law_other", "_law_rule"] := ⟨frule_refused, _, Frule_refused, PySem.W.mg_of X G arule_refused, Frule_refused.binds (ps := ["_law_one", "_law_other", "_law_rule"]) fun _ _ _ _ _ _ us hl => match us, hl with | [_, _, _], _ => rfl⟩
  have Flong_row := fun_mk (st := s_long_row) llong_row clong_row klong_row
  have Dlong_row : Dfn K mg "_law_long_row" "_law_long_row" s_long_row ["_law_pool_here"] := ⟨flong_row, _, Flong_row, PySem.W.mg_of X G along_row, Flong_row.binds (ps := ["_law_pool_here"]) fun _ _ _ _ _ _ us hl => match us, hl with | [_], _ => rfl⟩
  have Fcheck_ties := fun_mk (st := s_check_ties) lcheck_ties ccheck_ties kcheck_ties
  have Dcheck_ties : Dfn K mg "check_ties" "check_ties" s_check_ties ["ties"] := ⟨fcheck_ties, _, Fcheck_ties, PySem.W.mg_of X G acheck_ties, Fcheck_ties.binds (ps := ["ties"]) fun _ _ _ _ _ _ us hl => match us, hl with | [_], _ => rfl⟩
  have Fcheck_floor_sum := fun_mk (st := s_check_floor_sum) lcheck_floor_sum ccheck_floor_sum kcheck_floor_sum
  have Dcheck_floor_sum : Dfn K mg "_check_floor_sum" "_check_floor_sum" s_check_floor_sum ["many", "under", "step", "start"] := ⟨fcheck_floor_sum, _, Fcheck_floor_sum, PySem.W.mg_of X G acheck_floor_sum, Fcheck_floor_sum.binds (ps := ["many", "under", "step", "start"]) fun _ _ _ _ _ _ us hl => match us, hl with | [_, _, _, _], _ => rfl⟩
  have Ffloor_sum := fun_mk (st := s_floor_sum) lfloor_sum cfloor_sum kfloor_sum
  have Dfloor_sum : Dfn K mg "floor_sum" "floor_sum" s_floor_sum ["many", "under", "step", "start"] := ⟨ffloor_sum, _, Ffloor_sum, PySem.W.mg_of X G afloor_sum, Ffloor_sum.binds (ps := ["many", "under", "step", "start"]) fun _ _ _ _ _ _ us hl => match us, hl with | [_, _, _, _], _ => rfl⟩
  have Fpairs_above := fun_mk (st := s_pairs_above) lpairs_above cpairs_above kpairs_above
  have Dpairs_above : Dfn K mg "pairs_above" "pairs_above" s_pairs_above ["one", "other"] := ⟨fpairs_above, _, Fpairs_above, PySem.W.mg_of X G apairs_above, Fpairs_above.binds (ps := ["one", "other"]) fun _ _ _ _ _ _ us hl => match us, hl with | [_, _], _ => rfl⟩
  have Fpairs_alike := fun_mk (st := s_pairs_alike) lpairs_alike cpairs_alike kpairs_alike
  have Dpairs_alike : Dfn K mg "pairs_alike" "pairs_alike" s_pairs_alike ["one", "other"] := ⟨fpairs_alike, _, Fpairs_alike, PySem.W.mg_of X G apairs_alike, Fpairs_alike.binds (ps := ["one", "other"]) fun _ _ _ _ _ _ us hl => match us, hl with | [_, _], _ => rfl⟩
  have Fis_number := fun_mk (st := s_is_number) lis_number cis_number kis_number
  have Dis_number : Dfn K mg "is_number" "is_number" s_is_number ["value"] := ⟨fis_number, _, Fis_number, PySem.W.mg_of X G ais_number, Fis_number.binds (ps := ["value"]) fun _ _ _ _ _ _ us hl => match us, hl with | [_], _ => rfl⟩
  have Fas_ratio := fun_mk (st := s_as_ratio) las_ratio cas_ratio kas_ratio
  have Das_ratio : Dfn K mg "as_ratio" "as_ratio" s_as_ratio ["number"] := ⟨fas_ratio, _, Fas_ratio, PySem.W.mg_of X G aas_ratio, Fas_ratio.binds (ps := ["number"]) fun _ _ _ _ _ _ us hl => match us, hl with | [_], _ => rfl⟩
  have Ftop_of := fun_mk (st := s_top_of) ltop_of ctop_of ktop_of
  have Dtop_of : Dfn K mg "_top_of" "_top_of" s_top_of ["number"] := ⟨ftop_of, _, Ftop_of, PySem.W.mg_of X G atop_of, Ftop_of.binds (ps := ["number"]) fun _ _ _ _ _ _ us hl => match us, hl with | [_], _ => rfl⟩
  have Funder_of := fun_mk (st := s_under_of) lunder_of cunder_of kunder_of
  have Dunder_of : Dfn K mg "_under_of" "_under_of" s_under_of ["number"] := ⟨funder_of, _, Funder_of, PySem.W.mg_of X G aunder_of, Funder_of.binds (ps := ["number"]) fun _ _ _ _ _ _ us hl => match us, hl with | [_], _ => rfl⟩
  have Fadded := fun_mk (st := s_added) ladded cadded kadded
  have Dadded : Dfn K mg "added" "added" s_added ["numbers"] := ⟨fadded, _, Fadded, PySem.W.mg_of X G aadded, Fadded.binds (ps := ["numbers"]) fun _ _ _ _ _ _ us hl => match us, hl with | [_], _ => rfl⟩
  have Fcheck_parts := fun_mk (st := s_check_parts) lcheck_parts ccheck_parts kcheck_parts
  have Dcheck_parts : Dfn K mg "check_parts" "check_parts" s_check_parts ["parts"] := ⟨fcheck_parts, _, Fcheck_parts, PySem.W.mg_of X G acheck_parts, Fcheck_parts.binds (ps := ["parts"]) fun _ _ _ _ _ _ us hl => match us, hl with | [_], _ => rfl⟩
  have Fput_together := fun_mk (st := s_put_together) lput_together cput_together kput_together
  have Dput_together : Dfn K mg "put_together" "put_together" s_put_together ["parts", "marks"] := ⟨fput_together, _, Fput_together, PySem.W.mg_of X G aput_together, Fput_together.binds (ps := ["parts", "marks"]) fun _ _ _ _ _ _ us hl => match us, hl with | [_, _], _ => rfl⟩
  have Frun_gain : FunD K "run_gain" "run_gain" (defArgs s_run_gain) (defBody s_run_gain) (defScope s_run_gain) [] [("ties", .int 0)] frun_gain _ := ⟨⟨_, _, _, _, _, _, _, _, _, _, rfl, lrun_gain, crun_gain, .inl ⟨rfl, rfl⟩, .inr ⟨kdrun_gain, rfl, fun q hq => by cases (List.mem_singleton.mp hq); exact ⟨_, nrun_gain, ⟨_, rfl⟩⟩⟩⟩, krun_gain⟩
  have ⟨dsrun_gain, rdsrun_gain, bdrun_gain⟩ := Frun_gain.binds0 (ps := ["one", "other", "ties"]) 2 (by intro e; cases e) rfl (fun D doc pm an cdv ct us ks h1 h2 => match us, ks, h1, h2 with | [_, _], [_], _, _ => ⟨_, _, _, _, _, _, rfl, rfl, rfl⟩)
  have Fmeet : FunD K "meet" "meet" (defArgs s_meet) (defBody s_meet) (defScope s_meet) [] [("ties", .int 0)] fmeet _ := ⟨⟨_, _, _, _, _, _, _, _, _, _, rfl, lmeet, cmeet, .inl ⟨rfl, rfl⟩, .inr ⟨kdmeet, rfl, fun q hq => by cases (List.mem_singleton.mp hq); exact ⟨_, nmeet, ⟨_, rfl⟩⟩⟩⟩, kmeet⟩
  have ⟨dsmeet, rdsmeet, bdmeet⟩ := Fmeet.binds0 (ps := ["one", "other", "ties"]) 2 (by intro e; cases e) rfl (fun D doc pm an cdv ct us ks h1 h2 => match us, ks, h1, h2 with | [_, _], [_], _, _ => ⟨_, _, _, _, _, _, rfl, rfl, rfl⟩)
  have Flaw := fun_mk (st := s_law) llaw claw klaw
  refine ⟨PySem.W.fnOf "law" "law" (defArgs s_law) (defBody s_law) (defScope s_law) .none kVlaw dclaw pmlaw anlaw cdlaw ctlaw, fun s v => .of_eq rfl, fun base _ _ => ?_⟩
  have CE : CalE l.prog w K mg base 1 BN := ⟨_, _, aBadNumber_init, tBadNumber_init, ok_bn TB FB, bB⟩
  have ⟨M2, M1⟩ := mk_ratio (P := l.prog) (w := w) (base := base) B hgcd T TZU ⟨mkC, aRatio_init, iRatio_init, kcC⟩ FI
  have MR : CalRun l.prog w K mg base D BN := ⟨_, _, [], ⟨mkD, aRun_init, iRun_init, kcD⟩, ok_run_init B TD TB CE gMS FRun_init, gRun, bRun_init, .nil⟩
  have CL : CalP l.prog w K mg base 1 D "last" (spLast D) := ⟨_, _, _, PRun_last, ok_last TD FRun_last, bRun_last⟩
  have MBl : CalM l.prog w K mg base 3 D "below" ["self", "k"] (spBelow D) := ⟨_, _, mRun_below, ok_below TD CL FRun_below, bRun_below⟩
  have MA : CalM l.prog w K mg base 4 D "above" ["self", "k"] (spAbove D) := ⟨_, _, mRun_above, ok_above TD MBl FRun_above, bRun_above⟩
  have MG : CalMX l.prog w K mg base 1 D "__getitem__" ["self", "at"] (spGet D) := ⟨_, _, mRun_getitem, fnG, ok_getitem TD FRun_getitem, bRun_getitem⟩
  have CPt : Bx.CalCM l.prog w K mg base 5 D "point" ["cls", "k"] (spPoint D BN) := ⟨_, _, _, _, CRD, CMRun_point, ok_point MR FRun_point, bRun_point⟩
  have cmix := ok_mix (P := l.prog) (w := w) (base := base) B Dmix
  have cdraw := ok_draw B Ddraw cmix
  have cwide := ok_wide B Dwide cdraw
  have cany := ok_any B Dany cdraw cwide
  have cpool := ok_pool (P := l.prog) (w := w) (base := base) B Dpool
  have cwhole := ok_whole (P := l.prog) (w := w) (base := base) B Dwhole
  have cties := ok_ties TB CE Dcheck_ties
  have ccheckf := ok_check B TB CE Dcheck_floor_sum
  have cfloor := ok_floor B Dfloor_sum ccheckf
  have cpa := ok_pairs_above TD CL MA MG cfloor Dpairs_above
  have cpk := ok_pairs_alike TD cpa Dpairs_alike
  have crg : CalKW l.prog w K mg base 6 "run_gain" ["one", "other", "ties"] (spRG C D BN) := ⟨_, _, _, ok_run_gain TD cties cpa M2 Frun_gain, PySem.W.mg_of X G arun_gain, krun_gain, rdsrun_gain, bdrun_gain, ⟨fun s us ws _ h1 h2 => match us, ws, h1, h2 with | [_, _], [_], _, _ => .of_eq rfl, fun h1 h2 => h1.append h2⟩⟩
  have cisn := ok_is_number (P := l.prog) (w := w) (base := base) B T (kit_type kmI scI) Dis_number
  have ctop := ok_top_of (P := l.prog) (w := w) (base := base) B T Dtop_of
  have cund := ok_under_of (P := l.prog) (w := w) (base := base) B T Dunder_of
  have casr := ok_as_ratio B T Das_ratio M1
  have OAdd : Bx.OpOwn l.prog w K mg base 3 C (PySem.dunder (Operator.info .Add).2) ["self", "other"] _ := ⟨_, _, (by rw [show PySem.dunder (Operator.info .Add).2 = ("__add__" : Str) from by decide +kernel]; exact aRatio_add), iRatio_add, ok_add T cisn ctop cund M2 FRatio_add, bRatio_add⟩
  have RAdd : Bx.OpOwn l.prog w K mg base 4 C (dunderR (Operator.info .Add).2) ["self", "other"] _ := ⟨_, _, (by rw [show dunderR (Operator.info .Add).2 = ("__radd__" : Str) from by decide +kernel]; exact aRatio_radd), iRatio_radd, ok_radd T hSF cisn casr OAdd FRatio_radd, bRatio_radd⟩
  have iAdd : PySem.W.findIn K (.type "int") (PySem.dunder (Operator.info .Add).2) = some (some (.builtin "int.__add__")) := (by rw [show PySem.dunder (Operator.info .Add).2 = ("__add__" : Str) from by decide +kernel]; exact ziAdd)
  have jAdd : PySem.W.findIn K (.type "int") (dunderR (Operator.info .Add).2) = some (some (.builtin "int.__radd__")) := (by rw [show dunderR (Operator.info .Add).2 = ("__radd__" : Str) from by decide +kernel]; exact zjAdd)
  have OMult : Bx.OpOwn l.prog w K mg base 3 C (PySem.dunder (Operator.info .Mult).2) ["self", "other"] _ := ⟨_, _, (by rw [show PySem.dunder (Operator.info .Mult).2 = ("__mul__" : Str) from by decide +kernel]; exact aRatio_mul), iRatio_mul, ok_mul T cisn ctop cund M2 FRatio_mul, bRatio_mul⟩
  have RMult : Bx.OpOwn l.prog w K mg base 4 C (dunderR (Operator.info .Mult).2) ["self", "other"] _ := ⟨_, _, (by rw [show dunderR (Operator.info .Mult).2 = ("__rmul__" : Str) from by decide +kernel]; exact aRatio_rmul), iRatio_rmul, ok_rmul T hSF cisn casr OMult FRatio_rmul, bRatio_rmul⟩
  have iMult : PySem.W.findIn K (.type "int") (PySem.dunder (Operator.info .Mult).2) = some (some (.builtin "int.__mul__")) := (by rw [show PySem.dunder (Operator.info .Mult).2 = ("__mul__" : Str) from by decide +kernel]; exact ziMult)
  have jMult : PySem.W.findIn K (.type "int") (dunderR (Operator.info .Mult).2) = some (some (.builtin "int.__rmul__")) := (by rw [show dunderR (Operator.info .Mult).2 = ("__rmul__" : Str) from by decide +kernel]; exact zjMult)
  have hRAdd : PySem.W.findIn K (.ref C) (dunderR (Operator.info .Add).2) = some (some (.ref fRatio_radd)) := (by rw [show dunderR (Operator.info .Add).2 = ("__radd__" : Str) from by decide +kernel]; exact aRatio_radd)
  have hRMult : PySem.W.findIn K (.ref C) (dunderR (Operator.info .Mult).2) = some (some (.ref fRatio_rmul)) := (by rw [show dunderR (Operator.info .Mult).2 = ("__rmul__" : Str) from by decide +kernel]; exact aRatio_rmul)
  have Mlt : Bx.OpOwn l.prog w K mg base 2 C "__lt__" ["self", "other"] (spCmp C fun i j => decide (i < j)) := ⟨_, _, aRatio_lt, iRatio_lt, ok_lt T cisn ctop cund FRatio_lt, bRatio_lt⟩
  have Meq : Bx.OpOwn l.prog w K mg base 1 C "__eq__" ["self", "other"] (spEqR K C) := ⟨_, _, aRatio_eq, iRatio_eq, ok_eq B T FRatio_eq, bRatio_eq⟩
  have NE : Bx.NeC K C := ⟨hmC, neC, siC, scI⟩
  have cadded := ok_added B M1 hSF OAdd hRAdd iAdd jAdd siC Dadded
  have ccheck := ok_check_parts B hAny gMP TBS cadded Mlt Meq NE Dcheck_parts
  have cput : CalPutT l.prog w K mg base C D := ok_put_together B hZip hSF OAdd hRAdd iAdd jAdd Meq NE casr Dput_together
  have MB : CalBlend l.prog w K mg base C D BL BS := ⟨_, _, [], ⟨mkBL, aBlend_init, iBlend_init, kcBL⟩, ok_bl_init TF TD ccheck cput FBlend_init, gBlend, bBlend_init, .nil⟩
  have BIT : OwnIt l.prog w K mg base 1 BL "parts" := ⟨_, _, aBlend_iter, iBlend_iter, ok_bl_iter B hIter TF FBlend_iter, bBlend_iter⟩
  have cmeet : CalKW l.prog w K mg base 7 "meet" ["one", "other", "ties"] (spMeet C D BL BN) := ⟨_, _, _, ok_meet TF TD hSF NE OMult hRMult iMult jMult cties cadded crg BIT Fmeet, PySem.W.mg_of X G ameet, kmeet, rdsmeet, bdmeet, ⟨fun s us ws _ h1 h2 => match us, ws, h1, h2 with | [_, _], [_], _, _ => .of_eq rfl, fun h1 h2 => h1.append h2⟩⟩
  have CBPt : Bx.CalCM l.prog w K mg base 8 BL "point" ["cls", "k"] (spBPoint C D BL) := ⟨_, _, _, _, CRBL, CMBlend_point, ok_bpoint TD MB CPt FBlend_point, bBlend_point⟩
  have cratio := ok_ratio B T Dratio cwhole
  have csamew := ok_sameW B T Dsame cratio
  have csame := same_of csamew
  have clast := ok_last_row (P := l.prog) (w := w) (base := base) Dlast
  have cgr := ok_great_run B Dgreat_run cdraw cany
  have cbeside := ok_beside B Dbeside cdraw cany clast
  have cheld := ok_held B TD Dheld cwhole
  have cupto := ok_upto (P := l.prog) (w := w) (base := base) B Dupto
  have cwon := ok_won Dwon cupto
  have cweights := ok_weights (P := l.prog) (w := w) (base := base) B Dweights
  have cblend := ok_blendL B cweights M2 MR MB Dblend
  have csum := ok_sum B cweights Dsum
  have clisted := ok_listed B hTup csame cheld Dlisted
  have cparts := ok_parts B cdraw cany cgr Dparts
  have clong := ok_long B cdraw Dlong_row
  have cdraw1 := ok_draw1 B Ddraw cmix
  have clot := ok_lot B cdraw cdraw1 cany cbeside Dlot
  have cwalk := ok_walk B csum cwon cupto Dby_walk
  have cruns := ok_runs B cweights cwhole MR cpa cpk Dby_runs
  have cref := ok_refM B TB gLotError (kit_own hdLE teLE sBNLE seBN) (kit_type kmV veBN) Drule_refused cmeet
  exact ok_law B TF Flaw cpool cdraw cwide cparts clong clot cruns cwalk cblend cref csamew cmeet cbeside csum cwon clisted cweights CBPt
end L

set_option Elab.async false
set_option linter.all false
set_option maxRecDepth 100000
set_option maxHeartbeats 0
set_option pp.maxSteps 200
set_option pp.deepTerms false
namespace Kh
open PySem PySem.Spec PyProof.Rows L2 L
def fd0 : Fd := ⟨fun K => (He.ma K (He.ga K "Ratio") "__init__"), "__init__", "Ratio.__init__", defArgs s_Ratio_init, defBody s_Ratio_init, defScope s_Ratio_init, [.int 1], []⟩
def fd1 : Fd := ⟨fun K => (He.ma K (He.ga K "BadNumber") "__init__"), "__init__", "BadNumber.__init__", defArgs s_BadNumber_init, defBody s_BadNumber_init, defScope s_BadNumber_init, [], []⟩
def fd2 : Fd := ⟨fun K => (He.ma K (He.ga K "Ratio") "__add__"), "__add__", "Ratio.__add__", defArgs s_Ratio_add, defBody s_Ratio_add, defScope s_Ratio_add, [], []⟩
def fd3 : Fd := ⟨fun K => (He.ma K (He.ga K "Ratio") "__radd__"), "__radd__", "Ratio.__radd__", defArgs s_Ratio_radd, defBody s_Ratio_radd, defScope s_Ratio_radd, [], []⟩
def fd4 : Fd := ⟨fun K => (He.ma K (He.ga K "Ratio") "__mul__"), "__mul__", "Ratio.__mul__", defArgs s_Ratio_mul, defBody s_Ratio_mul, defScope s_Ratio_mul, [], []⟩
def fd5 : Fd := ⟨fun K => (He.ma K (He.ga K "Ratio") "__rmul__"), "__rmul__", "Ratio.__rmul__", defArgs s_Ratio_rmul, defBody s_Ratio_rmul, defScope s_Ratio_rmul, [], []⟩
def fd6 : Fd := ⟨fun K => (He.ma K (He.ga K "Ratio") "__lt__"), "__lt__", "Ratio.__lt__", defArgs s_Ratio_lt, defBody s_Ratio_lt, defScope s_Ratio_lt, [], []⟩
def fd7 : Fd := ⟨fun K => (He.ma K (He.ga K "Ratio") "__eq__"), "__eq__", "Ratio.__eq__", defArgs s_Ratio_eq, defBody s_Ratio_eq, defScope s_Ratio_eq, [], []⟩
def fd8 : Fd := ⟨fun K => (He.ma K (He.ga K "Run") "__init__"), "__init__", "Run.__init__", defArgs s_Run_init, defBody s_Run_init, defScope s_Run_init, [], []⟩
def fd9 : Fd := ⟨fun K => (He.ma K (He.ga K "Run") "below"), "below", "Run.below", defArgs s_Run_below, defBody s_Run_below, defScope s_Run_below, [], []⟩
def fd10 : Fd := ⟨fun K => (He.ma K (He.ga K "Run") "above"), "above", "Run.above", defArgs s_Run_above, defBody s_Run_above, defScope s_Run_above, [], []⟩
def fd11 : Fd := ⟨fun K => (He.ma K (He.ga K "Run") "__getitem__"), "__getitem__", "Run.__getitem__", defArgs s_Run_getitem, defBody s_Run_getitem, defScope s_Run_getitem, [], []⟩
def fd12 : Fd := ⟨fun K => (Kh.r1 K (He.ma K (He.ga K "Run") "last") "property"), "last", "Run.last", defArgs s_Run_last, defBody s_Run_last, defScope s_Run_last, [], []⟩
def fd13 : Fd := ⟨fun K => (Kh.r1 K (He.ma K (He.ga K "Run") "point") "classmethod"), "point", "Run.point", defArgs s_Run_point, defBody s_Run_point, defScope s_Run_point, [], []⟩
def fd14 : Fd := ⟨fun K => (He.ma K (He.ga K "Blend") "__init__"), "__init__", "Blend.__init__", defArgs s_Blend_init, defBody s_Blend_init, defScope s_Blend_init, [], []⟩
def fd15 : Fd := ⟨fun K => (He.ma K (He.ga K "Blend") "__iter__"), "__iter__", "Blend.__iter__", defArgs s_Blend_iter, defBody s_Blend_iter, defScope s_Blend_iter, [], []⟩
def fd16 : Fd := ⟨fun K => (Kh.r1 K (He.ma K (He.ga K "Blend") "point") "classmethod"), "point", "Blend.point", defArgs s_Blend_point, defBody s_Blend_point, defScope s_Blend_point, [], []⟩
def fd17 : Fd := ⟨fun K => (He.ga K "_law_pool"), "_law_pool", "_law_pool", defArgs s_pool, defBody s_pool, defScope s_pool, [], []⟩
def fd18 : Fd := ⟨fun K => (He.ga K "_law_mix"), "_law_mix", "_law_mix", defArgs s_mix, defBody s_mix, defScope s_mix, [], []⟩
def fd19 : Fd := ⟨fun K => (He.ga K "_law_draw"), "_law_draw", "_law_draw", defArgs s_draw, defBody s_draw, defScope s_draw, [], []⟩
def fd20 : Fd := ⟨fun K => (He.ga K "_law_wide"), "_law_wide", "_law_wide", defArgs s_wide, defBody s_wide, defScope s_wide, [], []⟩
def fd21 : Fd := ⟨fun K => (He.ga K "_law_any"), "_law_any", "_law_any", defArgs s_any, defBody s_any, defScope s_any, [], []⟩
def fd22 : Fd := ⟨fun K => (He.ga K "_law_whole"), "_law_whole", "_law_whole", defArgs s_whole, defBody s_whole, defScope s_whole, [], []⟩
def fd23 : Fd := ⟨fun K => (He.ga K "_law_ratio"), "_law_ratio", "_law_ratio", defArgs s_ratio, defBody s_ratio, defScope s_ratio, [], []⟩
def fd24 : Fd := ⟨fun K => (He.ga K "_law_same"), "_law_same", "_law_same", defArgs s_same, defBody s_same, defScope s_same, [], []⟩
def fd25 : Fd := ⟨fun K => (He.ga K "_law_great_run"), "_law_great_run", "_law_great_run", defArgs s_great_run, defBody s_great_run, defScope s_great_run, [], []⟩
def fd26 : Fd := ⟨fun K => (He.ga K "_law_last"), "_law_last", "_law_last", defArgs s_last, defBody s_last, defScope s_last, [], []⟩
def fd27 : Fd := ⟨fun K => (He.ga K "_law_beside"), "_law_beside", "_law_beside", defArgs s_beside, defBody s_beside, defScope s_beside, [], []⟩
def fd28 : Fd := ⟨fun K => (He.ga K "_law_upto"), "_law_upto", "_law_upto", defArgs s_upto, defBody s_upto, defScope s_upto, [], []⟩
def fd29 : Fd := ⟨fun K => (He.ga K "_law_won"), "_law_won", "_law_won", defArgs s_won, defBody s_won, defScope s_won, [], []⟩
def fd30 : Fd := ⟨fun K => (He.ga K "_law_held"), "_law_held", "_law_held", defArgs s_held, defBody s_held, defScope s_held, [], []⟩
def fd31 : Fd := ⟨fun K => (He.ga K "_law_parts"), "_law_parts", "_law_parts", defArgs s_parts, defBody s_parts, defScope s_parts, [], []⟩
def fd32 : Fd := ⟨fun K => (He.ga K "_law_weights"), "_law_weights", "_law_weights", defArgs s_weights, defBody s_weights, defScope s_weights, [], []⟩
def fd33 : Fd := ⟨fun K => (He.ga K "_law_blend"), "_law_blend", "_law_blend", defArgs s_blend, defBody s_blend, defScope s_blend, [], []⟩
def fd34 : Fd := ⟨fun K => (He.ga K "_law_sum"), "_law_sum", "_law_sum", defArgs s_sum, defBody s_sum, defScope s_sum, [], []⟩
def fd35 : Fd := ⟨fun K => (He.ga K "_law_listed"), "_law_listed", "_law_listed", defArgs s_listed, defBody s_listed, defScope s_listed, [], []⟩
def fd36 : Fd := ⟨fun K => (He.ga K "_law_lot"), "_law_lot", "_law_lot", defArgs s_lot, defBody s_lot, defScope s_lot, [], []⟩
def fd37 : Fd := ⟨fun K => (He.ga K "_law_by_walk"), "_law_by_walk", "_law_by_walk", defArgs s_by_walk, defBody s_by_walk, defScope s_by_walk, [], []⟩
def fd38 : Fd := ⟨fun K => (He.ga K "_law_by_runs"), "_law_by_runs", "_law_by_runs", defArgs s_by_runs, defBody s_by_runs, defScope s_by_runs, [], []⟩
def fd39 : Fd := ⟨fun K => (He.ga K "_law_rule_refused"), "_law_rule_refused", "_law_rule_refused", defArgs s_rule_refused, defBody s_rule_refused, defScope s_rule_refused, [], []⟩
def fd40 : Fd := ⟨fun K => (He.ga K "_law_long_row"), "_law_long_row", "_law_long_row", defArgs s_long_row, defBody s_long_row, defScope s_long_row, [], []⟩
def fd41 : Fd := ⟨fun K => (He.ga K "check_ties"), "check_ties", "check_ties", defArgs s_check_ties, defBody s_check_ties, defScope s_check_ties, [], []⟩
def fd42 : Fd := ⟨fun K => (He.ga K "_check_floor_sum"), "_check_floor_sum", "_check_floor_sum", defArgs s_check_floor_sum, defBody s_check_floor_sum, defScope s_check_floor_sum, [], []⟩
def fd43 : Fd := ⟨fun K => (He.ga K "floor_sum"), "floor_sum", "floor_sum", defArgs s_floor_sum, defBody s_floor_sum, defScope s_floor_sum, [], []⟩
def fd44 : Fd := ⟨fun K => (He.ga K "pairs_above"), "pairs_above", "pairs_above", defArgs s_pairs_above, defBody s_pairs_above, defScope s_pairs_above, [], []⟩
def fd45 : Fd := ⟨fun K => (He.ga K "pairs_alike"), "pairs_alike", "pairs_alike", defArgs s_pairs_alike, defBody s_pairs_alike, defScope s_pairs_alike, [], []⟩
def fd46 : Fd := ⟨fun K => (He.ga K "is_number"), "is_number", "is_number", defArgs s_is_number, defBody s_is_number, defScope s_is_number, [], []⟩
def fd47 : Fd := ⟨fun K => (He.ga K "as_ratio"), "as_ratio", "as_ratio", defArgs s_as_ratio, defBody s_as_ratio, defScope s_as_ratio, [], []⟩
def fd48 : Fd := ⟨fun K => (He.ga K "_top_of"), "_top_of", "_top_of", defArgs s_top_of, defBody s_top_of, defScope s_top_of, [], []⟩
def fd49 : Fd := ⟨fun K => (He.ga K "_under_of"), "_under_of", "_under_of", defArgs s_under_of, defBody s_under_of, defScope s_under_of, [], []⟩
def fd50 : Fd := ⟨fun K => (He.ga K "added"), "added", "added", defArgs s_added, defBody s_added, defScope s_added, [], []⟩
def fd51 : Fd := ⟨fun K => (He.ga K "check_parts"), "check_parts", "check_parts", defArgs s_check_parts, defBody s_check_parts, defScope s_check_parts, [], []⟩
def fd52 : Fd := ⟨fun K => (He.ga K "put_together"), "put_together", "put_together", defArgs s_put_together, defBody s_put_together, defScope s_put_together, [], []⟩
def fd53 : Fd := ⟨fun K => (He.ga K "run_gain"), "run_gain", "run_gain", defArgs s_run_gain, defBody s_run_gain, defScope s_run_gain, [], [("ties", .int 0)]⟩
def fd54 : Fd := ⟨fun K => (He.ga K "meet"), "meet", "meet", defArgs s_meet, defBody s_meet, defScope s_meet, [], [("ties", .int 0)]⟩
def fd55 : Fd := ⟨fun K => (He.ga K "law"), "law", "law", defArgs s_law, defBody s_law, defScope s_law, [], []⟩
def ts0 (K : PySem.W.Frag) : List Bool := [decide (PySem.W.nsIn K mainGlobals "len" = some none),
  decide (PySem.W.nsIn K mainGlobals "int" = some none),
  decide (PySem.W.nsIn K mainGlobals "abs" = some none),
  decide (PySem.W.nsIn K mainGlobals "range" = some none),
  decide (PySem.W.nsIn K mainGlobals "isinstance" = some none),
  decide (PySem.W.nsIn K mainGlobals "max" = some none),
  decide (PySem.W.nsIn K mainGlobals "min" = some none),
  decide (PySem.W.nsIn K mainGlobals "sum" = some none),
  decide (PySem.W.nsIn K mainGlobals "str" = some none),
  decide (PySem.W.nsIn K mainGlobals "bool" = some none),
  decide (PySem.W.nsIn K mainGlobals "list" = some none),
  decide (PySem.W.nsIn K mainGlobals "ValueError" = some none),
  decide (PySem.W.nsIn K mainGlobals "zip" = some none),
  decide (PySem.W.nsIn K mainGlobals "any" = some none),
  decide (PySem.W.nsIn K mainGlobals "tuple" = some none),
  decide (PySem.W.nsIn K mainGlobals "iter" = some none),
  decide (PySem.W.nsIn K mainGlobals "Ratio" = some (some (.ref (He.ga K "Ratio")))),
  PySem.W.plainGet K (He.ga K "Ratio") Str.empty,
  PySem.W.hasDictIn K (He.ga K "Ratio"),
  PySem.W.plainOver K (He.ga K "Ratio"),
  decide (PySem.W.findIn K (.ref (He.ga K "Ratio")) "__setattr__" = some (some (.builtin "object.__setattr__"))),
  PySem.W.makesIn K (He.ga K "Ratio"),
  PySem.W.keepIn K (.ref (He.ga K "Ratio")),
  decide (PySem.W.findIn K (.ref (He.ga K "Ratio")) "top" = some none),
  decide (PySem.W.findIn K (.ref (He.ga K "Ratio")) "under" = some none)]
def ts1 (K : PySem.W.Frag) : List Bool := [decide (PySem.W.findIn K (.ref (He.ga K "Ratio")) "__class__" = some (some (.builtin "object.__class__"))),
  decide (PySem.W.specialIn K (.builtin "object.__class__") "__get__" = some (some (.builtin "getset_descriptor.__get__"))),
  decide (PySem.W.takesIn K (.builtin "object.__class__") = some true),
  decide (PySem.W.mroIn K (He.ga K "Ratio") (.type "object") = some true),
  decide (PySem.W.subIn K (.type "int") (.ref (He.ga K "Ratio")) = some false),
  decide (PySem.W.typeIn K (.ref (He.ga K "Ratio")) = some (.type "type")),
  decide (PySem.W.findIn K (.ref (He.ga K "Ratio")) "__init__" = some (some (.ref (He.ma K (He.ga K "Ratio") "__init__")))),
  PySem.W.isFn K (.ref (He.ma K (He.ga K "Ratio") "__init__")),
  decide (PySem.W.nsIn K mainGlobals "gcd" = some (some (.builtin "math.gcd"))),
  decide (PySem.W.nsIn K mainGlobals "LotError" = some (some (.ref (He.ga K "LotError")))),
  PySem.W.hasDictIn K (He.ga K "LotError"),
  decide (PySem.W.typeIn K (.ref (He.ga K "LotError")) = some (.type "type")),
  decide (PySem.W.nsIn K mainGlobals "BadNumber" = some (some (.ref (He.ga K "BadNumber")))),
  Kh.pxB K (He.ga K "BadNumber") [.ref (He.ga K "LotError"), .type "ValueError", .type "Exception", .type "BaseException", .type "object"] "ValueError.__new__",
  decide (PySem.W.findIn K (.ref (He.ga K "BadNumber")) "__setattr__" = some (some (.builtin "object.__setattr__"))),
  PySem.W.keepIn K (.ref (He.ga K "BadNumber")),
  decide (PySem.W.subIn K (.ref (He.ga K "BadNumber")) (.type "BaseException") = some true),
  decide (PySem.W.typeIn K (.ref (He.ga K "BadNumber")) = some (.type "type")),
  decide (PySem.W.subIn K (.ref (He.ga K "BadNumber")) (.ref (He.ga K "BadNumber")) = some true),
  decide (PySem.W.findIn K (.ref (He.ga K "BadNumber")) "__getattribute__" = some (some (.builtin "BaseException.__getattribute__"))),
  decide (PySem.W.findIn K (.ref (He.ga K "BadNumber")) "__getattr__" = some none),
  PySem.W.hasDictIn K (He.ga K "BadNumber"),
  decide (PySem.W.findIn K (.ref (He.ga K "BadNumber")) "__class__" = some (some (.builtin "object.__class__"))),
  decide (PySem.W.mroIn K (He.ga K "BadNumber") (.type "object") = some true),
  decide (PySem.W.subIn K (.ref (He.ga K "BadNumber")) (.type "ValueError") = some true)]
def ts2 (K : PySem.W.Frag) : List Bool := [decide (PySem.W.findIn K (.ref (He.ga K "BadNumber")) "name" = some none),
  decide (PySem.W.findIn K (.ref (He.ga K "BadNumber")) "value" = some none),
  decide (PySem.W.findIn K (.ref (He.ga K "BadNumber")) "__init__" = some (some (.ref (He.ma K (He.ga K "BadNumber") "__init__")))),
  decide (PySem.W.typeIn K (.ref (He.ma K (He.ga K "BadNumber") "__init__")) = some (.type "function")),
  decide (PySem.W.subIn K (.ref (He.ga K "BadNumber")) (.ref (He.ga K "LotError")) = some true),
  decide (PySem.W.nsIn K mainGlobals "ZeroUnder" = some (some (.ref (He.ga K "ZeroUnder")))),
  PySem.W.excIn K (He.ga K "ZeroUnder") [.type "ValueError", .type "Exception", .type "BaseException", .type "object"] "ValueError.__new__",
  PySem.W.keepIn K (.ref (He.ga K "ZeroUnder")),
  decide (PySem.W.subIn K (.ref (He.ga K "ZeroUnder")) (.type "BaseException") = some true),
  decide (PySem.W.typeIn K (.ref (He.ga K "ZeroUnder")) = some (.type "type")),
  decide (PySem.W.subIn K (.ref (He.ga K "ZeroUnder")) (.ref (He.ga K "ZeroUnder")) = some true),
  decide (PySem.W.findIn K (.ref (He.ga K "ZeroUnder")) "__getattribute__" = some (some (.builtin "BaseException.__getattribute__"))),
  decide (PySem.W.findIn K (.ref (He.ga K "ZeroUnder")) "__getattr__" = some none),
  PySem.W.hasDictIn K (He.ga K "ZeroUnder"),
  decide (PySem.W.findIn K (.ref (He.ga K "ZeroUnder")) "__class__" = some (some (.builtin "object.__class__"))),
  decide (PySem.W.mroIn K (He.ga K "ZeroUnder") (.type "object") = some true),
  decide (PySem.W.subIn K (.ref (He.ga K "ZeroUnder")) (.type "ValueError") = some true),
  decide (PySem.W.nsIn K mainGlobals "BadShares" = some (some (.ref (He.ga K "BadShares")))),
  PySem.W.excIn K (He.ga K "BadShares") [.type "ValueError", .type "Exception", .type "BaseException", .type "object"] "ValueError.__new__",
  PySem.W.keepIn K (.ref (He.ga K "BadShares")),
  decide (PySem.W.subIn K (.ref (He.ga K "BadShares")) (.type "BaseException") = some true),
  decide (PySem.W.typeIn K (.ref (He.ga K "BadShares")) = some (.type "type")),
  decide (PySem.W.subIn K (.ref (He.ga K "BadShares")) (.ref (He.ga K "BadShares")) = some true),
  decide (PySem.W.findIn K (.ref (He.ga K "BadShares")) "__getattribute__" = some (some (.builtin "BaseException.__getattribute__"))),
  decide (PySem.W.findIn K (.ref (He.ga K "BadShares")) "__getattr__" = some none)]
def ts3 (K : PySem.W.Frag) : List Bool := [PySem.W.hasDictIn K (He.ga K "BadShares"),
  decide (PySem.W.findIn K (.ref (He.ga K "BadShares")) "__class__" = some (some (.builtin "object.__class__"))),
  decide (PySem.W.mroIn K (He.ga K "BadShares") (.type "object") = some true),
  decide (PySem.W.subIn K (.ref (He.ga K "BadShares")) (.type "ValueError") = some true),
  decide (PySem.W.findIn K (.type "int") "__add__" = some (some (.builtin "int.__add__"))),
  decide (PySem.W.findIn K (.type "int") "__radd__" = some (some (.builtin "int.__radd__"))),
  decide (PySem.W.findIn K (.type "int") "__sub__" = some (some (.builtin "int.__sub__"))),
  decide (PySem.W.findIn K (.type "int") "__rsub__" = some (some (.builtin "int.__rsub__"))),
  decide (PySem.W.findIn K (.type "int") "__mul__" = some (some (.builtin "int.__mul__"))),
  decide (PySem.W.findIn K (.type "int") "__rmul__" = some (some (.builtin "int.__rmul__"))),
  PySem.W.selfFirst K (He.ga K "Ratio"),
  decide (PySem.W.subIn K (.ref (He.ga K "Ratio")) (.type "int") = some false),
  decide (PySem.W.findIn K (.ref (He.ga K "Ratio")) "__add__" = some (some (.ref (He.ma K (He.ga K "Ratio") "__add__")))),
  PySem.W.isFn K (.ref (He.ma K (He.ga K "Ratio") "__add__")),
  decide (PySem.W.findIn K (.ref (He.ga K "Ratio")) "__radd__" = some (some (.ref (He.ma K (He.ga K "Ratio") "__radd__")))),
  PySem.W.isFn K (.ref (He.ma K (He.ga K "Ratio") "__radd__")),
  decide (PySem.W.findIn K (.ref (He.ga K "Ratio")) "__mul__" = some (some (.ref (He.ma K (He.ga K "Ratio") "__mul__")))),
  PySem.W.isFn K (.ref (He.ma K (He.ga K "Ratio") "__mul__")),
  decide (PySem.W.findIn K (.ref (He.ga K "Ratio")) "__rmul__" = some (some (.ref (He.ma K (He.ga K "Ratio") "__rmul__")))),
  PySem.W.isFn K (.ref (He.ma K (He.ga K "Ratio") "__rmul__")),
  decide (PySem.W.findIn K (.ref (He.ga K "Ratio")) "__lt__" = some (some (.ref (He.ma K (He.ga K "Ratio") "__lt__")))),
  PySem.W.isFn K (.ref (He.ma K (He.ga K "Ratio") "__lt__")),
  decide (PySem.W.findIn K (.ref (He.ga K "Ratio")) "__eq__" = some (some (.ref (He.ma K (He.ga K "Ratio") "__eq__")))),
  PySem.W.isFn K (.ref (He.ma K (He.ga K "Ratio") "__eq__")),
  decide (PySem.W.findIn K (.ref (He.ga K "Ratio")) "__ne__" = some (some (.builtin "object.__ne__")))]
def ts4 (K : PySem.W.Frag) : List Bool := [decide (PySem.W.nsIn K mainGlobals "Run" = some (some (.ref (He.ga K "Run")))),
  PySem.W.plainGet K (He.ga K "Run") Str.empty,
  PySem.W.hasDictIn K (He.ga K "Run"),
  PySem.W.plainOver K (He.ga K "Run"),
  decide (PySem.W.findIn K (.ref (He.ga K "Run")) "__setattr__" = some (some (.builtin "object.__setattr__"))),
  PySem.W.makesIn K (He.ga K "Run"),
  PySem.W.keepIn K (.ref (He.ga K "Run")),
  decide (PySem.W.findIn K (.ref (He.ga K "Run")) "first" = some none),
  decide (PySem.W.findIn K (.ref (He.ga K "Run")) "step" = some none),
  decide (PySem.W.findIn K (.ref (He.ga K "Run")) "count" = some none),
  decide (PySem.W.findIn K (.ref (He.ga K "Run")) "__class__" = some (some (.builtin "object.__class__"))),
  decide (PySem.W.mroIn K (He.ga K "Run") (.type "object") = some true),
  Kh.intB (PySem.W.nsIn K mainGlobals "MOST_STEP") 4,
  decide (PySem.W.findIn K (.ref (He.ga K "Run")) "__init__" = some (some (.ref (He.ma K (He.ga K "Run") "__init__")))),
  PySem.W.isFn K (.ref (He.ma K (He.ga K "Run") "__init__")),
  decide (PySem.W.findIn K (.ref (He.ga K "Run")) "below" = some (some (.ref (He.ma K (He.ga K "Run") "below")))),
  PySem.W.isFn K (.ref (He.ma K (He.ga K "Run") "below")),
  decide (PySem.W.findIn K (.ref (He.ga K "Run")) "above" = some (some (.ref (He.ma K (He.ga K "Run") "above")))),
  PySem.W.isFn K (.ref (He.ma K (He.ga K "Run") "above")),
  decide (PySem.W.findIn K (.ref (He.ga K "Run")) "__getitem__" = some (some (.ref (He.ma K (He.ga K "Run") "__getitem__")))),
  PySem.W.isFn K (.ref (He.ma K (He.ga K "Run") "__getitem__")),
  decide (PySem.W.findIn K (.ref (He.ga K "Run")) "last" = some (some (.ref (He.ma K (He.ga K "Run") "last")))),
  decide (PySem.W.specialIn K (.ref (He.ma K (He.ga K "Run") "last")) "__get__" = some (some (.builtin "property.__get__"))),
  decide (PySem.W.takesIn K (.ref (He.ma K (He.ga K "Run") "last")) = some true),
  decide (PySem.W.recIn K (He.ma K (He.ga K "Run") "last") "property" = some (.ref (Kh.r1 K (He.ma K (He.ga K "Run") "last") "property") :: (Kh.r2 K (He.ma K (He.ga K "Run") "last") "property")))]
def ts5 (K : PySem.W.Frag) : List Bool := [PySem.W.fnIn K (He.ma K (He.ga K "Run") "__getitem__"),
  PySem.W.readsIn K (He.ga K "Run") (.type "type"),
  decide (PySem.W.specialIn K (.ref (He.ga K "Run")) "__getattribute__" = some (some (.builtin "type.__getattribute__"))),
  Kh.cmB (PySem.W.findCls K (.ref (He.ga K "Run")) (.type "type") "point") (He.ga K "Run") (He.ma K (He.ga K "Run") "point"),
  decide (PySem.W.recIn K (He.ma K (He.ga K "Run") "point") "classmethod" = some (.ref (Kh.r1 K (He.ma K (He.ga K "Run") "point") "classmethod") :: (Kh.r2 K (He.ma K (He.ga K "Run") "point") "classmethod"))),
  PySem.W.fnIn K (Kh.r1 K (He.ma K (He.ga K "Run") "point") "classmethod"),
  Kh.intB (PySem.W.nsIn K mainGlobals "MOST_PARTS") 64,
  decide (PySem.W.nsIn K mainGlobals "Blend" = some (some (.ref (He.ga K "Blend")))),
  PySem.W.plainGet K (He.ga K "Blend") Str.empty,
  PySem.W.hasDictIn K (He.ga K "Blend"),
  PySem.W.plainOver K (He.ga K "Blend"),
  decide (PySem.W.findIn K (.ref (He.ga K "Blend")) "__setattr__" = some (some (.builtin "object.__setattr__"))),
  PySem.W.makesIn K (He.ga K "Blend"),
  PySem.W.keepIn K (.ref (He.ga K "Blend")),
  decide (PySem.W.findIn K (.ref (He.ga K "Blend")) "parts" = some none),
  decide (PySem.W.findIn K (.ref (He.ga K "Blend")) "__class__" = some (some (.builtin "object.__class__"))),
  decide (PySem.W.mroIn K (He.ga K "Blend") (.type "object") = some true),
  decide (PySem.W.findIn K (.ref (He.ga K "Blend")) "__init__" = some (some (.ref (He.ma K (He.ga K "Blend") "__init__")))),
  PySem.W.isFn K (.ref (He.ma K (He.ga K "Blend") "__init__")),
  decide (PySem.W.findIn K (.ref (He.ga K "Blend")) "__iter__" = some (some (.ref (He.ma K (He.ga K "Blend") "__iter__")))),
  PySem.W.isFn K (.ref (He.ma K (He.ga K "Blend") "__iter__")),
  PySem.W.readsIn K (He.ga K "Blend") (.type "type"),
  decide (PySem.W.specialIn K (.ref (He.ga K "Blend")) "__getattribute__" = some (some (.builtin "type.__getattribute__"))),
  Kh.cmB (PySem.W.findCls K (.ref (He.ga K "Blend")) (.type "type") "point") (He.ga K "Blend") (He.ma K (He.ga K "Blend") "point"),
  decide (PySem.W.recIn K (He.ma K (He.ga K "Blend") "point") "classmethod" = some (.ref (Kh.r1 K (He.ma K (He.ga K "Blend") "point") "classmethod") :: (Kh.r2 K (He.ma K (He.ga K "Blend") "point") "classmethod")))]
def ts6 (K : PySem.W.Frag) : List Bool := [PySem.W.fnIn K (Kh.r1 K (He.ma K (He.ga K "Blend") "point") "classmethod"),
  decide (PySem.W.nsIn K mainGlobals "_law_pool" = some (some (.ref (He.ga K "_law_pool")))),
  decide (PySem.W.nsIn K mainGlobals "_law_mix" = some (some (.ref (He.ga K "_law_mix")))),
  decide (PySem.W.nsIn K mainGlobals "_law_draw" = some (some (.ref (He.ga K "_law_draw")))),
  decide (PySem.W.nsIn K mainGlobals "_law_wide" = some (some (.ref (He.ga K "_law_wide")))),
  decide (PySem.W.nsIn K mainGlobals "_law_any" = some (some (.ref (He.ga K "_law_any")))),
  decide (PySem.W.nsIn K mainGlobals "_law_whole" = some (some (.ref (He.ga K "_law_whole")))),
  decide (PySem.W.nsIn K mainGlobals "_law_ratio" = some (some (.ref (He.ga K "_law_ratio")))),
  decide (PySem.W.nsIn K mainGlobals "_law_same" = some (some (.ref (He.ga K "_law_same")))),
  decide (PySem.W.nsIn K mainGlobals "_law_great_run" = some (some (.ref (He.ga K "_law_great_run")))),
  decide (PySem.W.nsIn K mainGlobals "_law_last" = some (some (.ref (He.ga K "_law_last")))),
  decide (PySem.W.nsIn K mainGlobals "_law_beside" = some (some (.ref (He.ga K "_law_beside")))),
  decide (PySem.W.nsIn K mainGlobals "_law_upto" = some (some (.ref (He.ga K "_law_upto")))),
  decide (PySem.W.nsIn K mainGlobals "_law_won" = some (some (.ref (He.ga K "_law_won")))),
  decide (PySem.W.nsIn K mainGlobals "_law_held" = some (some (.ref (He.ga K "_law_held")))),
  decide (PySem.W.nsIn K mainGlobals "_law_parts" = some (some (.ref (He.ga K "_law_parts")))),
  decide (PySem.W.nsIn K mainGlobals "_law_weights" = some (some (.ref (He.ga K "_law_weights")))),
  decide (PySem.W.nsIn K mainGlobals "_law_blend" = some (some (.ref (He.ga K "_law_blend")))),
  decide (PySem.W.nsIn K mainGlobals "_law_sum" = some (some (.ref (He.ga K "_law_sum")))),
  decide (PySem.W.nsIn K mainGlobals "_law_listed" = some (some (.ref (He.ga K "_law_listed")))),
  decide (PySem.W.nsIn K mainGlobals "_law_lot" = some (some (.ref (He.ga K "_law_lot")))),
  decide (PySem.W.nsIn K mainGlobals "_law_by_walk" = some (some (.ref (He.ga K "_law_by_walk")))),
  decide (PySem.W.nsIn K mainGlobals "_law_by_runs" = some (some (.ref (He.ga K "_law_by_runs")))),
  decide (PySem.W.nsIn K mainGlobals "_law_rule_refused" = some (some (.ref (He.ga K "_law_rule_refused")))),
  decide (PySem.W.nsIn K mainGlobals "_law_long_row" = some (some (.ref (He.ga K "_law_long_row"))))]
def ts7 (K : PySem.W.Frag) : List Bool := [decide (PySem.W.nsIn K mainGlobals "check_ties" = some (some (.ref (He.ga K "check_ties")))),
  decide (PySem.W.nsIn K mainGlobals "_check_floor_sum" = some (some (.ref (He.ga K "_check_floor_sum")))),
  decide (PySem.W.nsIn K mainGlobals "floor_sum" = some (some (.ref (He.ga K "floor_sum")))),
  decide (PySem.W.nsIn K mainGlobals "pairs_above" = some (some (.ref (He.ga K "pairs_above")))),
  decide (PySem.W.nsIn K mainGlobals "pairs_alike" = some (some (.ref (He.ga K "pairs_alike")))),
  decide (PySem.W.nsIn K mainGlobals "is_number" = some (some (.ref (He.ga K "is_number")))),
  decide (PySem.W.nsIn K mainGlobals "as_ratio" = some (some (.ref (He.ga K "as_ratio")))),
  decide (PySem.W.nsIn K mainGlobals "_top_of" = some (some (.ref (He.ga K "_top_of")))),
  decide (PySem.W.nsIn K mainGlobals "_under_of" = some (some (.ref (He.ga K "_under_of")))),
  decide (PySem.W.nsIn K mainGlobals "added" = some (some (.ref (He.ga K "added")))),
  decide (PySem.W.nsIn K mainGlobals "check_parts" = some (some (.ref (He.ga K "check_parts")))),
  decide (PySem.W.nsIn K mainGlobals "put_together" = some (some (.ref (He.ga K "put_together")))),
  decide (PySem.W.nsIn K mainGlobals "run_gain" = some (some (.ref (He.ga K "run_gain")))),
  decide (PySem.W.nsIn K mainGlobals "meet" = some (some (.ref (He.ga K "meet")))),
  decide (PySem.W.nsIn K mainGlobals "law" = some (some (.ref (He.ga K "law"))))]
def ts (K : PySem.W.Frag) : List (List Bool) := [ts0 K, ts1 K, ts2 K, ts3 K, ts4 K, ts5 K, ts6 K, ts7 K]
def tests (K : PySem.W.Frag) : List Bool := (ts K).map (fun l => l.all id)
def fns : List Fd := [fd0, fd1, fd2, fd3, fd4, fd5, fd6, fd7, fd8, fd9, fd10, fd11, fd12, fd13, fd14, fd15, fd16, fd17, fd18, fd19, fd20, fd21, fd22, fd23, fd24, fd25, fd26, fd27, fd28, fd29, fd30, fd31, fd32, fd33, fd34, fd35, fd36, fd37, fd38, fd39, fd40, fd41, fd42, fd43, fd44, fd45, fd46, fd47, fd48, fd49, fd50, fd51, fd52, fd53, fd54, fd55]
theorem test2 {K : PySem.W.Frag} (c : SaysK tests fns K) {l : List Bool} {b : Bool} (i j : Nat) (h : (ts K)[i]? = some l) (h2 : l[j]? = some b) : b = true := by
  have := c.test (b := l.all id) i (by show ((ts K).map _)[i]? = _; rw [List.getElem?_map, h]; rfl)
  exact List.all_eq_true.mp this b (List.mem_of_getElem? h2)
theorem t0 {K : PySem.W.Frag} (c : SaysK tests fns K) : (decide (PySem.W.nsIn K mainGlobals "len" = some none)) = true := test2 c (l := ts0 K) 0 0 rfl rfl
theorem t1 {K : PySem.W.Frag} (c : SaysK tests fns K) : (decide (PySem.W.nsIn K mainGlobals "int" = some none)) = true := test2 c (l := ts0 K) 0 1 rfl rfl
theorem t2 {K : PySem.W.Frag} (c : SaysK tests fns K) : (decide (PySem.W.nsIn K mainGlobals "abs" = some none)) = true := test2 c (l := ts0 K) 0 2 rfl rfl
theorem t3 {K : PySem.W.Frag} (c : SaysK tests fns K) : (decide (PySem.W.nsIn K mainGlobals "range" = some none)) = true := test2 c (l := ts0 K) 0 3 rfl rfl
theorem t4 {K : PySem.W.Frag} (c : SaysK tests fns K) : (decide (PySem.W.nsIn K mainGlobals "isinstance" = some none)) = true := test2 c (l := ts0 K) 0 4 rfl rfl
theorem t5 {K : PySem.W.Frag} (c : SaysK tests fns K) : (decide (PySem.W.nsIn K mainGlobals "max" = some none)) = true := test2 c (l := ts0 K) 0 5 rfl rfl
theorem t6 {K : PySem.W.Frag} (c : SaysK tests fns K) : (decide (PySem.W.nsIn K mainGlobals "min" = some none)) = true := test2 c (l := ts0 K) 0 6 rfl rfl
theorem t7 {K : PySem.W.Frag} (c : SaysK tests fns K) : (decide (PySem.W.nsIn K mainGlobals "sum" = some none)) = true := test2 c (l := ts0 K) 0 7 rfl rfl
theorem t8 {K : PySem.W.Frag} (c : SaysK tests fns K) : (decide (PySem.W.nsIn K mainGlobals "str" = some none)) = true := test2 c (l := ts0 K) 0 8 rfl rfl
theorem t9 {K : PySem.W.Frag} (c : SaysK tests fns K) : (decide (PySem.W.nsIn K mainGlobals "bool" = some none)) = true := test2 c (l := ts0 K) 0 9 rfl rfl
theorem t10 {K : PySem.W.Frag} (c : SaysK tests fns K) : (decide (PySem.W.nsIn K mainGlobals "list" = some none)) = true := test2 c (l := ts0 K) 0 10 rfl rfl
theorem t11 {K : PySem.W.Frag} (c : SaysK tests fns K) : (decide (PySem.W.nsIn K mainGlobals "ValueError" = some none)) = true := test2 c (l := ts0 K) 0 11 rfl rfl
theorem t12 {K : PySem.W.Frag} (c : SaysK tests fns K) : (decide (PySem.W.nsIn K mainGlobals "zip" = some none)) = true := test2 c (l := ts0 K) 0 12 rfl rfl
theorem t13 {K : PySem.W.Frag} (c : SaysK tests fns K) : (decide (PySem.W.nsIn K mainGlobals "any" = some none)) = true := test2 c (l := ts0 K) 0 13 rfl rfl
theorem t14 {K : PySem.W.Frag} (c : SaysK tests fns K) : (decide (PySem.W.nsIn K mainGlobals "tuple" = some none)) = true := test2 c (l := ts0 K) 0 14 rfl rfl
theorem t15 {K : PySem.W.Frag} (c : SaysK tests fns K) : (decide (PySem.W.nsIn K mainGlobals "iter" = some none)) = true := test2 c (l := ts0 K) 0 15 rfl rfl
theorem t16 {K : PySem.W.Frag} (c : SaysK tests fns K) : (decide (PySem.W.nsIn K mainGlobals "Ratio" = some (some (.ref (He.ga K "Ratio"))))) = true := test2 c (l := ts0 K) 0 16 rfl rfl
theorem t17 {K : PySem.W.Frag} (c : SaysK tests fns K) : (PySem.W.plainGet K (He.ga K "Ratio") Str.empty) = true := test2 c (l := ts0 K) 0 17 rfl rfl
theorem t18 {K : PySem.W.Frag} (c : SaysK tests fns K) : (PySem.W.hasDictIn K (He.ga K "Ratio")) = true := test2 c (l := ts0 K) 0 18 rfl rfl
theorem t19 {K : PySem.W.Frag} (c : SaysK tests fns K) : (PySem.W.plainOver K (He.ga K "Ratio")) = true := test2 c (l := ts0 K) 0 19 rfl rfl
theorem t20 {K : PySem.W.Frag} (c : SaysK tests fns K) : (decide (PySem.W.findIn K (.ref (He.ga K "Ratio")) "__setattr__" = some (some (.builtin "object.__setattr__")))) = true := test2 c (l := ts0 K) 0 20 rfl rfl
theorem t21 {K : PySem.W.Frag} (c : SaysK tests fns K) : (PySem.W.makesIn K (He.ga K "Ratio")) = true := test2 c (l := ts0 K) 0 21 rfl rfl
theorem t22 {K : PySem.W.Frag} (c : SaysK tests fns K) : (PySem.W.keepIn K (.ref (He.ga K "Ratio"))) = true := test2 c (l := ts0 K) 0 22 rfl rfl
theorem t23 {K : PySem.W.Frag} (c : SaysK tests fns K) : (decide (PySem.W.findIn K (.ref (He.ga K "Ratio")) "top" = some none)) = true := test2 c (l := ts0 K) 0 23 rfl rfl
theorem t24 {K : PySem.W.Frag} (c : SaysK tests fns K) : (decide (PySem.W.findIn K (.ref (He.ga K "Ratio")) "under" = some none)) = true := test2 c (l := ts0 K) 0 24 rfl rfl
theorem t25 {K : PySem.W.Frag} (c : SaysK tests fns K) : (decide (PySem.W.findIn K (.ref (He.ga K "Ratio")) "__class__" = some (some (.builtin "object.__class__")))) = true := test2 c (l := ts1 K) 1 0 rfl rfl
theorem t26 {K : PySem.W.Frag} (c : SaysK tests fns K) : (decide (PySem.W.specialIn K (.builtin "object.__class__") "__get__" = some (some (.builtin "getset_descriptor.__get__")))) = true := test2 c (l := ts1 K) 1 1 rfl rfl
theorem t27 {K : PySem.W.Frag} (c : SaysK tests fns K) : (decide (PySem.W.takesIn K (.builtin "object.__class__") = some true)) = true := test2 c (l := ts1 K) 1 2 rfl rfl
theorem t28 {K : PySem.W.Frag} (c : SaysK tests fns K) : (decide (PySem.W.mroIn K (He.ga K "Ratio") (.type "object") = some true)) = true := test2 c (l := ts1 K) 1 3 rfl rfl
theorem t29 {K : PySem.W.Frag} (c : SaysK tests fns K) : (decide (PySem.W.subIn K (.type "int") (.ref (He.ga K "Ratio")) = some false)) = true := test2 c (l := ts1 K) 1 4 rfl rfl
theorem t30 {K : PySem.W.Frag} (c : SaysK tests fns K) : (decide (PySem.W.typeIn K (.ref (He.ga K "Ratio")) = some (.type "type"))) = true := test2 c (l := ts1 K) 1 5 rfl rfl
theorem t31 {K : PySem.W.Frag} (c : SaysK tests fns K) : (decide (PySem.W.findIn K (.ref (He.ga K "Ratio")) "__init__" = some (some (.ref (He.ma K (He.ga K "Ratio") "__init__"))))) = true := test2 c (l := ts1 K) 1 6 rfl rfl
theorem t32 {K : PySem.W.Frag} (c : SaysK tests fns K) : (PySem.W.isFn K (.ref (He.ma K (He.ga K "Ratio") "__init__"))) = true := test2 c (l := ts1 K) 1 7 rfl rfl
theorem t33 {K : PySem.W.Frag} (c : SaysK tests fns K) : (decide (PySem.W.nsIn K mainGlobals "gcd" = some (some (.builtin "math.gcd")))) = true := test2 c (l := ts1 K) 1 8 rfl rfl
theorem t34 {K : PySem.W.Frag} (c : SaysK tests fns K) : (decide (PySem.W.nsIn K mainGlobals "LotError" = some (some (.ref (He.ga K "LotError"))))) = true := test2 c (l := ts1 K) 1 9 rfl rfl
theorem t35 {K : PySem.W.Frag} (c : SaysK tests fns K) : (PySem.W.hasDictIn K (He.ga K "LotError")) = true := test2 c (l := ts1 K) 1 10 rfl rfl
theorem t36 {K : PySem.W.Frag} (c : SaysK tests fns K) : (decide (PySem.W.typeIn K (.ref (He.ga K "LotError")) = some (.type "type"))) = true := test2 c (l := ts1 K) 1 11 rfl rfl
theorem t37 {K : PySem.W.Frag} (c : SaysK tests fns K) : (decide (PySem.W.nsIn K mainGlobals "BadNumber" = some (some (.ref (He.ga K "BadNumber"))))) = true := test2 c (l := ts1 K) 1 12 rfl rfl
theorem t38 {K : PySem.W.Frag} (c : SaysK tests fns K) : (Kh.pxB K (He.ga K "BadNumber") [.ref (He.ga K "LotError"), .type "ValueError", .type "Exception", .type "BaseException", .type "object"] "ValueError.__new__") = true := test2 c (l := ts1 K) 1 13 rfl rfl
theorem t39 {K : PySem.W.Frag} (c : SaysK tests fns K) : (decide (PySem.W.findIn K (.ref (He.ga K "BadNumber")) "__setattr__" = some (some (.builtin "object.__setattr__")))) = true := test2 c (l := ts1 K) 1 14 rfl rfl
theorem t40 {K : PySem.W.Frag} (c : SaysK tests fns K) : (PySem.W.keepIn K (.ref (He.ga K "BadNumber"))) = true := test2 c (l := ts1 K) 1 15 rfl rfl
theorem t41 {K : PySem.W.Frag} (c : SaysK tests fns K) : (decide (PySem.W.subIn K (.ref (He.ga K "BadNumber")) (.type "BaseException") = some true)) = true := test2 c (l := ts1 K) 1 16 rfl rfl
theorem t42 {K : PySem.W.Frag} (c : SaysK tests fns K) : (decide (PySem.W.typeIn K (.ref (He.ga K "BadNumber")) = some (.type "type"))) = true := test2 c (l := ts1 K) 1 17 rfl rfl
theorem t43 {K : PySem.W.Frag} (c : SaysK tests fns K) : (decide (PySem.W.subIn K (.ref (He.ga K "BadNumber")) (.ref (He.ga K "BadNumber")) = some true)) = true := test2 c (l := ts1 K) 1 18 rfl rfl
theorem t44 {K : PySem.W.Frag} (c : SaysK tests fns K) : (decide (PySem.W.findIn K (.ref (He.ga K "BadNumber")) "__getattribute__" = some (some (.builtin "BaseException.__getattribute__")))) = true := test2 c (l := ts1 K) 1 19 rfl rfl
theorem t45 {K : PySem.W.Frag} (c : SaysK tests fns K) : (decide (PySem.W.findIn K (.ref (He.ga K "BadNumber")) "__getattr__" = some none)) = true := test2 c (l := ts1 K) 1 20 rfl rfl
theorem t46 {K : PySem.W.Frag} (c : SaysK tests fns K) : (PySem.W.hasDictIn K (He.ga K "BadNumber")) = true := test2 c (l := ts1 K) 1 21 rfl rfl
theorem t47 {K : PySem.W.Frag} (c : SaysK tests fns K) : (decide (PySem.W.findIn K (.ref (He.ga K "BadNumber")) "__class__" = some (some (.builtin "object.__class__")))) = true := test2 c (l := ts1 K) 1 22 rfl rfl
theorem t48 {K : PySem.W.Frag} (c : SaysK tests fns K) : (decide (PySem.W.mroIn K (He.ga K "BadNumber") (.type "object") = some true)) = true := test2 c (l := ts1 K) 1 23 rfl rfl
theorem t49 {K : PySem.W.Frag} (c : SaysK tests fns K) : (decide (PySem.W.subIn K (.ref (He.ga K "BadNumber")) (.type "ValueError") = some true)) = true := test2 c (l := ts1 K) 1 24 rfl rfl
theorem t50 {K : PySem.W.Frag} (c : SaysK tests fns K) : (decide (PySem.W.findIn K (.ref (He.ga K "BadNumber")) "name" = some none)) = true := test2 c (l := ts2 K) 2 0 rfl rfl
theorem t51 {K : PySem.W.Frag} (c : SaysK tests fns K) : (decide (PySem.W.findIn K (.ref (He.ga K "BadNumber")) "value" = some none)) = true := test2 c (l := ts2 K) 2 1 rfl rfl
theorem t52 {K : PySem.W.Frag} (c : SaysK tests fns K) : (decide (PySem.W.findIn K (.ref (He.ga K "BadNumber")) "__init__" = some (some (.ref (He.ma K (He.ga K "BadNumber") "__init__"))))) = true := test2 c (l := ts2 K) 2 2 rfl rfl
theorem t53 {K : PySem.W.Frag} (c : SaysK tests fns K) : (decide (PySem.W.typeIn K (.ref (He.ma K (He.ga K "BadNumber") "__init__")) = some (.type "function"))) = true := test2 c (l := ts2 K) 2 3 rfl rfl
theorem t54 {K : PySem.W.Frag} (c : SaysK tests fns K) : (decide (PySem.W.subIn K (.ref (He.ga K "BadNumber")) (.ref (He.ga K "LotError")) = some true)) = true := test2 c (l := ts2 K) 2 4 rfl rfl
theorem t55 {K : PySem.W.Frag} (c : SaysK tests fns K) : (decide (PySem.W.nsIn K mainGlobals "ZeroUnder" = some (some (.ref (He.ga K "ZeroUnder"))))) = true := test2 c (l := ts2 K) 2 5 rfl rfl
theorem t56 {K : PySem.W.Frag} (c : SaysK tests fns K) : (PySem.W.excIn K (He.ga K "ZeroUnder") [.type "ValueError", .type "Exception", .type "BaseException", .type "object"] "ValueError.__new__") = true := test2 c (l := ts2 K) 2 6 rfl rfl
theorem t57 {K : PySem.W.Frag} (c : SaysK tests fns K) : (PySem.W.keepIn K (.ref (He.ga K "ZeroUnder"))) = true := test2 c (l := ts2 K) 2 7 rfl rfl
theorem t58 {K : PySem.W.Frag} (c : SaysK tests fns K) : (decide (PySem.W.subIn K (.ref (He.ga K "ZeroUnder")) (.type "BaseException") = some true)) = true := test2 c (l := ts2 K) 2 8 rfl rfl
theorem t59 {K : PySem.W.Frag} (c : SaysK tests fns K) : (decide (PySem.W.typeIn K (.ref (He.ga K "ZeroUnder")) = some (.type "type"))) = true := test2 c (l := ts2 K) 2 9 rfl rfl
theorem t60 {K : PySem.W.Frag} (c : SaysK tests fns K) : (decide (PySem.W.subIn K (.ref (He.ga K "ZeroUnder")) (.ref (He.ga K "ZeroUnder")) = some true)) = true := test2 c (l := ts2 K) 2 10 rfl rfl
theorem t61 {K : PySem.W.Frag} (c : SaysK tests fns K) : (decide (PySem.W.findIn K (.ref (He.ga K "ZeroUnder")) "__getattribute__" = some (some (.builtin "BaseException.__getattribute__")))) = true := test2 c (l := ts2 K) 2 11 rfl rfl
theorem t62 {K : PySem.W.Frag} (c : SaysK tests fns K) : (decide (PySem.W.findIn K (.ref (He.ga K "ZeroUnder")) "__getattr__" = some none)) = true := test2 c (l := ts2 K) 2 12 rfl rfl
theorem t63 {K : PySem.W.Frag} (c : SaysK tests fns K) : (PySem.W.hasDictIn K (He.ga K "ZeroUnder")) = true := test2 c (l := ts2 K) 2 13 rfl rfl
theorem t64 {K : PySem.W.Frag} (c : SaysK tests fns K) : (decide (PySem.W.findIn K (.ref (He.ga K "ZeroUnder")) "__class__" = some (some (.builtin "object.__class__")))) = true := test2 c (l := ts2 K) 2 14 rfl rfl
theorem t65 {K : PySem.W.Frag} (c : SaysK tests fns K) : (decide (PySem.W.mroIn K (He.ga K "ZeroUnder") (.type "object") = some true)) = true := test2 c (l := ts2 K) 2 15 rfl rfl
theorem t66 {K : PySem.W.Frag} (c : SaysK tests fns K) : (decide (PySem.W.subIn K (.ref (He.ga K "ZeroUnder")) (.type "ValueError") = some true)) = true := test2 c (l := ts2 K) 2 16 rfl rfl
theorem t67 {K : PySem.W.Frag} (c : SaysK tests fns K) : (decide (PySem.W.nsIn K mainGlobals "BadShares" = some (some (.ref (He.ga K "BadShares"))))) = true := test2 c (l := ts2 K) 2 17 rfl rfl
theorem t68 {K : PySem.W.Frag} (c : SaysK tests fns K) : (PySem.W.excIn K (He.ga K "BadShares") [.type "ValueError", .type "Exception", .type "BaseException", .type "object"] "ValueError.__new__") = true := test2 c (l := ts2 K) 2 18 rfl rfl
theorem t69 {K : PySem.W.Frag} (c : SaysK tests fns K) : (PySem.W.keepIn K (.ref (He.ga K "BadShares"))) = true := test2 c (l := ts2 K) 2 19 rfl rfl
theorem t70 {K : PySem.W.Frag} (c : SaysK tests fns K) : (decide (PySem.W.subIn K (.ref (He.ga K "BadShares")) (.type "BaseException") = some true)) = true := test2 c (l := ts2 K) 2 20 rfl rfl
theorem t71 {K : PySem.W.Frag} (c : SaysK tests fns K) : (decide (PySem.W.typeIn K (.ref (He.ga K "BadShares")) = some (.type "type"))) = true := test2 c (l := ts2 K) 2 21 rfl rfl
theorem t72 {K : PySem.W.Frag} (c : SaysK tests fns K) : (decide (PySem.W.subIn K (.ref (He.ga K "BadShares")) (.ref (He.ga K "BadShares")) = some true)) = true := test2 c (l := ts2 K) 2 22 rfl rfl
theorem t73 {K : PySem.W.Frag} (c : SaysK tests fns K) : (decide (PySem.W.findIn K (.ref (He.ga K "BadShares")) "__getattribute__" = some (some (.builtin "BaseException.__getattribute__")))) = true := test2 c (l := ts2 K) 2 23 rfl rfl
theorem t74 {K : PySem.W.Frag} (c : SaysK tests fns K) : (decide (PySem.W.findIn K (.ref (He.ga K "BadShares")) "__getattr__" = some none)) = true := test2 c (l := ts2 K) 2 24 rfl rfl
theorem t75 {K : PySem.W.Frag} (c : SaysK tests fns K) : (PySem.W.hasDictIn K (He.ga K "BadShares")) = true := test2 c (l := ts3 K) 3 0 rfl rfl
theorem t76 {K : PySem.W.Frag} (c : SaysK tests fns K) : (decide (PySem.W.findIn K (.ref (He.ga K "BadShares")) "__class__" = some (some (.builtin "object.__class__")))) = true := test2 c (l := ts3 K) 3 1 rfl rfl
theorem t77 {K : PySem.W.Frag} (c : SaysK tests fns K) : (decide (PySem.W.mroIn K (He.ga K "BadShares") (.type "object") = some true)) = true := test2 c (l := ts3 K) 3 2 rfl rfl
theorem t78 {K : PySem.W.Frag} (c : SaysK tests fns K) : (decide (PySem.W.subIn K (.ref (He.ga K "BadShares")) (.type "ValueError") = some true)) = true := test2 c (l := ts3 K) 3 3 rfl rfl
theorem t79 {K : PySem.W.Frag} (c : SaysK tests fns K) : (decide (PySem.W.findIn K (.type "int") "__add__" = some (some (.builtin "int.__add__")))) = true := test2 c (l := ts3 K) 3 4 rfl rfl
theorem t80 {K : PySem.W.Frag} (c : SaysK tests fns K) : (decide (PySem.W.findIn K (.type "int") "__radd__" = some (some (.builtin "int.__radd__")))) = true := test2 c (l := ts3 K) 3 5 rfl rfl
theorem t81 {K : PySem.W.Frag} (c : SaysK tests fns K) : (decide (PySem.W.findIn K (.type "int") "__sub__" = some (some (.builtin "int.__sub__")))) = true := test2 c (l := ts3 K) 3 6 rfl rfl
theorem t82 {K : PySem.W.Frag} (c : SaysK tests fns K) : (decide (PySem.W.findIn K (.type "int") "__rsub__" = some (some (.builtin "int.__rsub__")))) = true := test2 c (l := ts3 K) 3 7 rfl rfl
theorem t83 {K : PySem.W.Frag} (c : SaysK tests fns K) : (decide (PySem.W.findIn K (.type "int") "__mul__" = some (some (.builtin "int.__mul__")))) = true := test2 c (l := ts3 K) 3 8 rfl rfl
theorem t84 {K : PySem.W.Frag} (c : SaysK tests fns K) : (decide (PySem.W.findIn K (.type "int") "__rmul__" = some (some (.builtin "int.__rmul__")))) = true := test2 c (l := ts3 K) 3 9 rfl rfl
theorem t85 {K : PySem.W.Frag} (c : SaysK tests fns K) : (PySem.W.selfFirst K (He.ga K "Ratio")) = true := test2 c (l := ts3 K) 3 10 rfl rfl
theorem t86 {K : PySem.W.Frag} (c : SaysK tests fns K) : (decide (PySem.W.subIn K (.ref (He.ga K "Ratio")) (.type "int") = some false)) = true := test2 c (l := ts3 K) 3 11 rfl rfl
theorem t87 {K : PySem.W.Frag} (c : SaysK tests fns K) : (decide (PySem.W.findIn K (.ref (He.ga K "Ratio")) "__add__" = some (some (.ref (He.ma K (He.ga K "Ratio") "__add__"))))) = true := test2 c (l := ts3 K) 3 12 rfl rfl
theorem t88 {K : PySem.W.Frag} (c : SaysK tests fns K) : (PySem.W.isFn K (.ref (He.ma K (He.ga K "Ratio") "__add__"))) = true := test2 c (l := ts3 K) 3 13 rfl rfl
theorem t89 {K : PySem.W.Frag} (c : SaysK tests fns K) : (decide (PySem.W.findIn K (.ref (He.ga K "Ratio")) "__radd__" = some (some (.ref (He.ma K (He.ga K "Ratio") "__radd__"))))) = true := test2 c (l := ts3 K) 3 14 rfl rfl
theorem t90 {K : PySem.W.Frag} (c : SaysK tests fns K) : (PySem.W.isFn K (.ref (He.ma K (He.ga K "Ratio") "__radd__"))) = true := test2 c (l := ts3 K) 3 15 rfl rfl
theorem t91 {K : PySem.W.Frag} (c : SaysK tests fns K) : (decide (PySem.W.findIn K (.ref (He.ga K "Ratio")) "__mul__" = some (some (.ref (He.ma K (He.ga K "Ratio") "__mul__"))))) = true := test2 c (l := ts3 K) 3 16 rfl rfl
theorem t92 {K : PySem.W.Frag} (c : SaysK tests fns K) : (PySem.W.isFn K (.ref (He.ma K (He.ga K "Ratio") "__mul__"))) = true := test2 c (l := ts3 K) 3 17 rfl rfl
theorem t93 {K : PySem.W.Frag} (c : SaysK tests fns K) : (decide (PySem.W.findIn K (.ref (He.ga K "Ratio")) "__rmul__" = some (some (.ref (He.ma K (He.ga K "Ratio") "__rmul__"))))) = true := test2 c (l := ts3 K) 3 18 rfl rfl
theorem t94 {K : PySem.W.Frag} (c : SaysK tests fns K) : (PySem.W.isFn K (.ref (He.ma K (He.ga K "Ratio") "__rmul__"))) = true := test2 c (l := ts3 K) 3 19 rfl rfl
theorem t95 {K : PySem.W.Frag} (c : SaysK tests fns K) : (decide (PySem.W.findIn K (.ref (He.ga K "Ratio")) "__lt__" = some (some (.ref (He.ma K (He.ga K "Ratio") "__lt__"))))) = true := test2 c (l := ts3 K) 3 20 rfl rfl
theorem t96 {K : PySem.W.Frag} (c : SaysK tests fns K) : (PySem.W.isFn K (.ref (He.ma K (He.ga K "Ratio") "__lt__"))) = true := test2 c (l := ts3 K) 3 21 rfl rfl
theorem t97 {K : PySem.W.Frag} (c : SaysK tests fns K) : (decide (PySem.W.findIn K (.ref (He.ga K "Ratio")) "__eq__" = some (some (.ref (He.ma K (He.ga K "Ratio") "__eq__"))))) = true := test2 c (l := ts3 K) 3 22 rfl rfl
theorem t98 {K : PySem.W.Frag} (c : SaysK tests fns K) : (PySem.W.isFn K (.ref (He.ma K (He.ga K "Ratio") "__eq__"))) = true := test2 c (l := ts3 K) 3 23 rfl rfl
theorem t99 {K : PySem.W.Frag} (c : SaysK tests fns K) : (decide (PySem.W.findIn K (.ref (He.ga K "Ratio")) "__ne__" = some (some (.builtin "object.__ne__")))) = true := test2 c (l := ts3 K) 3 24 rfl rfl
theorem t100 {K : PySem.W.Frag} (c : SaysK tests fns K) : (decide (PySem.W.nsIn K mainGlobals "Run" = some (some (.ref (He.ga K "Run"))))) = true := test2 c (l := ts4 K) 4 0 rfl rfl
theorem t101 {K : PySem.W.Frag} (c : SaysK tests fns K) : (PySem.W.plainGet K (He.ga K "Run") Str.empty) = true := test2 c (l := ts4 K) 4 1 rfl rfl
theorem t102 {K : PySem.W.Frag} (c : SaysK tests fns K) : (PySem.W.hasDictIn K (He.ga K "Run")) = true := test2 c (l := ts4 K) 4 2 rfl rfl
theorem t103 {K : PySem.W.Frag} (c : SaysK tests fns K) : (PySem.W.plainOver K (He.ga K "Run")) = true := test2 c (l := ts4 K) 4 3 rfl rfl
theorem t104 {K : PySem.W.Frag} (c : SaysK tests fns K) : (decide (PySem.W.findIn K (.ref (He.ga K "Run")) "__setattr__" = some (some (.builtin "object.__setattr__")))) = true := test2 c (l := ts4 K) 4 4 rfl rfl
theorem t105 {K : PySem.W.Frag} (c : SaysK tests fns K) : (PySem.W.makesIn K (He.ga K "Run")) = true := test2 c (l := ts4 K) 4 5 rfl rfl
theorem t106 {K : PySem.W.Frag} (c : SaysK tests fns K) : (PySem.W.keepIn K (.ref (He.ga K "Run"))) = true := test2 c (l := ts4 K) 4 6 rfl rfl
theorem t107 {K : PySem.W.Frag} (c : SaysK tests fns K) : (decide (PySem.W.findIn K (.ref (He.ga K "Run")) "first" = some none)) = true := test2 c (l := ts4 K) 4 7 rfl rfl
theorem t108 {K : PySem.W.Frag} (c : SaysK tests fns K) : (decide (PySem.W.findIn K (.ref (He.ga K "Run")) "step" = some none)) = true := test2 c (l := ts4 K) 4 8 rfl rfl
theorem t109 {K : PySem.W.Frag} (c : SaysK tests fns K) : (decide (PySem.W.findIn K (.ref (He.ga K "Run")) "count" = some none)) = true := test2 c (l := ts4 K) 4 9 rfl rfl
theorem t110 {K : PySem.W.Frag} (c : SaysK tests fns K) : (decide (PySem.W.findIn K (.ref (He.ga K "Run")) "__class__" = some (some (.builtin "object.__class__")))) = true := test2 c (l := ts4 K) 4 10 rfl rfl
theorem t111 {K : PySem.W.Frag} (c : SaysK tests fns K) : (decide (PySem.W.mroIn K (He.ga K "Run") (.type "object") = some true)) = true := test2 c (l := ts4 K) 4 11 rfl rfl
theorem t112 {K : PySem.W.Frag} (c : SaysK tests fns K) : (Kh.intB (PySem.W.nsIn K mainGlobals "MOST_STEP") 4) = true := test2 c (l := ts4 K) 4 12 rfl rfl
theorem t113 {K : PySem.W.Frag} (c : SaysK tests fns K) : (decide (PySem.W.findIn K (.ref (He.ga K "Run")) "__init__" = some (some (.ref (He.ma K (He.ga K "Run") "__init__"))))) = true := test2 c (l := ts4 K) 4 13 rfl rfl
theorem t114 {K : PySem.W.Frag} (c : SaysK tests fns K) : (PySem.W.isFn K (.ref (He.ma K (He.ga K "Run") "__init__"))) = true := test2 c (l := ts4 K) 4 14 rfl rfl
theorem t115 {K : PySem.W.Frag} (c : SaysK tests fns K) : (decide (PySem.W.findIn K (.ref (He.ga K "Run")) "below" = some (some (.ref (He.ma K (He.ga K "Run") "below"))))) = true := test2 c (l := ts4 K) 4 15 rfl rfl
theorem t116 {K : PySem.W.Frag} (c : SaysK tests fns K) : (PySem.W.isFn K (.ref (He.ma K (He.ga K "Run") "below"))) = true := test2 c (l := ts4 K) 4 16 rfl rfl
theorem t117 {K : PySem.W.Frag} (c : SaysK tests fns K) : (decide (PySem.W.findIn K (.ref (He.ga K "Run")) "above" = some (some (.ref (He.ma K (He.ga K "Run") "above"))))) = true := test2 c (l := ts4 K) 4 17 rfl rfl
theorem t118 {K : PySem.W.Frag} (c : SaysK tests fns K) : (PySem.W.isFn K (.ref (He.ma K (He.ga K "Run") "above"))) = true := test2 c (l := ts4 K) 4 18 rfl rfl
theorem t119 {K : PySem.W.Frag} (c : SaysK tests fns K) : (decide (PySem.W.findIn K (.ref (He.ga K "Run")) "__getitem__" = some (some (.ref (He.ma K (He.ga K "Run") "__getitem__"))))) = true := test2 c (l := ts4 K) 4 19 rfl rfl
theorem t120 {K : PySem.W.Frag} (c : SaysK tests fns K) : (PySem.W.isFn K (.ref (He.ma K (He.ga K "Run") "__getitem__"))) = true := test2 c (l := ts4 K) 4 20 rfl rfl
theorem t121 {K : PySem.W.Frag} (c : SaysK tests fns K) : (decide (PySem.W.findIn K (.ref (He.ga K "Run")) "last" = some (some (.ref (He.ma K (He.ga K "Run") "last"))))) = true := test2 c (l := ts4 K) 4 21 rfl rfl
theorem t122 {K : PySem.W.Frag} (c : SaysK tests fns K) : (decide (PySem.W.specialIn K (.ref (He.ma K (He.ga K "Run") "last")) "__get__" = some (some (.builtin "property.__get__")))) = true := test2 c (l := ts4 K) 4 22 rfl rfl
theorem t123 {K : PySem.W.Frag} (c : SaysK tests fns K) : (decide (PySem.W.takesIn K (.ref (He.ma K (He.ga K "Run") "last")) = some true)) = true := test2 c (l := ts4 K) 4 23 rfl rfl
theorem t124 {K : PySem.W.Frag} (c : SaysK tests fns K) : (decide (PySem.W.recIn K (He.ma K (He.ga K "Run") "last") "property" = some (.ref (Kh.r1 K (He.ma K (He.ga K "Run") "last") "property") :: (Kh.r2 K (He.ma K (He.ga K "Run") "last") "property")))) = true := test2 c (l := ts4 K) 4 24 rfl rfl
theorem t125 {K : PySem.W.Frag} (c : SaysK tests fns K) : (PySem.W.fnIn K (He.ma K (He.ga K "Run") "__getitem__")) = true := test2 c (l := ts5 K) 5 0 rfl rfl
theorem t126 {K : PySem.W.Frag} (c : SaysK tests fns K) : (PySem.W.readsIn K (He.ga K "Run") (.type "type")) = true := test2 c (l := ts5 K) 5 1 rfl rfl
theorem t127 {K : PySem.W.Frag} (c : SaysK tests fns K) : (decide (PySem.W.specialIn K (.ref (He.ga K "Run")) "__getattribute__" = some (some (.builtin "type.__getattribute__")))) = true := test2 c (l := ts5 K) 5 2 rfl rfl
theorem t128 {K : PySem.W.Frag} (c : SaysK tests fns K) : (Kh.cmB (PySem.W.findCls K (.ref (He.ga K "Run")) (.type "type") "point") (He.ga K "Run") (He.ma K (He.ga K "Run") "point")) = true := test2 c (l := ts5 K) 5 3 rfl rfl
theorem t129 {K : PySem.W.Frag} (c : SaysK tests fns K) : (decide (PySem.W.recIn K (He.ma K (He.ga K "Run") "point") "classmethod" = some (.ref (Kh.r1 K (He.ma K (He.ga K "Run") "point") "classmethod") :: (Kh.r2 K (He.ma K (He.ga K "Run") "point") "classmethod")))) = true := test2 c (l := ts5 K) 5 4 rfl rfl
theorem t130 {K : PySem.W.Frag} (c : SaysK tests fns K) : (PySem.W.fnIn K (Kh.r1 K (He.ma K (He.ga K "Run") "point") "classmethod")) = true := test2 c (l := ts5 K) 5 5 rfl rfl
theorem t131 {K : PySem.W.Frag} (c : SaysK tests fns K) : (Kh.intB (PySem.W.nsIn K mainGlobals "MOST_PARTS") 64) = true := test2 c (l := ts5 K) 5 6 rfl rfl
theorem t132 {K : PySem.W.Frag} (c : SaysK tests fns K) : (decide (PySem.W.nsIn K mainGlobals "Blend" = some (some (.ref (He.ga K "Blend"))))) = true := test2 c (l := ts5 K) 5 7 rfl rfl
theorem t133 {K : PySem.W.Frag} (c : SaysK tests fns K) : (PySem.W.plainGet K (He.ga K "Blend") Str.empty) = true := test2 c (l := ts5 K) 5 8 rfl rfl
theorem t134 {K : PySem.W.Frag} (c : SaysK tests fns K) : (PySem.W.hasDictIn K (He.ga K "Blend")) = true := test2 c (l := ts5 K) 5 9 rfl rfl
theorem t135 {K : PySem.W.Frag} (c : SaysK tests fns K) : (PySem.W.plainOver K (He.ga K "Blend")) = true := test2 c (l := ts5 K) 5 10 rfl rfl
theorem t136 {K : PySem.W.Frag} (c : SaysK tests fns K) : (decide (PySem.W.findIn K (.ref (He.ga K "Blend")) "__setattr__" = some (some (.builtin "object.__setattr__")))) = true := test2 c (l := ts5 K) 5 11 rfl rfl
theorem t137 {K : PySem.W.Frag} (c : SaysK tests fns K) : (PySem.W.makesIn K (He.ga K "Blend")) = true := test2 c (l := ts5 K) 5 12 rfl rfl
theorem t138 {K : PySem.W.Frag} (c : SaysK tests fns K) : (PySem.W.keepIn K (.ref (He.ga K "Blend"))) = true := test2 c (l := ts5 K) 5 13 rfl rfl
theorem t139 {K : PySem.W.Frag} (c : SaysK tests fns K) : (decide (PySem.W.findIn K (.ref (He.ga K "Blend")) "parts" = some none)) = true := test2 c (l := ts5 K) 5 14 rfl rfl
theorem t140 {K : PySem.W.Frag} (c : SaysK tests fns K) : (decide (PySem.W.findIn K (.ref (He.ga K "Blend")) "__class__" = some (some (.builtin "object.__class__")))) = true := test2 c (l := ts5 K) 5 15 rfl rfl
theorem t141 {K : PySem.W.Frag} (c : SaysK tests fns K) : (decide (PySem.W.mroIn K (He.ga K "Blend") (.type "object") = some true)) = true := test2 c (l := ts5 K) 5 16 rfl rfl
theorem t142 {K : PySem.W.Frag} (c : SaysK tests fns K) : (decide (PySem.W.findIn K (.ref (He.ga K "Blend")) "__init__" = some (some (.ref (He.ma K (He.ga K "Blend") "__init__"))))) = true := test2 c (l := ts5 K) 5 17 rfl rfl
theorem t143 {K : PySem.W.Frag} (c : SaysK tests fns K) : (PySem.W.isFn K (.ref (He.ma K (He.ga K "Blend") "__init__"))) = true := test2 c (l := ts5 K) 5 18 rfl rfl
theorem t144 {K : PySem.W.Frag} (c : SaysK tests fns K) : (decide (PySem.W.findIn K (.ref (He.ga K "Blend")) "__iter__" = some (some (.ref (He.ma K (He.ga K "Blend") "__iter__"))))) = true := test2 c (l := ts5 K) 5 19 rfl rfl
theorem t145 {K : PySem.W.Frag} (c : SaysK tests fns K) : (PySem.W.isFn K (.ref (He.ma K (He.ga K "Blend") "__iter__"))) = true := test2 c (l := ts5 K) 5 20 rfl rfl
theorem t146 {K : PySem.W.Frag} (c : SaysK tests fns K) : (PySem.W.readsIn K (He.ga K "Blend") (.type "type")) = true := test2 c (l := ts5 K) 5 21 rfl rfl
theorem t147 {K : PySem.W.Frag} (c : SaysK tests fns K) : (decide (PySem.W.specialIn K (.ref (He.ga K "Blend")) "__getattribute__" = some (some (.builtin "type.__getattribute__")))) = true := test2 c (l := ts5 K) 5 22 rfl rfl
theorem t148 {K : PySem.W.Frag} (c : SaysK tests fns K) : (Kh.cmB (PySem.W.findCls K (.ref (He.ga K "Blend")) (.type "type") "point") (He.ga K "Blend") (He.ma K (He.ga K "Blend") "point")) = true := test2 c (l := ts5 K) 5 23 rfl rfl
theorem t149 {K : PySem.W.Frag} (c : SaysK tests fns K) : (decide (PySem.W.recIn K (He.ma K (He.ga K "Blend") "point") "classmethod" = some (.ref (Kh.r1 K (He.ma K (He.ga K "Blend") "point") "classmethod") :: (Kh.r2 K (He.ma K (He.ga K "Blend") "point") "classmethod")))) = true := test2 c (l := ts5 K) 5 24 rfl rfl
theorem t150 {K : PySem.W.Frag} (c : SaysK tests fns K) : (PySem.W.fnIn K (Kh.r1 K (He.ma K (He.ga K "Blend") "point") "classmethod")) = true := test2 c (l := ts6 K) 6 0 rfl rfl
theorem t151 {K : PySem.W.Frag} (c : SaysK tests fns K) : (decide (PySem.W.nsIn K mainGlobals "_law_pool" = some (some (.ref (He.ga K "_law_pool"))))) = true := test2 c (l := ts6 K) 6 1 rfl rfl
theorem t152 {K : PySem.W.Frag} (c : SaysK tests fns K) : (decide (PySem.W.nsIn K mainGlobals "_law_mix" = some (some (.ref (He.ga K "_law_mix"))))) = true := test2 c (l := ts6 K) 6 2 rfl rfl
theorem t153 {K : PySem.W.Frag} (c : SaysK tests fns K) : (decide (PySem.W.nsIn K mainGlobals "_law_draw" = some (some (.ref (He.ga K "_law_draw"))))) = true := test2 c (l := ts6 K) 6 3 rfl rfl
theorem t154 {K : PySem.W.Frag} (c : SaysK tests fns K) : (decide (PySem.W.nsIn K mainGlobals "_law_wide" = some (some (.ref (He.ga K "_law_wide"))))) = true := test2 c (l := ts6 K) 6 4 rfl rfl
theorem t155 {K : PySem.W.Frag} (c : SaysK tests fns K) : (decide (PySem.W.nsIn K mainGlobals "_law_any" = some (some (.ref (He.ga K "_law_any"))))) = true := test2 c (l := ts6 K) 6 5 rfl rfl
theorem t156 {K : PySem.W.Frag} (c : SaysK tests fns K) : (decide (PySem.W.nsIn K mainGlobals "_law_whole" = some (some (.ref (He.ga K "_law_whole"))))) = true := test2 c (l := ts6 K) 6 6 rfl rfl
theorem t157 {K : PySem.W.Frag} (c : SaysK tests fns K) : (decide (PySem.W.nsIn K mainGlobals "_law_ratio" = some (some (.ref (He.ga K "_law_ratio"))))) = true := test2 c (l := ts6 K) 6 7 rfl rfl
theorem t158 {K : PySem.W.Frag} (c : SaysK tests fns K) : (decide (PySem.W.nsIn K mainGlobals "_law_same" = some (some (.ref (He.ga K "_law_same"))))) = true := test2 c (l := ts6 K) 6 8 rfl rfl
theorem t159 {K : PySem.W.Frag} (c : SaysK tests fns K) : (decide (PySem.W.nsIn K mainGlobals "_law_great_run" = some (some (.ref (He.ga K "_law_great_run"))))) = true := test2 c (l := ts6 K) 6 9 rfl rfl
theorem t160 {K : PySem.W.Frag} (c : SaysK tests fns K) : (decide (PySem.W.nsIn K mainGlobals "_law_last" = some (some (.ref (He.ga K "_law_last"))))) = true := test2 c (l := ts6 K) 6 10 rfl rfl
theorem t161 {K : PySem.W.Frag} (c : SaysK tests fns K) : (decide (PySem.W.nsIn K mainGlobals "_law_beside" = some (some (.ref (He.ga K "_law_beside"))))) = true := test2 c (l := ts6 K) 6 11 rfl rfl
theorem t162 {K : PySem.W.Frag} (c : SaysK tests fns K) : (decide (PySem.W.nsIn K mainGlobals "_law_upto" = some (some (.ref (He.ga K "_law_upto"))))) = true := test2 c (l := ts6 K) 6 12 rfl rfl
theorem t163 {K : PySem.W.Frag} (c : SaysK tests fns K) : (decide (PySem.W.nsIn K mainGlobals "_law_won" = some (some (.ref (He.ga K "_law_won"))))) = true := test2 c (l := ts6 K) 6 13 rfl rfl
theorem t164 {K : PySem.W.Frag} (c : SaysK tests fns K) : (decide (PySem.W.nsIn K mainGlobals "_law_held" = some (some (.ref (He.ga K "_law_held"))))) = true := test2 c (l := ts6 K) 6 14 rfl rfl
theorem t165 {K : PySem.W.Frag} (c : SaysK tests fns K) : (decide (PySem.W.nsIn K mainGlobals "_law_parts" = some (some (.ref (He.ga K "_law_parts"))))) = true := test2 c (l := ts6 K) 6 15 rfl rfl
theorem t166 {K : PySem.W.Frag} (c : SaysK tests fns K) : (decide (PySem.W.nsIn K mainGlobals "_law_weights" = some (some (.ref (He.ga K "_law_weights"))))) = true := test2 c (l := ts6 K) 6 16 rfl rfl
theorem t167 {K : PySem.W.Frag} (c : SaysK tests fns K) : (decide (PySem.W.nsIn K mainGlobals "_law_blend" = some (some (.ref (He.ga K "_law_blend"))))) = true := test2 c (l := ts6 K) 6 17 rfl rfl
theorem t168 {K : PySem.W.Frag} (c : SaysK tests fns K) : (decide (PySem.W.nsIn K mainGlobals "_law_sum" = some (some (.ref (He.ga K "_law_sum"))))) = true := test2 c (l := ts6 K) 6 18 rfl rfl
theorem t169 {K : PySem.W.Frag} (c : SaysK tests fns K) : (decide (PySem.W.nsIn K mainGlobals "_law_listed" = some (some (.ref (He.ga K "_law_listed"))))) = true := test2 c (l := ts6 K) 6 19 rfl rfl
theorem t170 {K : PySem.W.Frag} (c : SaysK tests fns K) : (decide (PySem.W.nsIn K mainGlobals "_law_lot" = some (some (.ref (He.ga K "_law_lot"))))) = true := test2 c (l := ts6 K) 6 20 rfl rfl
theorem t171 {K : PySem.W.Frag} (c : SaysK tests fns K) : (decide (PySem.W.nsIn K mainGlobals "_law_by_walk" = some (some (.ref (He.ga K "_law_by_walk"))))) = true := test2 c (l := ts6 K) 6 21 rfl rfl
theorem t172 {K : PySem.W.Frag} (c : SaysK tests fns K) : (decide (PySem.W.nsIn K mainGlobals "_law_by_runs" = some (some (.ref (He.ga K "_law_by_runs"))))) = true := test2 c (l := ts6 K) 6 22 rfl rfl
theorem t173 {K : PySem.W.Frag} (c : SaysK tests fns K) : (decide (PySem.W.nsIn K mainGlobals "_law_rule_refused" = some (some (.ref (He.ga K "_law_rule_refused"))))) = true := test2 c (l := ts6 K) 6 23 rfl rfl
theorem t174 {K : PySem.W.Frag} (c : SaysK tests fns K) : (decide (PySem.W.nsIn K mainGlobals "_law_long_row" = some (some (.ref (He.ga K "_law_long_row"))))) = true := test2 c (l := ts6 K) 6 24 rfl rfl
theorem t175 {K : PySem.W.Frag} (c : SaysK tests fns K) : (decide (PySem.W.nsIn K mainGlobals "check_ties" = some (some (.ref (He.ga K "check_ties"))))) = true := test2 c (l := ts7 K) 7 0 rfl rfl
theorem t176 {K : PySem.W.Frag} (c : SaysK tests fns K) : (decide (PySem.W.nsIn K mainGlobals "_check_floor_sum" = some (some (.ref (He.ga K "_check_floor_sum"))))) = true := test2 c (l := ts7 K) 7 1 rfl rfl
theorem t177 {K : PySem.W.Frag} (c : SaysK tests fns K) : (decide (PySem.W.nsIn K mainGlobals "floor_sum" = some (some (.ref (He.ga K "floor_sum"))))) = true := test2 c (l := ts7 K) 7 2 rfl rfl
theorem t178 {K : PySem.W.Frag} (c : SaysK tests fns K) : (decide (PySem.W.nsIn K mainGlobals "pairs_above" = some (some (.ref (He.ga K "pairs_above"))))) = true := test2 c (l := ts7 K) 7 3 rfl rfl
theorem t179 {K : PySem.W.Frag} (c : SaysK tests fns K) : (decide (PySem.W.nsIn K mainGlobals "pairs_alike" = some (some (.ref (He.ga K "pairs_alike"))))) = true := test2 c (l := ts7 K) 7 4 rfl rfl
theorem t180 {K : PySem.W.Frag} (c : SaysK tests fns K) : (decide (PySem.W.nsIn K mainGlobals "is_number" = some (some (.ref (He.ga K "is_number"))))) = true := test2 c (l := ts7 K) 7 5 rfl rfl
theorem t181 {K : PySem.W.Frag} (c : SaysK tests fns K) : (decide (PySem.W.nsIn K mainGlobals "as_ratio" = some (some (.ref (He.ga K "as_ratio"))))) = true := test2 c (l := ts7 K) 7 6 rfl rfl
theorem t182 {K : PySem.W.Frag} (c : SaysK tests fns K) : (decide (PySem.W.nsIn K mainGlobals "_top_of" = some (some (.ref (He.ga K "_top_of"))))) = true := test2 c (l := ts7 K) 7 7 rfl rfl
theorem t183 {K : PySem.W.Frag} (c : SaysK tests fns K) : (decide (PySem.W.nsIn K mainGlobals "_under_of" = some (some (.ref (He.ga K "_under_of"))))) = true := test2 c (l := ts7 K) 7 8 rfl rfl
theorem t184 {K : PySem.W.Frag} (c : SaysK tests fns K) : (decide (PySem.W.nsIn K mainGlobals "added" = some (some (.ref (He.ga K "added"))))) = true := test2 c (l := ts7 K) 7 9 rfl rfl
theorem t185 {K : PySem.W.Frag} (c : SaysK tests fns K) : (decide (PySem.W.nsIn K mainGlobals "check_parts" = some (some (.ref (He.ga K "check_parts"))))) = true := test2 c (l := ts7 K) 7 10 rfl rfl
theorem t186 {K : PySem.W.Frag} (c : SaysK tests fns K) : (decide (PySem.W.nsIn K mainGlobals "put_together" = some (some (.ref (He.ga K "put_together"))))) = true := test2 c (l := ts7 K) 7 11 rfl rfl
theorem t187 {K : PySem.W.Frag} (c : SaysK tests fns K) : (decide (PySem.W.nsIn K mainGlobals "run_gain" = some (some (.ref (He.ga K "run_gain"))))) = true := test2 c (l := ts7 K) 7 12 rfl rfl
theorem t188 {K : PySem.W.Frag} (c : SaysK tests fns K) : (decide (PySem.W.nsIn K mainGlobals "meet" = some (some (.ref (He.ga K "meet"))))) = true := test2 c (l := ts7 K) 7 13 rfl rfl
theorem t189 {K : PySem.W.Frag} (c : SaysK tests fns K) : (decide (PySem.W.nsIn K mainGlobals "law" = some (some (.ref (He.ga K "law"))))) = true := test2 c (l := ts7 K) 7 14 rfl rfl
abbrev R : PySem.W.OpenRow := PySem.W.OpenLaw.row PySem.Challenge.rw_fieldlots_k15_meet_is_the_average
abbrev qv : Program := PySem.W.view R.prog [0, 62]
def names0 : List Str := ["_wall", "__name__", "LotError", "ZeroUnder", "BadNumber", "BadShares", "NoPlace", "TooMany", "check_ties", "MOST_POWER", "is_number", "as_ratio", "added", "_top_of", "_under_of", "_rounded_quotient", "_remainder", "Ratio", "MOST_STEP", "Run", "lead", "_check_floor_sum", "floor_sum", "pairs_above", "pairs_alike", "run_gain", "MOST_PARTS", "check_parts", "put_together", "Blend"]
def names1 : List Str := ["meet", "_law_pool", "_law_mix", "_law_draw", "_law_wide", "_law_any", "_law_whole", "_law_ratio", "_law_same", "_law_great_run", "_law_last", "_law_beside", "_law_held", "_law_upto", "_law_won", "_law_parts", "_law_weights", "_law_blend", "_law_sum", "_law_listed", "_law_lot", "_law_by_walk", "_law_by_runs", "_law_rule_refused", "_law_long_row"]
def names : List Str := names0 ++ names1
abbrev hk : PySem.W.Hook := hookK 1200 tests fns
def ob (s : PySem.W.SharedT) : Ob := obF 1200 tests fns s
theorem ob_eq (s : PySem.W.SharedT) : ob s = hk.obs s.abs := obF_eq s
theorem run (w : World) : HandSHeadRun.RunEqI R qv hk ob 20000 names w := by
  unfold HandSHeadRun.RunEqI
  kernel_rfl
theorem facts {w : World} {K : PySem.W.Frag} {h : Heap} {mg : Str → Option Value} {fa : Addr} (X : K.In h) (G : h.Ns mainGlobals mg) (hfa : mg ("law" : Str) = some (.ref fa)) (c : SaysK tests fns K) :
    ∃ fd : FuncData, (∀ (s : Shared) (v : Value), BindsTo s fd ⟨[v], []⟩ [("_law_script", v)]) ∧ ∀ base : Heap, K.In base → base.Ns mainGlobals mg → FnOk (PySem.Challenge.rw_fieldlots_k15_meet_is_the_average).prog w K mg base CX0 9 fa fd ["_law_script"] (L.spLaw K) := by
  obtain ⟨h0, e0⟩ := c.def_ (d := fd0) 0 rfl
  obtain ⟨_, _, dV0, kV0, _, _, _, _, _, _, l0, c0, k0, v0, w0⟩ := Fd.get h0 e0
  obtain ⟨_, _, _, _, _, _, rfl, lD0⟩ := dfl_one v0
  obtain ⟨_, _, _, _, _, _, _, _, _, _, _, _, _, _, x38⟩ := Kh.pxB_ok (t38 c)
  obtain ⟨h1, e1⟩ := c.def_ (d := fd1) 1 rfl
  obtain ⟨_, _, dV1, kV1, _, _, _, _, _, _, l1, c1, k1, v1, w1⟩ := Fd.get h1 e1
  cases dfl_nil v1
  obtain ⟨h2, e2⟩ := c.def_ (d := fd2) 2 rfl
  obtain ⟨_, _, dV2, kV2, _, _, _, _, _, _, l2, c2, k2, v2, w2⟩ := Fd.get h2 e2
  cases dfl_nil v2
  obtain ⟨h3, e3⟩ := c.def_ (d := fd3) 3 rfl
  obtain ⟨_, _, dV3, kV3, _, _, _, _, _, _, l3, c3, k3, v3, w3⟩ := Fd.get h3 e3
  cases dfl_nil v3
  obtain ⟨h4, e4⟩ := c.def_ (d := fd4) 4 rfl
  obtain ⟨_, _, dV4, kV4, _, _, _, _, _, _, l4, c4, k4, v4, w4⟩ := Fd.get h4 e4
  cases dfl_nil v4
  obtain ⟨h5, e5⟩ := c.def_ (d := fd5) 5 rfl
  obtain ⟨_, _, dV5, kV5, _, _, _, _, _, _, l5, c5, k5, v5, w5⟩ := Fd.get h5 e5
  cases dfl_nil v5
  obtain ⟨h6, e6⟩ := c.def_ (d := fd6) 6 rfl
  obtain ⟨_, _, dV6, kV6, _, _, _, _, _, _, l6, c6, k6, v6, w6⟩ := Fd.get h6 e6
  cases dfl_nil v6
  obtain ⟨h7, e7⟩ := c.def_ (d := fd7) 7 rfl
  obtain ⟨_, _, dV7, kV7, _, _, _, _, _, _, l7, c7, k7, v7, w7⟩ := Fd.get h7 e7
  cases dfl_nil v7
  obtain ⟨_, x112⟩ := Kh.intB_ok (t112 c)
  obtain ⟨h8, e8⟩ := c.def_ (d := fd8) 8 rfl
  obtain ⟨_, _, dV8, kV8, _, _, _, _, _, _, l8, c8, k8, v8, w8⟩ := Fd.get h8 e8
  cases dfl_nil v8
  obtain ⟨h9, e9⟩ := c.def_ (d := fd9) 9 rfl
  obtain ⟨_, _, dV9, kV9, _, _, _, _, _, _, l9, c9, k9, v9, w9⟩ := Fd.get h9 e9
  cases dfl_nil v9
  obtain ⟨h10, e10⟩ := c.def_ (d := fd10) 10 rfl
  obtain ⟨_, _, dV10, kV10, _, _, _, _, _, _, l10, c10, k10, v10, w10⟩ := Fd.get h10 e10
  cases dfl_nil v10
  obtain ⟨h11, e11⟩ := c.def_ (d := fd11) 11 rfl
  obtain ⟨_, _, dV11, kV11, _, _, _, _, _, _, l11, c11, k11, v11, w11⟩ := Fd.get h11 e11
  cases dfl_nil v11
  obtain ⟨h12, e12⟩ := c.def_ (d := fd12) 12 rfl
  obtain ⟨_, _, dV12, kV12, _, _, _, _, _, _, l12, c12, k12, v12, w12⟩ := Fd.get h12 e12
  cases dfl_nil v12
  obtain ⟨h13, e13⟩ := c.def_ (d := fd13) 13 rfl
  obtain ⟨_, _, dV13, kV13, _, _, _, _, _, _, l13, c13, k13, v13, w13⟩ := Fd.get h13 e13
  cases dfl_nil v13
  obtain ⟨_, x131⟩ := Kh.intB_ok (t131 c)
  obtain ⟨h14, e14⟩ := c.def_ (d := fd14) 14 rfl
  obtain ⟨_, _, dV14, kV14, _, _, _, _, _, _, l14, c14, k14, v14, w14⟩ := Fd.get h14 e14
  cases dfl_nil v14
  obtain ⟨h15, e15⟩ := c.def_ (d := fd15) 15 rfl
  obtain ⟨_, _, dV15, kV15, _, _, _, _, _, _, l15, c15, k15, v15, w15⟩ := Fd.get h15 e15
  cases dfl_nil v15
  obtain ⟨h16, e16⟩ := c.def_ (d := fd16) 16 rfl
  obtain ⟨_, _, dV16, kV16, _, _, _, _, _, _, l16, c16, k16, v16, w16⟩ := Fd.get h16 e16
  cases dfl_nil v16
  obtain ⟨h17, e17⟩ := c.def_ (d := fd17) 17 rfl
  obtain ⟨_, _, dV17, kV17, _, _, _, _, _, _, l17, c17, k17, v17, w17⟩ := Fd.get h17 e17
  cases dfl_nil v17
  obtain ⟨h18, e18⟩ := c.def_ (d := fd18) 18 rfl
  obtain ⟨_, _, dV18, kV18, _, _, _, _, _, _, l18, c18, k18, v18, w18⟩ := Fd.get h18 e18
  cases dfl_nil v18
  obtain ⟨h19, e19⟩ := c.def_ (d := fd19) 19 rfl
  obtain ⟨_, _, dV19, kV19, _, _, _, _, _, _, l19, c19, k19, v19, w19⟩ := Fd.get h19 e19
  cases dfl_nil v19
  obtain ⟨h20, e20⟩ := c.def_ (d := fd20) 20 rfl
  obtain ⟨_, _, dV20, kV20, _, _, _, _, _, _, l20, c20, k20, v20, w20⟩ := Fd.get h20 e20
  cases dfl_nil v20
  obtain ⟨h21, e21⟩ := c.def_ (d := fd21) 21 rfl
  obtain ⟨_, _, dV21, kV21, _, _, _, _, _, _, l21, c21, k21, v21, w21⟩ := Fd.get h21 e21
  cases dfl_nil v21
  obtain ⟨h22, e22⟩ := c.def_ (d := fd22) 22 rfl
  obtain ⟨_, _, dV22, kV22, _, _, _, _, _, _, l22, c22, k22, v22, w22⟩ := Fd.get h22 e22
  cases dfl_nil v22
  obtain ⟨h23, e23⟩ := c.def_ (d := fd23) 23 rfl
  obtain ⟨_, _, dV23, kV23, _, _, _, _, _, _, l23, c23, k23, v23, w23⟩ := Fd.get h23 e23
  cases dfl_nil v23
  obtain ⟨h24, e24⟩ := c.def_ (d := fd24) 24 rfl
  obtain ⟨_, _, dV24, kV24, _, _, _, _, _, _, l24, c24, k24, v24, w24⟩ := Fd.get h24 e24
  cases dfl_nil v24
  obtain ⟨h25, e25⟩ := c.def_ (d := fd25) 25 rfl
  obtain ⟨_, _, dV25, kV25, _, _, _, _, _, _, l25, c25, k25, v25, w25⟩ := Fd.get h25 e25
  cases dfl_nil v25
  obtain ⟨h26, e26⟩ := c.def_ (d := fd26) 26 rfl
  obtain ⟨_, _, dV26, kV26, _, _, _, _, _, _, l26, c26, k26, v26, w26⟩ := Fd.get h26 e26
  cases dfl_nil v26
  obtain ⟨h27, e27⟩ := c.def_ (d := fd27) 27 rfl
  obtain ⟨_, _, dV27, kV27, _, _, _, _, _, _, l27, c27, k27, v27, w27⟩ := Fd.get h27 e27
  cases dfl_nil v27
  obtain ⟨h28, e28⟩ := c.def_ (d := fd28) 28 rfl
  obtain ⟨_, _, dV28, kV28, _, _, _, _, _, _, l28, c28, k28, v28, w28⟩ := Fd.get h28 e28
  cases dfl_nil v28
  obtain ⟨h29, e29⟩ := c.def_ (d := fd29) 29 rfl
  obtain ⟨_, _, dV29, kV29, _, _, _, _, _, _, l29, c29, k29, v29, w29⟩ := Fd.get h29 e29
  cases dfl_nil v29
  obtain ⟨h30, e30⟩ := c.def_ (d := fd30) 30 rfl
  obtain ⟨_, _, dV30, kV30, _, _, _, _, _, _, l30, c30, k30, v30, w30⟩ := Fd.get h30 e30
  cases dfl_nil v30
  obtain ⟨h31, e31⟩ := c.def_ (d := fd31) 31 rfl
  obtain ⟨_, _, dV31, kV31, _, _, _, _, _, _, l31, c31, k31, v31, w31⟩ := Fd.get h31 e31
  cases dfl_nil v31
  obtain ⟨h32, e32⟩ := c.def_ (d := fd32) 32 rfl
  obtain ⟨_, _, dV32, kV32, _, _, _, _, _, _, l32, c32, k32, v32, w32⟩ := Fd.get h32 e32
  cases dfl_nil v32
  obtain ⟨h33, e33⟩ := c.def_ (d := fd33) 33 rfl
  obtain ⟨_, _, dV33, kV33, _, _, _, _, _, _, l33, c33, k33, v33, w33⟩ := Fd.get h33 e33
  cases dfl_nil v33
  obtain ⟨h34, e34⟩ := c.def_ (d := fd34) 34 rfl
  obtain ⟨_, _, dV34, kV34, _, _, _, _, _, _, l34, c34, k34, v34, w34⟩ := Fd.get h34 e34
  cases dfl_nil v34
  obtain ⟨h35, e35⟩ := c.def_ (d := fd35) 35 rfl
  obtain ⟨_, _, dV35, kV35, _, _, _, _, _, _, l35, c35, k35, v35, w35⟩ := Fd.get h35 e35
  cases dfl_nil v35
  obtain ⟨h36, e36⟩ := c.def_ (d := fd36) 36 rfl
  obtain ⟨_, _, dV36, kV36, _, _, _, _, _, _, l36, c36, k36, v36, w36⟩ := Fd.get h36 e36
  cases dfl_nil v36
  obtain ⟨h37, e37⟩ := c.def_ (d := fd37) 37 rfl
  obtain ⟨_, _, dV37, kV37, _, _, _, _, _, _, l37, c37, k37, v37, w37⟩ := Fd.get h37 e37
  cases dfl_nil v37
  obtain ⟨h38, e38⟩ := c.def_ (d := fd38) 38 rfl
  obtain ⟨_, _, dV38, kV38, _, _, _, _, _, _, l38, c38, k38, v38, w38⟩ := Fd.get h38 e38
  cases dfl_nil v38
  obtain ⟨h39, e39⟩ := c.def_ (d := fd39) 39 rfl
  obtain ⟨_, _, dV39, kV39, _, _, _, _, _, _, l39, c39, k39, v39, w39⟩ := Fd.get h39 e39
  cases dfl_nil v39
  obtain ⟨h40, e40⟩ := c.def_ (d := fd40) 40 rfl
  obtain ⟨_, _, dV40, kV40, _, _, _, _, _, _, l40, c40, k40, v40, w40⟩ := Fd.get h40 e40
  cases dfl_nil v40
  obtain ⟨h41, e41⟩ := c.def_ (d := fd41) 41 rfl
  obtain ⟨_, _, dV41, kV41, _, _, _, _, _, _, l41, c41, k41, v41, w41⟩ := Fd.get h41 e41
  cases dfl_nil v41
  obtain ⟨h42, e42⟩ := c.def_ (d := fd42) 42 rfl
  obtain ⟨_, _, dV42, kV42, _, _, _, _, _, _, l42, c42, k42, v42, w42⟩ := Fd.get h42 e42
  cases dfl_nil v42
  obtain ⟨h43, e43⟩ := c.def_ (d := fd43) 43 rfl
  obtain ⟨_, _, dV43, kV43, _, _, _, _, _, _, l43, c43, k43, v43, w43⟩ := Fd.get h43 e43
  cases dfl_nil v43
  obtain ⟨h44, e44⟩ := c.def_ (d := fd44) 44 rfl
  obtain ⟨_, _, dV44, kV44, _, _, _, _, _, _, l44, c44, k44, v44, w44⟩ := Fd.get h44 e44
  cases dfl_nil v44
  obtain ⟨h45, e45⟩ := c.def_ (d := fd45) 45 rfl
  obtain ⟨_, _, dV45, kV45, _, _, _, _, _, _, l45, c45, k45, v45, w45⟩ := Fd.get h45 e45
  cases dfl_nil v45
  obtain ⟨h46, e46⟩ := c.def_ (d := fd46) 46 rfl
  obtain ⟨_, _, dV46, kV46, _, _, _, _, _, _, l46, c46, k46, v46, w46⟩ := Fd.get h46 e46
  cases dfl_nil v46
  obtain ⟨h47, e47⟩ := c.def_ (d := fd47) 47 rfl
  obtain ⟨_, _, dV47, kV47, _, _, _, _, _, _, l47, c47, k47, v47, w47⟩ := Fd.get h47 e47
  cases dfl_nil v47
  obtain ⟨h48, e48⟩ := c.def_ (d := fd48) 48 rfl
  obtain ⟨_, _, dV48, kV48, _, _, _, _, _, _, l48, c48, k48, v48, w48⟩ := Fd.get h48 e48
  cases dfl_nil v48
  obtain ⟨h49, e49⟩ := c.def_ (d := fd49) 49 rfl
  obtain ⟨_, _, dV49, kV49, _, _, _, _, _, _, l49, c49, k49, v49, w49⟩ := Fd.get h49 e49
  cases dfl_nil v49
  obtain ⟨h50, e50⟩ := c.def_ (d := fd50) 50 rfl
  obtain ⟨_, _, dV50, kV50, _, _, _, _, _, _, l50, c50, k50, v50, w50⟩ := Fd.get h50 e50
  cases dfl_nil v50
  obtain ⟨h51, e51⟩ := c.def_ (d := fd51) 51 rfl
  obtain ⟨_, _, dV51, kV51, _, _, _, _, _, _, l51, c51, k51, v51, w51⟩ := Fd.get h51 e51
  cases dfl_nil v51
  obtain ⟨h52, e52⟩ := c.def_ (d := fd52) 52 rfl
  obtain ⟨_, _, dV52, kV52, _, _, _, _, _, _, l52, c52, k52, v52, w52⟩ := Fd.get h52 e52
  cases dfl_nil v52
  obtain ⟨h53, e53⟩ := c.def_ (d := fd53) 53 rfl
  obtain ⟨_, _, dV53, kV53, _, _, _, _, _, _, l53, c53, k53, v53, w53⟩ := Fd.get h53 e53
  cases dfl_nil v53
  obtain ⟨_, _, rfl, n53⟩ := kwd_ties w53
  obtain ⟨h54, e54⟩ := c.def_ (d := fd54) 54 rfl
  obtain ⟨_, _, dV54, kV54, _, _, _, _, _, _, l54, c54, k54, v54, w54⟩ := Fd.get h54 e54
  cases dfl_nil v54
  obtain ⟨_, _, rfl, n54⟩ := kwd_ties w54
  obtain ⟨h55, e55⟩ := c.def_ (d := fd55) 55 rfl
  obtain ⟨_, _, dV55, kV55, _, _, _, _, _, _, l55, c55, k55, v55, w55⟩ := Fd.get h55 e55
  cases dfl_nil v55
  exact L.all_mk (l := PySem.Challenge.rw_fieldlots_k15_meet_is_the_average) X G hfa (of_decide_eq_true (t0 c)) (of_decide_eq_true (t1 c)) (of_decide_eq_true (t2 c)) (of_decide_eq_true (t3 c)) (of_decide_eq_true (t4 c)) (of_decide_eq_true (t5 c)) (of_decide_eq_true (t6 c)) (of_decide_eq_true (t7 c)) (of_decide_eq_true (t8 c)) (of_decide_eq_true (t9 c)) (of_decide_eq_true (t10 c)) (of_decide_eq_true (t11 c)) (of_decide_eq_true (t12 c)) (of_decide_eq_true (t13 c)) (of_decide_eq_true (t14 c)) (of_decide_eq_true (t15 c)) (of_decide_eq_true (t16 c)) (t17 c) (t18 c) (t19 c) (of_decide_eq_true (t20 c)) (t21 c) (t22 c) (of_decide_eq_true (t23 c)) (of_decide_eq_true (t24 c)) (of_decide_eq_true (t25 c)) (of_decide_eq_true (t26 c)) (of_decide_eq_true (t27 c)) (of_decide_eq_true (t28 c)) (of_decide_eq_true (t29 c)) (of_decide_eq_true (t30 c)) (of_decide_eq_true (t31 c)) (t32 c) l0 c0 k0 lD0 (of_decide_eq_true (t33 c)) (of_decide_eq_true (t34 c)) (t35 c) (of_decide_eq_true (t36 c)) (of_decide_eq_true (t37 c)) x38 (of_decide_eq_true (t39 c)) (t40 c) (of_decide_eq_true (t41 c)) (of_decide_eq_true (t42 c)) (of_decide_eq_true (t43 c)) (of_decide_eq_true (t44 c)) (of_decide_eq_true (t45 c)) (t46 c) (of_decide_eq_true (t47 c)) (of_decide_eq_true (t48 c)) (of_decide_eq_true (t49 c)) (of_decide_eq_true (t50 c)) (of_decide_eq_true (t51 c)) (of_decide_eq_true (t52 c)) (of_decide_eq_true (t53 c)) l1 c1 k1 (of_decide_eq_true (t54 c)) (by decide +kernel) (of_decide_eq_true (t55 c)) (t56 c) (t57 c) (of_decide_eq_true (t58 c)) (of_decide_eq_true (t59 c)) (of_decide_eq_true (t60 c)) (of_decide_eq_true (t61 c)) (of_decide_eq_true (t62 c)) (t63 c) (of_decide_eq_true (t64 c)) (of_decide_eq_true (t65 c)) (of_decide_eq_true (t66 c)) (of_decide_eq_true (t67 c)) (t68 c) (t69 c) (of_decide_eq_true (t70 c)) (of_decide_eq_true (t71 c)) (of_decide_eq_true (t72 c)) (of_decide_eq_true (t73 c)) (of_decide_eq_true (t74 c)) (t75 c) (of_decide_eq_true (t76 c)) (of_decide_eq_true (t77 c)) (of_decide_eq_true (t78 c)) (of_decide_eq_true (t79 c)) (of_decide_eq_true (t80 c)) (of_decide_eq_true (t81 c)) (of_decide_eq_true (t82 c)) (of_decide_eq_true (t83 c)) (of_decide_eq_true (t84 c)) (t85 c) (of_decide_eq_true (t86 c)) (by decide +kernel) (of_decide_eq_true (t87 c)) (t88 c) l2 c2 k2 (of_decide_eq_true (t89 c)) (t90 c) l3 c3 k3 (of_decide_eq_true (t91 c)) (t92 c) l4 c4 k4 (of_decide_eq_true (t93 c)) (t94 c) l5 c5 k5 (of_decide_eq_true (t95 c)) (t96 c) l6 c6 k6 (of_decide_eq_true (t97 c)) (t98 c) l7 c7 k7 (of_decide_eq_true (t99 c)) (of_decide_eq_true (t100 c)) (t101 c) (t102 c) (t103 c) (of_decide_eq_true (t104 c)) (t105 c) (t106 c) (of_decide_eq_true (t107 c)) (of_decide_eq_true (t108 c)) (of_decide_eq_true (t109 c)) (of_decide_eq_true (t110 c)) (of_decide_eq_true (t111 c)) x112 (of_decide_eq_true (t113 c)) (t114 c) l8 c8 k8 (of_decide_eq_true (t115 c)) (t116 c) l9 c9 k9 (of_decide_eq_true (t117 c)) (t118 c) l10 c10 k10 (of_decide_eq_true (t119 c)) (t120 c) l11 c11 k11 (of_decide_eq_true (t121 c)) (of_decide_eq_true (t122 c)) (of_decide_eq_true (t123 c)) (of_decide_eq_true (t124 c)) l12 c12 k12 (t125 c) (t126 c) (of_decide_eq_true (t127 c)) (Kh.cmB_ok (t128 c)) (of_decide_eq_true (t129 c)) (t130 c) l13 c13 k13 x131 (of_decide_eq_true (t132 c)) (t133 c) (t134 c) (t135 c) (of_decide_eq_true (t136 c)) (t137 c) (t138 c) (of_decide_eq_true (t139 c)) (of_decide_eq_true (t140 c)) (of_decide_eq_true (t141 c)) (of_decide_eq_true (t142 c)) (t143 c) l14 c14 k14 (of_decide_eq_true (t144 c)) (t145 c) l15 c15 k15 (t146 c) (of_decide_eq_true (t147 c)) (Kh.cmB_ok (t148 c)) (of_decide_eq_true (t149 c)) (t150 c) l16 c16 k16 (of_decide_eq_true (t151 c)) l17 c17 k17 (of_decide_eq_true (t152 c)) l18 c18 k18 (of_decide_eq_true (t153 c)) l19 c19 k19 (of_decide_eq_true (t154 c)) l20 c20 k20 (of_decide_eq_true (t155 c)) l21 c21 k21 (of_decide_eq_true (t156 c)) l22 c22 k22 (of_decide_eq_true (t157 c)) l23 c23 k23 (of_decide_eq_true (t158 c)) l24 c24 k24 (of_decide_eq_true (t159 c)) l25 c25 k25 (of_decide_eq_true (t160 c)) l26 c26 k26 (of_decide_eq_true (t161 c)) l27 c27 k27 (of_decide_eq_true (t162 c)) l28 c28 k28 (of_decide_eq_true (t163 c)) l29 c29 k29 (of_decide_eq_true (t164 c)) l30 c30 k30 (of_decide_eq_true (t165 c)) l31 c31 k31 (of_decide_eq_true (t166 c)) l32 c32 k32 (of_decide_eq_true (t167 c)) l33 c33 k33 (of_decide_eq_true (t168 c)) l34 c34 k34 (of_decide_eq_true (t169 c)) l35 c35 k35 (of_decide_eq_true (t170 c)) l36 c36 k36 (of_decide_eq_true (t171 c)) l37 c37 k37 (of_decide_eq_true (t172 c)) l38 c38 k38 (of_decide_eq_true (t173 c)) l39 c39 k39 (of_decide_eq_true (t174 c)) l40 c40 k40 (of_decide_eq_true (t175 c)) l41 c41 k41 (of_decide_eq_true (t176 c)) l42 c42 k42 (of_decide_eq_true (t177 c)) l43 c43 k43 (of_decide_eq_true (t178 c)) l44 c44 k44 (of_decide_eq_true (t179 c)) l45 c45 k45 (of_decide_eq_true (t180 c)) l46 c46 k46 (of_decide_eq_true (t181 c)) l47 c47 k47 (of_decide_eq_true (t182 c)) l48 c48 k48 (of_decide_eq_true (t183 c)) l49 c49 k49 (of_decide_eq_true (t184 c)) l50 c50 k50 (of_decide_eq_true (t185 c)) l51 c51 k51 (of_decide_eq_true (t186 c)) l52 c52 k52 (of_decide_eq_true (t187 c)) l53 c53 k53 n53 (of_decide_eq_true (t188 c)) l54 c54 k54 n54 (of_decide_eq_true (t189 c)) l55 c55 k55
end Kh
open PySem PySem.W PyProof.Rows
theorem PySem.Challenge.cw_fieldlots_k15_meet_is_the_average_holds : PySem.Challenge.rw_fieldlots_k15_meet_is_the_average.Holds := by
  w_on; o_law
  refine HandSHeadRun.head_imp (r := OpenLaw.row PySem.Challenge.rw_fieldlots_k15_meet_is_the_average) (q := view (OpenLaw.row PySem.Challenge.rw_fieldlots_k15_meet_is_the_average).prog [0, 62]) (H := Kh.hk) (ob := Kh.ob) (M := 20000) (loose := Kh.names) (d := HandSHeadRun.topDef (OpenLaw.row PySem.Challenge.rw_fieldlots_k15_meet_is_the_average).prog 62) (kwd := []) Kh.ob_eq
    Kh.run (by kernel_rfl) (by kernel_rfl) (by kernel_rfl) (by rfl) (by first | assumption | decide +kernel) (by decide +kernel) ⟨rfl, rfl, rfl, rfl, rfl, by decide +kernel⟩ ?hw ?hc
  case hw => w_witness2
  case hc =>
    refine L2.walk_ofE (l := PySem.Challenge.rw_fieldlots_k15_meet_is_the_average) (n := 63) (k := 9) (x := "_law_script") (CX := L2.CX0) rfl (by decide) (by kernel_rfl) ⟨rfl, by decide, by decide⟩ ?F (fun _ _ _ _ z => z)
    intro w mg fa h Y G hmg0
    obtain ⟨K, KX, c⟩ := Y
    have hmg : mg ("law" : PySem.Str) = some (.ref fa) := by
      have e : (HandSHeadRun.topDef (OpenLaw.row PySem.Challenge.rw_fieldlots_k15_meet_is_the_average).prog 62).name = ("law" : PySem.Str) := by kernel_rfl
      rw [← e]
      exact hmg0
    obtain ⟨fd, hb, hF⟩ := Kh.facts (w := w) KX G hmg c
    exact ⟨K, fd, L.spLaw K, KX, hb, fun H a ns hl _ hS => ⟨a, ns, rfl, hS, hl, fun _ => rfl⟩, hF⟩
