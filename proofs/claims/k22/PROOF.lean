import PyProof.Rows.All
import Wide.All
import OpenK.AllK
import Wide.FinOn
import PyProof.NoPylong
import HandS.ForMost
import HandS.ForExc
import HandS.Wide
import HandS.Gcd
import HandS.IsInst
import HandS.ExcIs
import HandS.Property
import HandS.Defaults
import HandS.CallSlots
import HandS.ExcInit
import HandS.ExcField
import HandS.HeadHook1
import PyProof.ExcClass
import HandS.HeadHook2
import KE.KStateDown
import HandS.Head0
import HandS.Head1
import HandS.Head2
import HandS.Head3
import HandS.HeadEnd
import KE.KOpsOwn
import HandS.ClsMeth
import HandS.Evl
import KE.KCallOwn
import KE.KFmtOwn
import HandS.FStr
import PyProof.Rows.Range3
import HandS.Zip
import HandS.IterVal
import KE.KMathG
import KE.KMathGC
import PyProof.LongRange
import HandS.SortInts
import HandS.Flow
import PySem.Challenge.RW_fieldlots_k22_first_difference
set_option Elab.async false
set_option linter.all false
set_option maxRecDepth 100000
namespace Fl
open PySem PySem.Spec PyProof.Rows L2
/-! ### calls by a promise that names no address -/
structure Cal (P : Program) (w : World) (K : PySem.W.Frag) (mg : Str → Option Value) (base : Heap) (k : Nat) (x : Str) (ps : List Str) (sp : Sp) : Prop where
  ex : ∃ (f : Addr) (fd : FuncData), FnOk P w K mg base CX0 k f fd ps sp ∧ mg x = some (.ref f) ∧ PySem.W.keepIn K (.ref f) = true ∧ Binds K fd ps []
structure Dfn (K : PySem.W.Frag) (mg : Str → Option Value) (x qual : Str) (st : Stmt) (ps : List Str) : Prop where
  ex : ∃ (f : Addr) (fd : FuncData), Fun K x qual st f fd ∧ mg x = some (.ref f) ∧ Binds K fd ps []
section
variable {P : Program} {w : World} {K : PySem.W.Frag} {mg : Str → Option Value} {base : Heap}
theorem Dfn.cal {x qual : Str} {st : Stmt} {N ps : List Str} {k : Nat} {sp : Sp} (D : Dfn K mg x qual st ps) (S : FnScope N ps (defScope st)) (len : ∀ vs H Q E, sp vs H Q E → vs.length = ps.length)
    (hbody : ∀ (f : Addr) (cdv : Value) (A : Around) (outer : List Env) (s : Shared) (H : Hp) (vs : List V) (Q : VK) (E : XK), Room k (A.deeper (envOfC qual (defScope st) s.heap.objs.size f cdv)) → sp vs H Q E →
      ∃ t, PSs (cxOf CX0 P w K mg base N qual (defScope st) f cdv A outer s H E).nox (defBody st) t ∧ t { nx := fun _ H' => Q .non H', rt := Q } (start N vs) H) : Cal P w K mg base (k + 1) x ps sp := by
  obtain ⟨f, fd, F, m, b⟩ := D.ex
  exact ⟨f, fd, F.ok S len (hbody f), m, F.kp, b⟩
theorem Cal.mono {j k : Nat} {x : Str} {ps : List Str} {sp : Sp} (C : Cal P w K mg base j x ps sp) (h : j ≤ k) : Cal P w K mg base k x ps sp := by
  obtain ⟨f, fd, F, m, kp, b⟩ := C.ex
  exact ⟨f, fd, F.mono h, m, kp, b⟩
end
theorem pe_cal {X : Cx} {k : Nat} {x : Str} {ps : List Str} {sp : Sp} {p pos : Pos} {e : Expr} {es : List Expr} {t : TA} (C : Cal X.prog X.w X.K X.mg X.base k x ps sp) (hr : Room k X.A) (ha : PA X (e :: es) t) (hg : Gl X x := by rfl)
    (hdb : (x == ("__debug__" : Str)) = false := by decide) (he : starEach (e :: es) X.env = (false, eval e X.env) :: starEach es X.env := by rfl) (hpl : (backTo pos (starEach es X.env)).any (·.1) = false := by rfl) :
    PE X (.Call (.Name x p) (e :: es) [] pos) (tCall sp [] E0 t) := by
  obtain ⟨f, fd, F, m, kp, b⟩ := C.ex
  exact pe_call F hr hg m kp b .nil pass0 ha hdb he hpl
/-- the built-in names that the text leaves alone -/
structure Blt (mg : Str → Option Value) : Prop where
  len : mg "len" = none
  int : mg "int" = none
  abs : mg "abs" = none
  range : mg "range" = none
  isinstance : mg "isinstance" = none
  max : mg "max" = none
  min : mg "min" = none
  sum : mg "sum" = none
  str : mg "str" = none
  bool : mg "bool" = none
  list : mg "list" = none
  ve : mg "ValueError" = none
/-! ### great numbers -/
def CDivA (_ j : Int) : Prop := j ≠ 0 ∧ j.natAbs.log2 < 9000
theorem op_fdivA {X : Cx} : OpR X (binaryOp .FloorDiv) (rI CDivA fun i j => .int (i.fdiv j)) := opI fun i j _ _ _ _ _ hc q => floordiv_int hc.1 q (.inl (PyProof.noPylong_of_log2 hc.2))
theorem divA {i j : Int} {b : Nat} (h : j ≠ 0) (hb : j.natAbs < 2 ^ b) (h0 : 0 < b) (h9 : b ≤ 9000) : CDivA i j := ⟨h, Nat.lt_of_lt_of_le (PySem.Flt.log2_lt_of h0 hb) h9⟩
/-! ### heaps -/
/-- all that was tracked is as it was, but for p -/
def Keeps (H H' : Hp) (p : Addr) : Prop := ∀ b o, H b = some o → b ≠ p → H' b = some o
theorem Keeps.refl (H : Hp) (p : Addr) : Keeps H H p := fun _ _ h _ => h
theorem Keeps.trans {H H1 H2 : Hp} {p : Addr} (a : Keeps H H1 p) (b : Keeps H1 H2 p) : Keeps H H2 p := fun c o h n => b c o (a c o h n) n
theorem Keeps.upd {H : Hp} {p : Addr} {o : HO} : Keeps H (upd H p o) p := fun b u h n => by rw [upd_ne n]; exact h
theorem same_keeps {H H' : Hp} {p : Addr} (h : Same H H') : Keeps H H' p := fun b o e _ => h b o e
theorem same_upd {H : Hp} {p : Addr} {o : HO} (h : H p = none) : Same H (upd H p o) := fun b u e => by rw [upd_ne (ne_of_none e h)]; exact e
theorem Keeps.free {H H' : Hp} {p l : Addr} (k : Keeps H H' p) (h : H' l = none) (n : l ≠ p) : H l = none := by
  cases q : H l with
  | none => rfl
  | some o =>
    rw [k l o q n] at h
    cases h
theorem ints_at {ns : List Int} {j : Nat} (h : j < ns.length) : (ns.map V.int)[j]? = some (V.int ns[j]) := by
  rw [List.getElem?_map, List.getElem?_eq_getElem h]
  rfl
theorem int_of_map {ns : List Int} {i : Nat} {y : V} (h : (ns.map V.int)[i]? = some y) : ∃ z, ns[i]? = some z ∧ y = V.int z := by
  rw [List.getElem?_map] at h
  cases e : ns[i]? with
  | none => rw [e] at h; cases h
  | some z => rw [e] at h; exact ⟨z, rfl, (Option.some.inj h).symm⟩
/-- where the pool stands: its own list, the script's numbers -/
structure Pla where
  p : Addr
  q : Addr
instance : Coe Pla Addr := ⟨Pla.p⟩
/-- the pool: the script's numbers, how many are taken, what is left of one, a state, the draws -/
def Pool (H : Hp) (p : Pla) : Prop := ∃ (ns : List Int) (i b c d : Int), H p = some (.lst [.ref p.q, .int i, .int b, .int c, .int d]) ∧ H p.q = some (.lst (ns.map V.int)) ∧ 0 ≤ i ∧ p.q ≠ p
theorem Pool.same {H H' : Hp} {p : Pla} (h : Pool H p) (s : Same H H') : Pool H' p := by
  obtain ⟨ns, i, b, c, d, h1, h2, h3, h4⟩ := h
  exact ⟨ns, i, b, c, d, s _ _ h1, s _ _ h2, h3, h4⟩
theorem Pool.upd {H : Hp} {p : Pla} {x : Addr} {o : HO} (h : Pool H p) (hx : H x = none) : Pool (upd H x o) p := h.same (same_upd hx)
theorem Pool.store {H : Hp} {p : Pla} {x : Addr} {o : HO} (h : Pool H p) (hp : x ≠ p) (hq : x ≠ p.q) : Pool (L2.upd H x o) p := by
  obtain ⟨ns, i, b, c, d, h1, h2, h3, h4⟩ := h
  exact ⟨ns, i, b, c, d, by rw [upd_ne (Ne.symm hp)]; exact h1, by rw [upd_ne (Ne.symm hq)]; exact h2, h3, h4⟩
theorem Pool.apart {H : Hp} {p : Pla} {x : Addr} (h : Pool H p) (hx : H x = none) : x ≠ p ∧ x ≠ p.q := by
  obtain ⟨ns, i, b, c, d, h1, h2, _⟩ := h
  exact ⟨Ne.symm (ne_of_none h1 hx), Ne.symm (ne_of_none h2 hx)⟩
/-! ### tests -/
theorem ifD {p : Prop} [Decidable p] {A B : Prop} (h1 : p → A) (h2 : ¬ p → B) : if decide p = true then A else B := by
  by_cases h : p
  · rw [decide_eq_true h]; exact iteT (h1 h)
  · rw [decide_eq_false h]; exact iteF (h2 h)
theorem ifE {a b : Int} {A B : Prop} (h1 : a = b → A) (h2 : a ≠ b → B) : if decide (V.int a = V.int b) = true then A else B :=
  ifD (fun h => h1 (V.int.inj h)) fun h => h2 fun e => h (by rw [e])
theorem ifNE {a b : Int} {A B : Prop} (h1 : a ≠ b → A) (h2 : a = b → B) : if (!decide (V.int a = V.int b)) = true then A else B := by
  by_cases h : a = b
  · rw [decide_eq_true (show V.int a = V.int b by rw [h])]; exact iteF (h2 h)
  · rw [decide_eq_false (show ¬ V.int a = V.int b from fun e => h (V.int.inj e))]; exact iteT (h1 h)
theorem ifN {p : Prop} [Decidable p] {A B : Prop} (h1 : ¬ p → A) (h2 : p → B) : if (!decide p) = true then A else B := by
  by_cases h : p
  · rw [decide_eq_true h]; exact iteF (h2 h)
  · rw [decide_eq_false h]; exact iteT (h1 h)
theorem ifB {c : Bool} {A B : Prop} (h1 : c = true → A) (h2 : c = false → B) : if c = true then A else B := by
  cases c
  · exact iteF (h2 rfl)
  · exact iteT (h1 rfl)
theorem fm (a : Int) {b : Int} (h : 0 < b) : 0 ≤ a.fmod b ∧ a.fmod b < b := ⟨Int.fmod_nonneg_of_pos a h, Int.fmod_lt_of_pos a h⟩
/-! ### Euclid's steps -/
def fibp : Nat → Nat × Nat
  | 0 => (0, 1)
  | n + 1 => match fibp n with | (a, b) => (b, a + b)
def Eu : Nat → Nat → Nat → Prop
  | 0, _, y => y = 0
  | n + 1, x, y => y = 0 ∨ Eu n y (x % y)
theorem eu_mono : ∀ {n x y : Nat}, Eu n x y → Eu (n + 1) x y
  | 0, _, _, h => .inl h
  | _ + 1, _, _, .inl h => .inl h
  | n + 1, _, _, .inr h => .inr (eu_mono (n := n) h)
theorem fibp_step (n : Nat) : (fibp (n + 1)).1 = (fibp n).2 ∧ (fibp (n + 1)).2 = (fibp n).1 + (fibp n).2 := by
  show (match fibp n with | (a, b) => (b, a + b)).1 = _ ∧ (match fibp n with | (a, b) => (b, a + b)).2 = _
  cases fibp n
  exact ⟨rfl, rfl⟩
theorem eu_fib : ∀ (n x y : Nat), (y < (fibp n).2 → Eu n x y) ∧ (y < (fibp (n + 1)).2 → Eu (n + 1) x y) := by
  intro n
  induction n with
  | zero =>
    intro x y
    refine ⟨fun h => ?_, fun h => .inl ?_⟩
    · have h' : y < 1 := h
      show y = 0
      omega
    · have h' : y < 1 := h
      omega
  | succ n ih =>
    intro x y
    refine ⟨(ih x y).2, fun h => ?_⟩
    rw [(fibp_step (n + 1)).2, (fibp_step n).1] at h
    by_cases hy : y = 0
    · exact .inl hy
    refine .inr ?_
    have hr : x % y < y := Nat.mod_lt _ (by omega)
    by_cases hc : x % y < (fibp (n + 1)).2
    · exact (ih y (x % y)).2 hc
    · by_cases h0 : x % y = 0
      · exact .inl h0
      refine .inr ?_
      refine (ih (x % y) (y % (x % y))).1 ?_
      have e : y % (x % y) ≤ y - x % y := by
        rw [Nat.mod_eq_sub_mod (Nat.le_of_lt hr)]
        exact Nat.mod_le _ _
      omega
theorem fib_big : 10 ^ 124 ≤ (fibp 599).2 := by decide +kernel
theorem eu_all {x y : Nat} (h : y < 10 ^ 124) : Eu 599 x y := (eu_fib 599 x y).1 (Nat.lt_of_lt_of_le h fib_big)
end Fl

set_option Elab.async false
set_option linter.all false
set_option maxRecDepth 100000
set_option maxHeartbeats 4000000
namespace Fl
section
open PySem PySem.W PySem.Spec PySem.Calls PyProof.Rows
variable {prog : Program} {w : World} {A : Around} {E : Value → Shared → Prop} {s : Shared} {K : Frag} {x D : Addr} {ox : Obj} {od : Option Obj}
theorem findObj_dataE {C : Addr} {name : Str} {a g : Value} (hc : (clsIn K C).isSome = true) (ha : findIn K (.ref C) name = some (some a)) (hg : specialIn K a "__get__" = some (some g)) (ht : takesIn K a = some true) : findObj K C od name = some (.bind g a) := by
  obtain ⟨cd, hc⟩ := Option.isSome_iff_exists.mp hc
  unfold findObj
  rw [hc, Option.bind_some, ha, Option.bind_some]
  simp [hg, ht]
/-- __class__ of an exception of an own class, with or without a dict of its own -/
theorem kin_classX {Q : Option Value → Shared → Prop} (gAt : findIn K (.ref D) "__getattribute__" = some (some (.builtin "BaseException.__getattribute__"))) (gGt : findIn K (.ref D) "__getattr__" = some none) (sBe : subIn K (.ref D) (.type "BaseException") = some true)
    (dDc : hasDictIn K D = true) (ha : findIn K (.ref D) "__class__" = some (some (.builtin "object.__class__")))
    (hn : specialIn K (.builtin "object.__class__") "__get__" = some (some (.builtin "getset_descriptor.__get__"))) (tTk : takesIn K (.builtin "object.__class__") = some true) (hm : mroIn K D (.type "object") = some true)
    (X : K.In s.heap) (I : InstAt s.heap x ox D od) (h : Q (some (.ref D)) { s with toks := s.toks + 1 }) : wpAny (model prog w) A (getAttr? (.ref x) "__class__") Q E s := by
  have fnd : findObj K D od "__class__" = some (.bind (.builtin "getset_descriptor.__get__") (.builtin "object.__class__")) := findObj_dataE (by obtain ⟨cd, hc, _⟩ := any_some dDc; rw [hc]; rfl) ha hn tTk
  obtain ⟨heap0, g, d, t, os⟩ := s
  have lkT := I.type (M := model prog w)
  have lkG := looks_findIn (M := model prog w) X gAt
  have lkA := looks_findIn (M := model prog w) X gGt
  have lkF := looks_find (M := model prog w) X I fnd
  have isBe : Looks (model prog w) heap0 (isInstance (.ref x) (.type "BaseException")) true := lkT.andThen (looks_subIn X sBe)
  have nb0 : (false && onTheHeap (Value.builtin "BaseException.__getattribute__")) = false := rfl
  have nb2 : (Value.builtin "BaseException.__getattribute__" == Value.builtin "object.__getattribute__") = false := by decide +kernel
  have nb1 : (onTheHeap (Value.ref D) && Value.builtin "BaseException.__getattribute__" == Value.builtin "object.__getattribute__") = false := by rw [nb2]; rfl
  unfold getAttr? getAttrBy? getAttrBy
  refine wpAny_bind (wpAny_mkText (wpAny_bind (wpAny_attempt (wpAny_holding (wpAny_bind (lkT.at (wpAny_bind (lkG.at ?_))))))))
  show wpAny _ _ (if (onTheHeap (Value.ref D) && Value.builtin "BaseException.__getattribute__" == Value.builtin "object.__getattribute__") = true then _ else _) _ _ _
  rw [nb1, if_neg Bool.false_ne_true]
  unfold getAttrByItsOwn hookBefore
  refine wpAny_bind ?_
  rw [if_pos (show onTheHeap (Value.ref D) = true from rfl)]
  refine lkA.at ?_
  refine wpAny_bind (wpAny_attempt (wpAny_holding ?_))
  unfold callGetattribute
  rw [nb0, if_neg Bool.false_ne_true]
  unfold boundAndCalled
  rw [PySem.F.excAttr_ValueError.ga.bind (.ref x)]
  refine wpAny_bind (wpAny_pure ?_)
  show wpAny _ _ (call (.builtin "BaseException.__getattribute__") [.ref x, .str "__class__" t]) _ _ _
  refine wpAny_call (codeAny_call_builtin PySem.F.excAttr_ValueError.ga.plain PySem.F.entry_bexc_ga ?_)
  refine @check_slot (model prog w) _ _ ⟨heap0, g, d, t + 1, os⟩ "BaseException.__getattribute__" "BaseException" "__getattribute__" (.ref x) [.str "__class__" t] [] _ (by decide +kernel) (by decide +kernel) isBe (PySem.F.args_bexc_ga (.ref x) (.str "__class__" t)) ?_
  unfold Builtin.«object.__getattribute__»
  refine wpAny_bind (wpAny_of_eq (a := ((Value.ref x : Value), [Value.str "__class__" t])) (by first | rfl | (simp only [slotArgs]; rfl)) ?_)
  refine wpAny_bind (wpAny_pure (wpAny_bind (lkT.at (wpAny_bind (lkF.at ?_)))))
  show wpAny _ _ (holding [Value.builtin "object.__class__"] (call (.builtin "getset_descriptor.__get__") [.builtin "object.__class__", .ref x, .ref D]) >>= ret) _ _ _
  refine wpAny_bind (wpAny_holding (wpAny_call (class_get (s := ⟨heap0, g, d, t + 1, os⟩) (ox := ox) (od := od) X I hm ?_)))
  refine wpAny_pure ?_
  show wpAny _ _ (handedOut (.ref D)) _ _ _
  rw [handedOut_of (v := .ref D) rfl]
  first
    | exact wpAny_pure (wpAny_pure h)
    | exact wpAny_pure h
    | exact wpAny_pure (wpAny_bind (wpAny_pure (wpAny_pure h)))
theorem kitx_excX (gAt : findIn K (.ref D) "__getattribute__" = some (some (.builtin "BaseException.__getattribute__"))) (gGt : findIn K (.ref D) "__getattr__" = some none) (sBe : subIn K (.ref D) (.type "BaseException") = some true) (dDc : hasDictIn K D = true) (ha : findIn K (.ref D) "__class__" = some (some (.builtin "object.__class__")))
    (hn : specialIn K (.builtin "object.__class__") "__get__" = some (some (.builtin "getset_descriptor.__get__"))) (tTk : takesIn K (.builtin "object.__class__") = some true) (hm : mroIn K D (.type "object") = some true) :
    KitX K (.ref x) (.ref D) (fun h => InstAt h x ox D od) where
  ty := fun _ _ _ I => I.type
  it := fun _ _ X _ => by
    obtain ⟨cdE, hcE, _⟩ := any_some dDc
    unfold clsIn at hcE
    split at hcE
    · rename_i c' d' cd' sl' ho
      intro A' Q' E' s' k q
      unfold isType loadHead
      exact wpAny_bind (wpAny_loadPart (k _ _ (X _ _ ho)) (wpAny_pure q))
    · cases hcE
  ne := fun h tp dd its n sl X htp => by
    obtain ⟨cdE, hcE, _⟩ := any_some dDc
    refine Bool.eq_false_iff.mpr fun q => ?_
    have e : D = tp := Value.ref.inj (beq_iff_eq.mp q)
    subst e
    unfold clsIn at hcE
    split at hcE
    · rename_i c' d' cd' sl' ho
      have z := (X _ _ ho).symm.trans htp
      cases z
    · cases hcE
  ca := fun X I k => kin_classX gAt gGt sBe dDc ha hn tTk hm X I k
end
section
open PySem PySem.Spec PyProof.Rows L2
/-- the caught error at a: of the class D, its dict d -/
def Err (H : Hp) (d : Option Addr) : Prop := d = none ∨ ∃ dd fs, d = some dd ∧ H dd = some (.xd fs)
theorem exc_inst {X : Cx} {a D : Addr} {oe : Obj} {pn pins : List (Addr × Obj)} {d : Option Addr} {σ : L2.St} {H : Hp} {s : Shared} (hz : Zc (.ref D) d oe) (hf : ∃ vs, oe.data = .fields vs) (I : Inv (X.suite a ((a, oe) :: pn)) pins σ H s) (he : Err H d) :
    ∃ od, PySem.W.InstAt s.heap a oe D od := by
  obtain ⟨hget, _⟩ := I.pin (a, oe) (List.mem_append.mpr (.inl List.mem_cons_self))
  obtain ⟨vs, hv⟩ := hf
  obtain ⟨oc, oda, odt, osl⟩ := oe
  obtain ⟨h1, h2⟩ := hz
  dsimp only at h1 h2 hv
  subst h1 h2 hv
  rcases he with rfl | ⟨dd, fs, rfl, hd⟩
  · exact ⟨none, hget, rfl, rfl, trivial⟩
  · have hx : ObjOk X.prog X.w H s.heap dd (.xd fs) := I.hok dd _ hd
    obtain ⟨mA, hns, hr⟩ := hx
    obtain ⟨od, ho, hl⟩ := lookIn_ns hns
    exact ⟨some od, hget, rfl, rfl, ho⟩
def rIsX (K : PySem.W.Frag) (D a : Addr) (cls : Value) (d : Option Addr) : List V → Hp → VK → Prop := fun xs H Q => cls = .ref D ∧ Err H d ∧ ∃ (c : V) (cv : Value) (b : Bool), xs = [.ref a, c] ∧ ClsV c cv ∧ PySem.W.kitOne K (.ref D) cv = some b ∧ Q (.bl b) H
def rIsXT (K : PySem.W.Frag) (D a : Addr) (cls : Value) (d : Option Addr) : List V → Hp → VK → Prop := fun xs H Q => cls = .ref D ∧ Err H d ∧ ∃ (tp : Addr) (cs : List V) (us : List Value) (b : Bool), xs = [.ref a, .ref tp] ∧ H tp = some (.tup cs) ∧ Paired ClsV cs us ∧ PySem.W.kitAny K (.ref D) us = some b ∧ Q (.bl b) H
theorem call_isX {X : Cx} {a D : Addr} {cls : Value} {d : Option Addr} {oe : Obj} {pn : List (Addr × Obj)} (C : ExcC X.K D) (hz : Zc cls d oe) (hf : ∃ vs, oe.data = .fields vs) : CallR (X.suite a ((a, oe) :: pn)) (.builtin "isinstance") (rIsX X.K D a cls d) := by
  intro pins s σ H xs us Q I r h
  obtain ⟨rfl, he, c, cv, b, rfl, hcv, e, q⟩ := h
  obtain ⟨od, J⟩ := exc_inst hz hf I he
  obtain ⟨u1, u2, rfl, r1, r2⟩ := vals2 r
  have ec := hcv.eq r2
  subst ec
  cases (show u1 = Value.ref a from r1)
  exact PySem.W.kia_one (kitx_excX C.hg C.hk C.hs C.hd C.ha C.hn C.ht C.hm) I.kIn J e (fun z => nomatch z) fun tk => ⟨.bl b, H, I.kept (t' := tk) fun _ _ z => z, rfl, q⟩
theorem call_isXT {X : Cx} {a D : Addr} {cls : Value} {d : Option Addr} {oe : Obj} {pn : List (Addr × Obj)} (C : ExcC X.K D) (hz : Zc cls d oe) (hf : ∃ vs, oe.data = .fields vs) : CallR (X.suite a ((a, oe) :: pn)) (.builtin "isinstance") (rIsXT X.K D a cls d) := by
  intro pins s σ H xs us Q I r h
  obtain ⟨rfl, he, tp, cs, ws, b, rfl, hT, k, e, q⟩ := h
  obtain ⟨od, J⟩ := exc_inst hz hf I he
  obtain ⟨u1, u2, rfl, r1, r2⟩ := vals2 r
  cases (show u1 = Value.ref a from r1)
  cases (show u2 = Value.ref tp from r2)
  obtain ⟨_, its, rv, o, h1, h2, n, h3⟩ := (show ObjOk X.prog X.w H s.heap tp (.tup cs) from I.hok tp _ hT)
  have e3 := ClsV.all k rv
  subst e3
  obtain ⟨oc, od', dt, sl⟩ := o
  simp only at h2 h3
  subst h2 h3
  exact PySem.W.kia_tup (kitx_excX C.hg C.hk C.hs C.hd C.ha C.hn C.ht C.hm) I.kIn J h1 e (fun z => nomatch z) fun tk => ⟨.bl b, H, I.kept (t' := tk) fun _ _ z => z, rfl, q⟩
/-! ### making an instance where what is raised is wished for at the caller's slots -/
def tMakeS (C : Addr) (sp : Sp) (dvs : List V) (E : L2.St → XK) (t : TA) : TE := fun σ H Q => t σ H fun vs H1 => ∀ x dx, H1 x = none → H1 dx = none → dx ≠ x →
  sp (.ref x :: (vs ++ dvs)) (upd (upd H1 dx (.own x)) x (.ins C dx [])) (fun v H2 => v = .non ∧ Q (.ref x) H2) (E σ)
section
variable {X : Cx} {CX : CXT} {k : Nat} {f C : Addr} {fd : FuncData} {ps : List Str} {sp : Sp} {dvs : List V} {ds : List Value} {E : L2.St → XK} {x m : Str} {p pos apos : Pos} {e o : Expr} {es : List Expr} {ta : TE} {t : TA}
theorem run_makeS {pins : List (Addr × Obj)} {σ : L2.St} {H : Hp} {s : Shared} {Q : VK} {us : List Value} {vs : List V} (M : Mk X.K C f) (F : FnOk X.prog X.w X.K X.mg X.base CX k f fd ps sp) (hr : Room (k + 1) X.A) (hb : Binds X.K fd ps ds) (hd : Vals dvs ds)
    (hx : PassesAt CX X σ (E σ)) (I : Inv X pins σ H s) (r : Vals vs us)
    (h : ∀ x dx, H x = none → H dx = none → dx ≠ x → sp (.ref x :: (vs ++ dvs)) (upd (upd H dx (.own x)) x (.ins C dx [])) (fun v H2 => v = .non ∧ Q (.ref x) H2) (E σ)) :
    wpAny (model X.prog X.w) X.A (call (.ref C) us) (EP X pins σ Q) X.xe s := by
  have hnew := h (s.heap.objs.size + 1) s.heap.objs.size (I.hok.fresh (Nat.le_succ _)) (I.hok.fresh (Nat.le_refl _)) (Nat.ne_of_lt (Nat.lt_succ_self _))
  have Inew := Inv.made (C := C) I
  have rAll : Vals (V.ref (s.heap.objs.size + 1) :: (vs ++ dvs)) (Value.ref (s.heap.objs.size + 1) :: (us ++ ds)) := .cons rfl (r.append hd)
  have hlen : (Value.ref (s.heap.objs.size + 1) :: us ++ ds).length = ps.length := by
    have e := rAll.length
    rw [F.len _ _ _ _ hnew] at e
    exact e.symm
  refine wpAny_call (make_map (f := f) I.kIn M.makes M.init (beq_iff_eq.mp M.fn) (codeAny_mono (F.run _ X.stack _ _ ⟨Value.ref (s.heap.objs.size + 1) :: us, []⟩ (Value.ref (s.heap.objs.size + 1) :: (us ++ ds)) _ _ (E σ) (hr.make C us [])
    (Inew.env0.make C us []) (hb _ (Value.ref (s.heap.objs.size + 1) :: us) Inew.kIn hlen) rAll hnew) fun r s' hend => ?_))
  cases r with
  | error e => exact hx pins _ _ e s' Inew hend
  | ok fl =>
    cases fl with
    | ret u =>
      obtain ⟨v, H', Iend, rVal, ev, qEnd⟩ := Inew.after hend
      subst ev
      exact ⟨rVal, ⟨V.ref (s.heap.objs.size + 1), H', Iend, rfl, qEnd⟩⟩
    | next => exact False.elim hend
    | brk => exact False.elim hend
    | cont => exact False.elim hend
theorem pe_makeS (M : Mk X.K C f) (F : FnOk X.prog X.w X.K X.mg X.base CX k f fd ps sp) (hr : Room (k + 1) X.A) (hg : Gl X x) (hm : X.mg x = some (.ref C)) (hb : Binds X.K fd ps ds) (hd : Vals dvs ds) (hx : ∀ σ, PassesAt CX X σ (E σ))
    (ha : PA X (e :: es) t) (hdb : (x == ("__debug__" : Str)) = false := by decide) (he : starEach (e :: es) X.env = (false, eval e X.env) :: starEach es X.env := by rfl) (hpl : (backTo pos (starEach es X.env)).any (·.1) = false := by rfl) :
    PE X (.Call (.Name x p) (e :: es) [] pos) (tMakeS C sp dvs E t) := by
  refine ⟨fun pins s σ H Q I h => ?_⟩
  refine wpAny_Call_Name_kw (ld_glob I hg hm ?_ hdb)
  refine PySem.W.callWith_K (h₀ := X.base) I.ok.mod.kin M.kp (thn (ha.run pos pins s σ H _ I h) fun us s1 ⟨vs, H1, I1, r, q⟩ => ⟨I1.kIn, ?_⟩) he hpl
  exact run_makeS M F hr hb hd (hx σ) I1 r q
end
/-- a class that is called: C(..), the promise of its __init__; dvs the defaults that fill up -/
structure CalC (P : Program) (w : World) (K : PySem.W.Frag) (mg : Str → Option Value) (base : Heap) (CX : CXT) (k : Nat) (C : Addr) (x : Str) (ps : List Str) (dvs : List V) (sp : Sp) : Prop where
  ex : ∃ (f : Addr) (fd : FuncData) (ds : List Value), Mk K C f ∧ FnOk P w K mg base CX k f fd ps sp ∧ mg x = some (.ref C) ∧ Binds K fd ps ds ∧ Vals dvs ds
theorem pe_mk {X : Cx} {k : Nat} {C : Addr} {x : Str} {ps : List Str} {dvs : List V} {sp : Sp} {p pos : Pos} {e : Expr} {es : List Expr} {t : TA} (M : CalC X.prog X.w X.K X.mg X.base (L2.CX X.prog X.w) k C x ps dvs sp) (hr : Room (k + 1) X.A) (ha : PA X (e :: es) t) (hg : Gl X x := by rfl)
    (hdb : (x == ("__debug__" : Str)) = false := by decide) (he : starEach (e :: es) X.env = (false, eval e X.env) :: starEach es X.env := by rfl) (hpl : (backTo pos (starEach es X.env)).any (·.1) = false := by rfl) :
    PE X (.Call (.Name x p) (e :: es) [] pos) (tMake C sp dvs E0 t) := by
  obtain ⟨f, fd, ds, M, F, m, b, d⟩ := M.ex
  exact pe_make M F hr hg m b d passL ha hdb he hpl
theorem pe_mkS {X : Cx} {W : WX} {k : Nat} {C : Addr} {x : Str} {ps : List Str} {dvs : List V} {sp : Sp} {p pos : Pos} {e : Expr} {es : List Expr} {t : TA} (M : CalC X.prog X.w X.K X.mg X.base (L2.CX X.prog X.w) k C x ps dvs sp) (tk : Takes X W) (hr : Room (k + 1) X.A) (ha : PA X (e :: es) t) (hg : Gl X x := by rfl)
    (hdb : (x == ("__debug__" : Str)) = false := by decide) (he : starEach (e :: es) X.env = (false, eval e X.env) :: starEach es X.env := by rfl) (hpl : (backTo pos (starEach es X.env)).any (·.1) = false := by rfl) :
    PE X (.Call (.Name x p) (e :: es) [] pos) (tMakeS C sp dvs (WE W) t) := by
  obtain ⟨f, fd, ds, M, F, m, b, d⟩ := M.ex
  exact pe_makeS M F hr hg m b d (fun σ => passAt tk σ) ha hdb he hpl
/-! ### a def that may raise -/
structure CalX (P : Program) (w : World) (K : PySem.W.Frag) (mg : Str → Option Value) (base : Heap) (k : Nat) (x : Str) (ps : List Str) (sp : Sp) : Prop where
  ex : ∃ (f : Addr) (fd : FuncData), FnOk P w K mg base (L2.CX P w) k f fd ps sp ∧ mg x = some (.ref f) ∧ PySem.W.keepIn K (.ref f) = true ∧ Binds K fd ps []
theorem Dfn.calX {P : Program} {w : World} {K : PySem.W.Frag} {mg : Str → Option Value} {base : Heap} {x qual : Str} {st : Stmt} {N ps : List Str} {k : Nat} {sp : Sp} (D : Dfn K mg x qual st ps) (S : FnScope N ps (defScope st)) (len : ∀ vs H Q E, sp vs H Q E → vs.length = ps.length)
    (hbody : ∀ (f : Addr) (cdv : Value) (A : Around) (outer : List Env) (s : Shared) (H : Hp) (vs : List V) (Q : VK) (E : XK), Room k (A.deeper (envOfC qual (defScope st) s.heap.objs.size f cdv)) → sp vs H Q E →
      ∃ t, PSs (cxOf (L2.CX P w) P w K mg base N qual (defScope st) f cdv A outer s H E) (defBody st) t ∧ t { nx := fun _ H' => Q .non H', rt := Q } (start N vs) H) : CalX P w K mg base (k + 1) x ps sp := by
  obtain ⟨f, fd, F, m, b⟩ := D.ex
  exact ⟨f, fd, F.okX S len (hbody f), m, F.kp, b⟩
theorem pe_calX {X : Cx} {k : Nat} {x : Str} {ps : List Str} {sp : Sp} {p pos : Pos} {e : Expr} {es : List Expr} {t : TA} (C : CalX X.prog X.w X.K X.mg X.base k x ps sp) (hr : Room k X.A) (ha : PA X (e :: es) t) (hg : Gl X x := by rfl)
    (hdb : (x == ("__debug__" : Str)) = false := by decide) (he : starEach (e :: es) X.env = (false, eval e X.env) :: starEach es X.env := by rfl) (hpl : (backTo pos (starEach es X.env)).any (·.1) = false := by rfl) :
    PE X (.Call (.Name x p) (e :: es) [] pos) (tCall sp [] E0 t) := by
  obtain ⟨f, fd, F, m, kp, b⟩ := C.ex
  exact pe_call F hr hg m kp b .nil passL ha hdb he hpl
theorem pe_calS {X : Cx} {W : WX} {k : Nat} {x : Str} {ps : List Str} {sp : Sp} {p pos : Pos} {e : Expr} {es : List Expr} {t : TA} (C : CalX X.prog X.w X.K X.mg X.base k x ps sp) (tk : Takes X W) (hr : Room k X.A) (ha : PA X (e :: es) t) (hg : Gl X x := by rfl)
    (hdb : (x == ("__debug__" : Str)) = false := by decide) (he : starEach (e :: es) X.env = (false, eval e X.env) :: starEach es X.env := by rfl) (hpl : (backTo pos (starEach es X.env)).any (·.1) = false := by rfl) :
    PE X (.Call (.Name x p) (e :: es) [] pos) (tCallS sp (WE W) t) := by
  obtain ⟨f, fd, F, m, kp, b⟩ := C.ex
  exact pe_callS F hr hg m kp b (fun σ => passAt tk σ) ha hdb he hpl
theorem exm_self {K : PySem.W.Frag} {S : Addr} (h1 : PySem.W.subIn K (.ref S) (.type "BaseException") = some true) (h2 : PySem.W.hasDictIn K S = true) (h3 : PySem.W.typeIn K (.ref S) = some (.type "type")) (h4 : PySem.W.subIn K (.ref S) (.ref S) = some true) :
    PySem.W.exmOne K (.ref S) (.ref S) = some true := PySem.W.exm_ref h1 h2 h3 h4
end
end Fl

set_option Elab.async false
set_option linter.all false
set_option maxRecDepth 100000
set_option maxHeartbeats 4000000
namespace Fl
open PySem PySem.Spec PyProof.Rows L2
/-! ### lowest terms -/
def sh (t u : Int) : Int := if u < 0 then -(Nat.gcd t.natAbs u.natAbs : Nat) else (Nat.gcd t.natAbs u.natAbs : Nat)
def nT (t u : Int) : Int := t.fdiv (sh t u)
def nU (t u : Int) : Int := u.fdiv (sh t u)
theorem sh_abs (t u : Int) : (sh t u).natAbs = Nat.gcd t.natAbs u.natAbs := by
  unfold sh
  split <;> omega
theorem sh_ne {t u : Int} (h : u ≠ 0) : sh t u ≠ 0 := by
  have h1 : 0 < Nat.gcd t.natAbs u.natAbs := Nat.gcd_pos_of_pos_right _ (by omega)
  have := sh_abs t u
  omega
theorem sh_dvd_t (t u : Int) : sh t u ∣ t := Int.natAbs_dvd_natAbs.mp (by rw [sh_abs]; exact Nat.gcd_dvd_left _ _)
theorem sh_dvd_u (t u : Int) : sh t u ∣ u := Int.natAbs_dvd_natAbs.mp (by rw [sh_abs]; exact Nat.gcd_dvd_right _ _)
theorem nT_mul (t u : Int) : nT t u * sh t u = t := by
  unfold nT
  exact Int.fdiv_mul_cancel (sh_dvd_t t u)
theorem nU_mul (t u : Int) : nU t u * sh t u = u := by
  unfold nU
  exact Int.fdiv_mul_cancel (sh_dvd_u t u)
theorem nU_pos {t u : Int} (h : u ≠ 0) : 0 < nU t u := by
  have h1 : 0 < Nat.gcd t.natAbs u.natAbs := Nat.gcd_pos_of_pos_right _ (by omega)
  have e := nU_mul t u
  by_cases hn : u < 0
  · have hs : sh t u < 0 := by
      unfold sh
      rw [if_pos hn]
      omega
    rcases Int.lt_trichotomy (nU t u) 0 with hc | hc | hc
    · have := Int.mul_pos_of_neg_of_neg hc hs
      omega
    · rw [hc] at e
      omega
    · exact hc
  · have hs : 0 < sh t u := by
      unfold sh
      rw [if_neg hn]
      omega
    rcases Int.lt_trichotomy (nU t u) 0 with hc | hc | hc
    · have := Int.mul_neg_of_neg_of_pos hc hs
      omega
    · rw [hc] at e
      omega
    · exact hc
theorem n_cross (t u : Int) : nT t u * u = t * nU t u := by
  have e1 := nT_mul t u
  have e2 := nU_mul t u
  calc nT t u * u = nT t u * (nU t u * sh t u) := by rw [e2]
    _ = nT t u * sh t u * nU t u := by rw [Int.mul_comm (nU t u), Int.mul_assoc]
    _ = t * nU t u := by rw [e1]
theorem n_gcd {t u : Int} (h : u ≠ 0) : Nat.gcd (nT t u).natAbs (nU t u).natAbs = 1 := by
  have h1 : 0 < Nat.gcd t.natAbs u.natAbs := Nat.gcd_pos_of_pos_right _ (by omega)
  have e1 : (nT t u).natAbs * Nat.gcd t.natAbs u.natAbs = t.natAbs := by rw [← sh_abs, ← Int.natAbs_mul, nT_mul]
  have e2 : (nU t u).natAbs * Nat.gcd t.natAbs u.natAbs = u.natAbs := by rw [← sh_abs, ← Int.natAbs_mul, nU_mul]
  have e3 : Nat.gcd ((nT t u).natAbs * Nat.gcd t.natAbs u.natAbs) ((nU t u).natAbs * Nat.gcd t.natAbs u.natAbs) = Nat.gcd t.natAbs u.natAbs := by
    rw [e1, e2]
  rw [Nat.gcd_mul_right] at e3
  exact Nat.eq_of_mul_eq_mul_right h1 (by rw [e3, Nat.one_mul])
theorem nU_le {t u : Int} (h : u ≠ 0) : (nU t u).natAbs ≤ u.natAbs := by
  have h1 : 0 < Nat.gcd t.natAbs u.natAbs := Nat.gcd_pos_of_pos_right _ (by omega)
  have e2 : (nU t u).natAbs * Nat.gcd t.natAbs u.natAbs = u.natAbs := by rw [← sh_abs, ← Int.natAbs_mul, nU_mul]
  rw [← e2]
  exact Nat.le_mul_of_pos_right _ h1
theorem nT_le {t u : Int} (h : u ≠ 0) : (nT t u).natAbs ≤ t.natAbs := by
  have h1 : 0 < Nat.gcd t.natAbs u.natAbs := Nat.gcd_pos_of_pos_right _ (by omega)
  have e2 : (nT t u).natAbs * Nat.gcd t.natAbs u.natAbs = t.natAbs := by rw [← sh_abs, ← Int.natAbs_mul, nT_mul]
  rw [← e2]
  exact Nat.le_mul_of_pos_right _ h1
/-- a fraction has one form in lowest terms -/
theorem low_one {a b c d : Int} (hb : 0 < b) (hd : 0 < d) (g1 : Nat.gcd a.natAbs b.natAbs = 1) (g2 : Nat.gcd c.natAbs d.natAbs = 1) (e : a * d = c * b) : a = c ∧ b = d := by
  have en : a.natAbs * d.natAbs = c.natAbs * b.natAbs := by rw [← Int.natAbs_mul, ← Int.natAbs_mul, e]
  have d1 : b.natAbs ∣ d.natAbs := (Nat.Coprime.dvd_of_dvd_mul_left (k := b.natAbs) (m := a.natAbs) (n := d.natAbs) (by rw [Nat.Coprime, Nat.gcd_comm]; exact g1) (by rw [en]; exact Nat.dvd_mul_left _ _))
  have d2 : d.natAbs ∣ b.natAbs := (Nat.Coprime.dvd_of_dvd_mul_left (k := d.natAbs) (m := c.natAbs) (n := b.natAbs) (by rw [Nat.Coprime, Nat.gcd_comm]; exact g2) (by rw [← en]; exact Nat.dvd_mul_left _ _))
  have e3 : b.natAbs = d.natAbs := Nat.dvd_antisymm d1 d2
  have e4 : b = d := by omega
  subst e4
  exact ⟨Int.eq_of_mul_eq_mul_right (by omega) e, rfl⟩
theorem n_uniq {a b t u : Int} (hu : u ≠ 0) (hb : 0 < b) (g : Nat.gcd a.natAbs b.natAbs = 1) (e : a * u = t * b) : a = nT t u ∧ b = nU t u := by
  refine low_one hb (nU_pos hu) g (n_gcd hu) ?_
  have e1 := n_cross t u
  refine Int.eq_of_mul_eq_mul_right hu ?_
  calc a * nU t u * u = a * u * nU t u := by rw [Int.mul_assoc, Int.mul_comm (nU t u), ← Int.mul_assoc]
    _ = t * b * nU t u := by rw [e]
    _ = t * nU t u * b := by rw [Int.mul_assoc, Int.mul_comm b, ← Int.mul_assoc]
    _ = nT t u * u * b := by rw [e1]
    _ = nT t u * b * u := by rw [Int.mul_assoc, Int.mul_comm u, ← Int.mul_assoc]
theorem n_self {a b : Int} (hb : 0 < b) (g : Nat.gcd a.natAbs b.natAbs = 1) : nT a b = a ∧ nU a b = b := by
  obtain ⟨h1, h2⟩ := n_uniq (a := a) (b := b) (t := a) (u := b) (by omega) hb g rfl
  exact ⟨h1.symm, h2.symm⟩
theorem n_one (t : Int) : nT t 1 = t ∧ nU t 1 = 1 := n_self (by decide) (by simp)
theorem n_scale {t u f : Int} (hu : u ≠ 0) (hf : f ≠ 0) : nT (t * f) (u * f) = nT t u ∧ nU (t * f) (u * f) = nU t u := by
  have hne : u * f ≠ 0 := Int.mul_ne_zero hu hf
  obtain ⟨h1, h2⟩ := n_uniq (a := nT t u) (b := nU t u) (t := t * f) (u := u * f) hne (nU_pos hu) (n_gcd hu) (by
    have e1 := n_cross t u
    calc nT t u * (u * f) = nT t u * u * f := by rw [Int.mul_assoc]
      _ = t * nU t u * f := by rw [e1]
      _ = t * f * nU t u := by rw [Int.mul_assoc, Int.mul_comm (nU t u), ← Int.mul_assoc])
  exact ⟨h1.symm, h2.symm⟩
/-! ### instances of Ratio -/
def rf (t u : Int) : List (Str × V) := putF "under" (.int u) (putF "top" (.int t) [])
theorem tu : ¬ (("top" : Str) = "under") := by decide +kernel
theorem ut : ¬ (("under" : Str) = "top") := by decide +kernel
theorem rf_top (t u : Int) : (rf t u).lookup ("top" : Str) = some (.int t) := by
  unfold rf
  rw [lookup_putF, if_neg tu, lookup_putF, if_pos rfl]
theorem rf_under (t u : Int) : (rf t u).lookup ("under" : Str) = some (.int u) := by
  unfold rf
  rw [lookup_putF, if_pos rfl]
theorem rf_no (t u : Int) {m : Str} (h1 : ¬ m = "under") (h2 : ¬ m = "top") : (rf t u).lookup m = none := by
  unfold rf
  rw [lookup_putF, if_neg h1, lookup_putF, if_neg h2]
  rfl
/-- a Ratio t / u stands at x -/
def RatAt (C : Addr) (H : Hp) (x : Addr) (t u : Int) : Prop := ∃ dx, H x = some (.ins C dx (rf t u))
theorem RatAt.keep {C p : Addr} {H H' : Hp} {x : Addr} {t u : Int} (h : RatAt C H x t u) (k : Keeps H H' p) (hp : x ≠ p) : RatAt C H' x t u := by
  obtain ⟨dx, h⟩ := h
  exact ⟨dx, k _ _ h hp⟩
theorem RatAt.same {C : Addr} {H H' : Hp} {x : Addr} {t u : Int} (h : RatAt C H x t u) (k : Same H H') : RatAt C H' x t u := by
  obtain ⟨dx, h⟩ := h
  exact ⟨dx, k _ _ h⟩
theorem RatAt.ne_pool {C : Addr} {p : Pla} {H : Hp} {x : Addr} {t u : Int} (h : RatAt C H x t u) (hp : Pool H p) : x ≠ p := by
  obtain ⟨dx, h⟩ := h
  obtain ⟨ns, i, b, c, d, h1, _⟩ := hp
  exact ne_of h h1 (by intro z; cases z)
/-- the class Ratio as the top has left it -/
structure RatC (K : PySem.W.Frag) (mg : Str → Option Value) (C : Addr) : Prop where
  cl : Cls K C
  nT : NoAttr K C "top"
  nU : NoAttr K C "under"
  g : mg "Ratio" = some (.ref C)
  ha : PySem.W.findIn K (.ref C) "__class__" = some (some (.builtin "object.__class__"))
  hn : PySem.W.specialIn K (.builtin "object.__class__") "__get__" = some (some (.builtin "getset_descriptor.__get__"))
  htk : PySem.W.takesIn K (.builtin "object.__class__") = some true
  hm : PySem.W.mroIn K C (.type "object") = some true
  ki : PySem.W.kitOne K (.type "int") (.ref C) = some false
theorem RatC.tyX {K : PySem.W.Frag} {mg : Str → Option Value} {C : Addr} (T : RatC K mg C) {H : Hp} {x dx : Addr} {fs : List (Str × V)} (h : H x = some (.ins C dx fs)) : TyX K H (.ref x) (.ref C) := .base (.ins h T.cl T.ha T.hn T.htk T.hm)
theorem kit_self {K : PySem.W.Frag} (v : Value) : PySem.W.kitOne K v v = some true := by
  unfold PySem.W.kitOne
  rw [if_pos (beq_self_eq_true v)]
/-- an error class of the program without __init__ -/
structure ExC (K : PySem.W.Frag) (mg : Str → Option Value) (nm : Str) (C : Addr) : Prop where
  x : PySem.W.excIn K C [.type "ValueError", .type "Exception", .type "BaseException", .type "object"] "ValueError.__new__" = true
  g : mg nm = some (.ref C)
  k : PySem.W.keepIn K (.ref C) = true
  b : PySem.W.subIn K (.ref C) (.type "BaseException") = some true
  t : PySem.W.typeIn K (.ref C) = some (.type "type")
  s : PySem.W.subIn K (.ref C) (.ref C) = some true
  e : ExcC K C
theorem ExC.exm {K : PySem.W.Frag} {mg : Str → Option Value} {x : Str} {C : Addr} (T : ExC K mg x C) : PySem.W.exmOne K (.ref C) (.ref C) = some true := exm_self T.b T.e.hd T.t T.s
theorem beq_ref_ne {a b : Addr} (h : a ≠ b) : (Value.ref a == Value.ref b) = false := by
  rw [beq_eq_false_iff_ne]
  intro e
  injection e with e
  exact h e
end Fl

set_option Elab.async false
set_option linter.all false
set_option maxRecDepth 100000
set_option maxHeartbeats 4000000
namespace Fl
open PySem PySem.Spec PyProof.Rows L2
/-! ### the error with a name and a value -/
structure BnC (K : PySem.W.Frag) (mg : Str → Option Value) (C : Addr) : Prop where
  o : OexC K C
  g : mg "BadNumber" = some (.ref C)
  nN : PySem.W.findIn K (.ref C) "name" = some none
  nV : PySem.W.findIn K (.ref C) "value" = some none
  e : ExcC K C
  s : PySem.W.subIn K (.ref C) (.ref C) = some true
theorem BnC.exm {K : PySem.W.Frag} {mg : Str → Option Value} {C : Addr} (T : BnC K mg C) : PySem.W.exmOne K (.ref C) (.ref C) = some true := exm_self T.o.exC T.e.hd T.o.tyC T.s
theorem BnC.xf {K : PySem.W.Frag} {mg : Str → Option Value} {C : Addr} (T : BnC K mg C) : XfC K C := ⟨T.e.hg, T.e.hk, T.e.hs, T.e.hd⟩
def bnf (n v : V) : List (Str × V) := [("value", v), ("name", n)]
theorem nv : ¬ (("name" : Str) = "value") := by decide +kernel
theorem look_ne {f g : Str} {v : V} {fs : List (Str × V)} (h : ¬ f = g) : List.lookup f ((g, v) :: fs) = List.lookup f fs := by
  have e : (f == g) = false := by simpa using h
  rw [List.lookup_cons, e]
theorem look_eq {f : Str} {v : V} {fs : List (Str × V)} : List.lookup f ((f, v) :: fs) = some v := by
  rw [List.lookup_cons, beq_self_eq_true]
theorem bnf_name (n v : V) : (bnf n v).lookup ("name" : Str) = some n := by
  unfold bnf
  rw [look_ne nv, look_eq]
theorem bnf_value (n v : V) : (bnf n v).lookup ("value" : Str) = some v := look_eq
def spBN (C : Addr) : Sp := fun vs H Q _ => ∃ (a : Addr) (n v : V), vs = [.ref a, n, v] ∧ H a = some (exo a C none) ∧ ∀ (dx : Addr), H dx = none → dx ≠ a → Q .non (upd (upd (upd H dx (exd dx [("name", n)])) a (exo a C (some dx))) dx (exd dx (bnf n v)))
structure CalE (P : Program) (w : World) (K : PySem.W.Frag) (mg : Str → Option Value) (base : Heap) (k : Nat) (C : Addr) : Prop where
  ex : ∃ (fI : Addr) (fd : FuncData), PySem.W.findIn K (.ref C) "__init__" = some (some (.ref fI)) ∧ PySem.W.typeIn K (.ref fI) = some (.type "function") ∧ FnOk P w K mg base CX0 k fI fd ["self", "name", "value"] (spBN C) ∧ Binds K fd ["self", "name", "value"] []
theorem pmk_bn {X : Cx} {k : Nat} {C : Addr} {p pos : Pos} {e : Expr} {es : List Expr} {ta : TA} (T : BnC X.K X.mg C) (B : CalE X.prog X.w X.K X.mg X.base k C) (hr : Room (k + 1) X.A) (ha : PA X (e :: es) ta) (hg : Gl X "BadNumber" := by rfl)
    (he : starEach (e :: es) X.env = (false, eval e X.env) :: starEach es X.env := by rfl) (hpl : (backTo pos (starEach es X.env)).any (·.1) = false := by rfl) : PMk X (.Call (.Name "BadNumber" p) (e :: es) [] pos) (tMkO C (spBN C) [] ta) := by
  obtain ⟨fI, fd, iC, tI, F, b⟩ := B.ex
  exact pmk_oex T.o iC tI F hr b .nil (fun _ _ _ _ _ _ _ h => h.elim) hg T.g ha (by decide +kernel) he hpl
/-- what is wished where BadNumber(n, v) leaves -/
def Ref (E : XK) (C : Addr) (H : Hp) (n : Str) (v : Int) : Prop := ∀ (d : Addr) (H' : Hp), Same H H' → H d = none → H' d = some (.xd (bnf (.str n) (.int v))) → E (.ref C) (some d) H'
theorem Ref.same {E : XK} {C : Addr} {H H1 : Hp} {n : Str} {v : Int} (h : Ref E C H n v) (s : Same H H1) : Ref E C H1 n v := fun d H' s' hd he => h d H' (s.trans s') (s.free hd) he
theorem bn_made {C : Addr} {n : Str} {v : Int} {H : Hp} {Q : XK} (k : Ref Q C H n v) : [V.str n, V.int v].length ≤ 1000 ∧ ∀ a, H a = none → spBN C (.ref a :: ([V.str n, V.int v] ++ [])) (upd H a (exo a C none))
    (fun z H2 => z = .non ∧ ∃ (d : Addr) (fs : List (Str × V)), H2 a = some (exo a C (some d)) ∧ H2 d = some (exd d fs) ∧ H d = none ∧ Q (.ref C) (some d) (upd (del H2 a) d (.xd fs))) (fun _ _ _ => False) := by
  refine ⟨(show 2 ≤ 1000 by decide), fun a ha => ⟨a, .str n, .int v, rfl, upd_same, fun dx hdx hne => ⟨rfl, dx, bnf (.str n) (.int v), ?_, upd_same, ?_, ?_⟩⟩⟩
  · rw [upd_ne (Ne.symm hne), upd_same]
  · rw [upd_ne hne] at hdx
    exact hdx
  · rw [upd_ne hne] at hdx
    refine k dx _ (fun b o e => ?_) hdx upd_same
    have h1 : b ≠ a := ne_of_none e ha
    have h2 : b ≠ dx := ne_of_none e hdx
    rw [upd_ne h2, del_ne h1, upd_ne h2, upd_ne h1, upd_ne h2, upd_ne h1]
    exact e
end Fl

set_option Elab.async false
set_option linter.all false
set_option maxRecDepth 100000
set_option maxHeartbeats 4000000
namespace L
open PySem PySem.Spec PyProof.Rows L2 Fl
/-! // by a divisor of any size: what the division of great numbers looks at -/
structure SeerK (K : PySem.W.Frag) (P : Program) : Prop where
  s1 : PySem.W.nsIn K cStatics "sys.audit-hooks" = some none
  s2 : PySem.W.nsIn K cStatics "sys.dict" = some none
  m : ∃ (oc : Value) (od : Option Addr) (es : Array DictEntry) (n : Nat) (sl : Array (Option Value)), K.lookup sysModules = some ⟨oc, od, .dict es n, sl⟩ ∧ StrKeys es ∧ nsFind es "_pylong" = none
  b : ∃ (bm : Addr) (sl : Array (Option Value)) (d : Data), PySem.W.nsIn K mainGlobals "__builtins__" = some (some (.ref bm)) ∧ K.lookup bm = some ⟨.type "module", some builtinsNs, d, sl⟩
  tree : P.given.tree = none
theorem ns_none {K : PySem.W.Frag} {h : Heap} {a : Addr} {mg : Str → Option Value} {n : Str} (X : K.In h) (G : h.Ns a mg) (e : PySem.W.nsIn K a n = some none) : mg n = none := by
  obtain ⟨o, es, ep, ho, hd, _, hf⟩ := G
  unfold PySem.W.nsIn at e
  split at e
  · rename_i c d es' n' sl q
    have := X _ _ q
    rw [ho] at this
    cases this
    cases hd
    split at e
    · cases e
    · rename_i he
      rw [← hf]
      unfold nsFind findBy
      rw [← Array.find?_toList, he]
      rfl
  · cases e
theorem SeerK.no {K : PySem.W.Frag} {P : Program} {mg : Str → Option Value} {base : Heap} (S : SeerK K P) (M : Mod K mg base) : base.NoSeer := by
  obtain ⟨mc, nc, _⟩ := M.nolimit
  obtain ⟨mb, nb, hb⟩ := M.blt
  obtain ⟨oc, od, es, n, sl, hm, sk, fm⟩ := S.m
  obtain ⟨bm, sl2, d, b1, b2⟩ := S.b
  exact ⟨⟨mc, nc, ns_none M.kin nc S.s1, ns_none M.kin nc S.s2⟩, ⟨nsFind es, ⟨_, es, n, M.kin _ _ hm, rfl, sk, fun _ => rfl⟩, fm⟩, ⟨mb, nb, hb⟩, ⟨mg, bm, _, M.glob, PySem.W.mg_of M.kin M.glob b1, M.kin _ _ b2, rfl, rfl⟩⟩
theorem op_fdivP {X : Cx} (S : SeerK X.K X.prog) (hr : Room 32 X.A) (hst : X.stack = X.env :: X.outer := by rfl) (hgn : X.env.scope.isGenerator = false := by rfl) (hco : X.env.scope.isCoroutine = false := by rfl) :
    OpR X (binaryOp .FloorDiv) (rI (fun _ j => j ≠ 0) fun i j => .int (i.fdiv j)) := by
  intro pins s σ H x y v u Q I rx ry h
  obtain ⟨i, j, rfl, rfl, hc, q⟩ := h
  obtain ⟨t, rfl⟩ := rx
  obtain ⟨t', rfl⟩ := ry
  refine floordiv_int hc ⟨.int (i.fdiv j), H, I.tok _, ⟨_, rfl⟩, q⟩ (.inr (PylongRoom.of I.nolimit ?_ ?_))
  · have := hr.dp
    show X.A.depth + 100 < recursionLimit
    omega
  · exact SeerAt.of ((S.no I.ok.mod).keeps I.bk) S.tree (env := X.env) (l := X.outer) (by rw [I.ok.frames, hst]) hgn hco I.ok.blt I.ok.glob
/-! the same as Bool tests on the part -/
def modsB (K : PySem.W.Frag) : Bool := match K.lookup sysModules with
  | some ⟨_, _, .dict es _, _⟩ => es.toList.all (fun e => match e.key with | .str _ _ => true | _ => false) && (nsFind es "_pylong").isNone
  | _ => false
theorem modsB_ok {K : PySem.W.Frag} (h : modsB K = true) : ∃ (oc : Value) (od : Option Addr) (es : Array DictEntry) (n : Nat) (sl : Array (Option Value)), K.lookup sysModules = some ⟨oc, od, .dict es n, sl⟩ ∧ StrKeys es ∧ nsFind es "_pylong" = none := by
  unfold modsB at h
  split at h
  · rename_i oc od es n sl q
    obtain ⟨h1, h2⟩ := He.ba h
    refine ⟨oc, od, es, n, sl, q, fun e he => ?_, Option.isNone_iff_eq_none.mp h2⟩
    have := List.all_eq_true.mp h1 e (Array.mem_toList_iff.mpr he)
    split at this
    · rename_i n t e2
      exact ⟨n, t, e2⟩
    · cases this
  · cases h
def mainB (K : PySem.W.Frag) : Bool := match PySem.W.nsIn K mainGlobals "__builtins__" with
  | some (some (.ref bm)) => (match K.lookup bm with
    | some ⟨.type c, some d, _, _⟩ => decide (c = "module") && decide (d = builtinsNs)
    | _ => false)
  | _ => false
theorem mainB_ok {K : PySem.W.Frag} (h : mainB K = true) : ∃ (bm : Addr) (sl : Array (Option Value)) (d : Data), PySem.W.nsIn K mainGlobals "__builtins__" = some (some (.ref bm)) ∧ K.lookup bm = some ⟨.type "module", some builtinsNs, d, sl⟩ := by
  unfold mainB at h
  split at h
  · rename_i bm q
    split at h
    · rename_i c d dt sl q2
      obtain ⟨h1, h2⟩ := He.ba h
      rw [of_decide_eq_true h1, of_decide_eq_true h2] at q2
      exact ⟨bm, sl, dt, q, q2⟩
    · cases h
  · cases h
end L

set_option Elab.async false
set_option linter.all false
set_option maxRecDepth 100000
set_option maxHeartbeats 4000000
namespace Fl
/-! ### the sum of the whole parts of (a i + b) / m, i below n -/
def fs (m a b : Nat) : Nat → Nat
  | 0 => 0
  | n + 1 => fs m a b n + (a * n + b) / m
theorem tri_succ (n : Nat) : (n + 1) * n / 2 = n * (n - 1) / 2 + n := by
  cases n with
  | zero => rfl
  | succ k =>
    have e : (k + 1 + 1) * (k + 1) = (k + 1) * (k + 1 - 1) + 2 * (k + 1) := by
      rw [Nat.add_sub_cancel, show k + 1 + 1 = k + 2 from rfl, Nat.add_mul, Nat.mul_comm k (k + 1)]
    rw [e, Nat.add_mul_div_left _ _ (by decide)]
theorem fs_split {m : Nat} (hm : 0 < m) (a b : Nat) : ∀ n : Nat, fs m a b n = n * (n - 1) / 2 * (a / m) + n * (b / m) + fs m (a % m) (b % m) n
  | 0 => by simp [fs]
  | n + 1 => by
    have ih := fs_split hm a b n
    have e : (a * n + b) / m = n * (a / m) + b / m + ((a % m) * n + b % m) / m := by
      have e1 : a * n + b = (a % m * n + b % m) + m * (n * (a / m) + b / m) := by
        have h1 := Nat.mod_add_div a m
        have h2 := Nat.mod_add_div b m
        calc a * n + b = (a % m + m * (a / m)) * n + (b % m + m * (b / m)) := by rw [h1, h2]
          _ = (a % m * n + b % m) + m * (n * (a / m) + b / m) := by
            rw [Nat.add_mul, Nat.mul_add, Nat.mul_assoc, Nat.mul_comm (a / m) n]
            omega
      rw [e1, Nat.add_mul_div_left _ _ hm]
      omega
    show fs m a b n + (a * n + b) / m = (n + 1) * (n + 1 - 1) / 2 * (a / m) + (n + 1) * (b / m) + (fs m (a % m) (b % m) n + (a % m * n + b % m) / m)
    rw [Nat.add_sub_cancel, tri_succ, ih, e, Nat.add_mul, Nat.add_mul]
    omega
theorem fs_up {a m r : Nat} (ha : 0 < a) : ∀ k : Nat, fs a m (r + a) k = fs a m r k + k
  | 0 => rfl
  | k + 1 => by
    have ih := fs_up (m := m) (r := r) ha k
    show fs a m (r + a) k + (m * k + (r + a)) / a = fs a m r k + (m * k + r) / a + (k + 1)
    rw [ih, ← Nat.add_assoc, Nat.add_div_right _ ha]
    omega
theorem fs_shift {a m r : Nat} : ∀ k : Nat, fs a m r (k + 1) = r / a + fs a m (r + m) k
  | 0 => by
    show 0 + (m * 0 + r) / a = r / a + 0
    rw [Nat.mul_zero, Nat.zero_add, Nat.zero_add, Nat.add_zero]
  | k + 1 => by
    have ih := fs_shift (a := a) (m := m) (r := r) k
    show fs a m r (k + 1) + (m * (k + 1) + r) / a = r / a + (fs a m (r + m) k + (m * k + (r + m)) / a)
    rw [ih, Nat.mul_add, Nat.mul_one, Nat.add_assoc (m * k), Nat.add_comm m r]
    omega
theorem fs_swap {m a b : Nat} (ham : a < m) (hbm : b < m) (ha : 0 < a) : ∀ n : Nat, fs m a b n = fs a m ((a * n + b) % m) ((a * n + b) / m)
  | 0 => by
    have e : (a * 0 + b) / m = 0 := by
      rw [Nat.mul_zero, Nat.zero_add]
      exact Nat.div_eq_of_lt hbm
    rw [e]
    rfl
  | n + 1 => by
    have hm : 0 < m := by omega
    have ih := fs_swap ham hbm ha n
    show fs m a b n + (a * n + b) / m = _
    rw [ih]
    have hr := Nat.mod_lt (a * n + b) hm
    have hd := Nat.mod_add_div (a * n + b) m
    generalize hR : (a * n + b) % m = r at *
    generalize hK : (a * n + b) / m = K at *
    have e : a * (n + 1) + b = m * K + (r + a) := by
      rw [Nat.mul_add, Nat.mul_one]
      omega
    rw [e, Nat.mul_add_mod, Nat.mul_add_div hm]
    by_cases hc : r + a < m
    · rw [Nat.mod_eq_of_lt hc, Nat.div_eq_of_lt hc, Nat.add_zero, fs_up ha]
    · have h1 : (r + a) / m = 1 := by
        rw [Nat.div_eq_sub_div hm (by omega), Nat.div_eq_of_lt (by omega)]
      have h2 : (r + a) % m = r + a - m := by
        rw [Nat.mod_eq_sub_mod (by omega), Nat.mod_eq_of_lt (by omega)]
      rw [h1, h2, fs_shift, Nat.div_eq_of_lt (by omega : r + a - m < a), show r + a - m + m = r + a by omega, fs_up ha]
      omega
theorem fs_zero {m b : Nat} (hbm : b < m) : ∀ n : Nat, fs m 0 b n = 0
  | 0 => rfl
  | n + 1 => by
    show fs m 0 b n + (0 * n + b) / m = 0
    rw [fs_zero hbm n, Nat.zero_mul, Nat.zero_add, Nat.zero_add, Nat.div_eq_of_lt hbm]
/-- one turn of Euclid's rule -/
theorem fs_turn {m : Nat} (hm : 0 < m) (a b n : Nat) : fs m a b n = n * (n - 1) / 2 * (a / m) + n * (b / m) + fs (a % m) m ((a % m * n + b % m) % m) ((a % m * n + b % m) / m) := by
  rw [fs_split hm]
  have h1 := Nat.mod_lt a hm
  have h2 := Nat.mod_lt b hm
  by_cases h0 : a % m = 0
  · rw [h0, Nat.zero_mul, Nat.zero_add, fs_zero h2, Nat.div_eq_of_lt h2]
    rfl
  · rw [fs_swap h1 h2 (by omega)]
theorem fs_tot {n m a b tot : Nat} (hn : 0 < n) : (tot : Int) + (n : Int) * ((n : Int) - 1) / 2 * ((a : Int) / (m : Int)) + (n : Int) * ((b : Int) / (m : Int)) = ((tot + n * (n - 1) / 2 * (a / m) + n * (b / m) : Nat) : Int) := by
  have e : (n : Int) - 1 = ((n - 1 : Nat) : Int) := by omega
  rw [e]
  simp only [Int.natCast_add, Int.natCast_mul, Int.natCast_ediv]
  rfl
theorem fs_many_le {n m a b : Nat} (hm : 0 < m) (hn : 0 < n) : (a % m * n + b % m) / m ≤ n := by
  have h1 := Nat.mod_lt a hm
  have h2 := Nat.mod_lt b hm
  have h3 : a % m * n ≤ (m - 1) * n := Nat.mul_le_mul_right n (by omega)
  have h4 : (m - 1) * n = m * n - n := by rw [Nat.sub_mul, Nat.one_mul]
  have h5 : n ≤ m * n := Nat.le_mul_of_pos_left n hm
  refine Nat.le_of_lt_succ (Nat.div_lt_of_lt_mul ?_)
  rw [Nat.mul_succ]
  omega
end Fl

set_option Elab.async false
set_option linter.all false
set_option maxRecDepth 100000
set_option maxHeartbeats 4000000
/-! the facts of a head by a hook of one's own: Bool tests on a part of the heap, defs by address -/
namespace Kh
open PySem PySem.Spec PyProof.Rows L2
structure Fd where
  at_ : PySem.W.Frag → Addr
  name : Str
  qual : Str
  ps : Arguments
  body : List Stmt
  scope : Scope
  dv : List V := []
  kw : List (Str × V) := []
  clo : List Str := []
def fw (K : PySem.W.Frag) (a : Addr) : He.FnW := match K.lookup a with
  | some ⟨_, _, .func d, _⟩ => some (d.name, d.qualname, d.params, d.body, d.scope, d.globals, d.closure.map fun p => (p.1, 0), d.builtins)
  | _ => none
def Fd.val (d : Fd) : He.FnW := some (d.name, d.qual, d.ps, .stmts d.body, d.scope, mainGlobals, d.clo.map fun x => (x, 0), builtinsNs)
def Fd.ok (K : PySem.W.Frag) (d : Fd) : Bool := PySem.W.keepIn K (.ref (d.at_ K)) && (match K.lookup (d.at_ K) with
  | some ⟨_, _, .func z, _⟩ => PySem.W.codeIn K z.code d.qual && (He.dflB K z.defaults d.dv && He.kwdB K z.kwdefaults d.kw)
  | _ => false)
theorem Fd.getX {K : PySem.W.Frag} {d : Fd} (e : fw K (d.at_ K) = d.val) (c : d.ok K = true) : ∃ (oc : Value) (od : Option Addr) (dV kV dc pm : Value) (an : Option Addr) (cd ct : Value) (sl : Array (Option Value)) (cs : List (Str × Addr)),
    K.lookup (d.at_ K) = some ⟨oc, od, .func (PySem.W.fnX d.name d.qual d.ps d.body d.scope cs dV kV dc pm an cd ct), sl⟩ ∧ PySem.W.codeIn K cd d.qual = true ∧ PySem.W.keepIn K (.ref (d.at_ K)) = true ∧ DflV K dV d.dv ∧ KwdV K kV d.kw ∧ (cs.map fun p => (p.1, (0 : Addr))) = d.clo.map fun x => (x, (0 : Addr)) := by
  obtain ⟨kp, c2⟩ := He.ba c
  unfold fw at e
  cases q : K.lookup (d.at_ K) with
  | none => rw [q] at c2; cases c2
  | some o =>
    obtain ⟨oc, od, dt, osl⟩ := o
    rw [q] at c2 e
    cases dt with
    | func z =>
      obtain ⟨n1, n2, n3, n4, n5, n6, n7, n8, n9, n10, n11, n12, n13, n14, n15⟩ := z
      have e2 : (some (n1, n2, n3, n4, n5, n6, n7.map fun p => (p.1, (0 : Addr)), n15) : He.FnW) = some (d.name, d.qual, d.ps, .stmts d.body, d.scope, mainGlobals, d.clo.map fun x => (x, (0 : Addr)), builtinsNs) := e
      simp only [Option.some.injEq, Prod.mk.injEq] at e2
      obtain ⟨h1, h2, h3, h4, h5, h6, h7, h8⟩ := e2
      subst h1 h2 h3 h4 h5 h6 h8
      have c3 : (PySem.W.codeIn K n13 d.qual && (He.dflB K n8 d.dv && He.kwdB K n9 d.kw)) = true := c2
      obtain ⟨k1, k2⟩ := He.ba c3
      obtain ⟨k3, k4⟩ := He.ba k2
      exact ⟨oc, od, n8, n9, n10, n11, n12, n13, n14, osl, n7, rfl, k1, kp, He.dflB_ok k3, He.kwdB_ok k4, h7⟩
    | _ => cases c2
theorem Fd.get {K : PySem.W.Frag} {d : Fd} (e : fw K (d.at_ K) = d.val) (c : d.ok K = true) (hc : d.clo = [] := by rfl) : ∃ (oc : Value) (od : Option Addr) (dV kV dc pm : Value) (an : Option Addr) (cd ct : Value) (sl : Array (Option Value)),
    K.lookup (d.at_ K) = some ⟨oc, od, .func (PySem.W.fnOf d.name d.qual d.ps d.body d.scope dV kV dc pm an cd ct), sl⟩ ∧ PySem.W.codeIn K cd d.qual = true ∧ PySem.W.keepIn K (.ref (d.at_ K)) = true ∧ DflV K dV d.dv ∧ KwdV K kV d.kw := by
  obtain ⟨oc, od, dV, kV, dc, pm, an, cd, ct, sl, cs, h1, h2, h3, h4, h5, h6⟩ := Fd.getX e c
  rw [hc] at h6
  obtain rfl : cs = [] := List.map_eq_nil_iff.mp h6
  exact ⟨oc, od, dV, kV, dc, pm, an, cd, ct, sl, h1, h2, h3, h4, h5⟩
/-- a def with the cell __class__: its code, its cell -/
def fileB (K : PySem.W.Frag) (v : Value) (file : Str) : Bool := match v with
  | .ref c => (match K.lookup c with
    | some ⟨_, _, .fields vs, _⟩ => (match (vs[2]? : Option Value) with
      | some (.str s _) => decide (s = file)
      | _ => false)
    | _ => false)
  | _ => false
def cellB (K : PySem.W.Frag) (cs : List (Str × Addr)) (CC : Addr) : Bool := match cs with
  | [(_, cc)] => (match K.lookup cc with
    | some ⟨_, _, .cell (some (.ref D)), _⟩ => decide (D = CC)
    | _ => false)
  | _ => false
def supB (K : PySem.W.Frag) (f CC : Addr) (file : Str) : Bool := match K.lookup f with
  | some ⟨_, _, .func z, _⟩ => fileB K z.code file && cellB K z.closure CC
  | _ => false
structure Cf (K : PySem.W.Frag) (CC f : Addr) (name qual : Str) (ps : Arguments) (body : List Stmt) (scope : Scope) (file : Str) (cc cda : Addr) : Prop where
  f_ : ∃ (oc : Value) (od : Option Addr) (osl : Array (Option Value)) (kd : Addr) (doc pm ct : Value) (an : Option Addr), K.lookup f = some ⟨oc, od, .func (PySem.W.fnX name qual ps body scope [("__class__", cc)] .none (.ref kd) doc pm an (.ref cda) ct), osl⟩
  codeI : PySem.W.codeIn K (.ref cda) qual = true
  code : ∃ (ccl : Value) (cdd : Option Addr) (vs : Array Value) (ccs : Array (Option Value)) (tf : Tok), K.lookup cda = some ⟨ccl, cdd, .fields vs, ccs⟩ ∧ vs[2]? = some (.str file tf)
  cell : ∃ (cl : Value) (cld : Option Addr) (csl : Array (Option Value)), K.lookup cc = some ⟨cl, cld, .cell (some (.ref CC)), csl⟩
theorem dfl_nil {K : PySem.W.Frag} {dV : Value} (h : DflV K dV []) : dV = .none := by
  rcases h with h | h
  · exact h.2
  · exact absurd rfl h.1
theorem dfl_one {K : PySem.W.Frag} {dV : Value} (h : DflV K dV [.int 1]) : ∃ (T : Addr) (oc : Value) (od : Option Addr) (tk : Tok) (n : Nat) (sl : Array (Option Value)), dV = .ref T ∧ K.lookup T = some ⟨oc, od, .seq #[.int 1 tk] n, sl⟩ := by
  rcases h with h | ⟨_, T, o, its, n, e, hk, hd, r⟩
  · cases h.1
  · obtain ⟨u, rfl, ru⟩ := vals1 r
    obtain ⟨tk, rfl⟩ := ru
    obtain ⟨oc, od, dt, sl⟩ := o
    have hd : dt = _ := hd
    subst hd
    exact ⟨T, oc, od, tk, n, sl, e, hk⟩
theorem kwd_ties {K : PySem.W.Frag} {kV : Value} (h : KwdV K kV [("ties", .int 0)]) : ∃ (D : Addr) (tk : Tok), kV = .ref D ∧ PySem.W.nsIn K D "ties" = some (some (.int 0 tk)) := by
  rcases h with h | ⟨D, e, h⟩
  · cases h
  · obtain ⟨u, hu, tk, r⟩ := h _ (List.mem_singleton.mpr rfl)
    exact ⟨D, tk, e, by rw [hu, r]⟩
theorem sup_get {K : PySem.W.Frag} {d : Fd} {CC : Addr} {file : Str} (e : fw K (d.at_ K) = d.val) (c : d.ok K = true) (hc : d.clo = [("__class__" : Str)]) (hdv : d.dv = []) (hkw : d.kw = [(("ties" : Str), V.int 0)]) (t : supB K (d.at_ K) CC file = true) : ∃ cc cda : Addr, Cf K CC (d.at_ K) d.name d.qual d.ps d.body d.scope file cc cda := by
  obtain ⟨oc, od, dV, kV, dc, pm, an, cd, ct, sl, cs, h1, h2, h3, h4, h5, h6⟩ := Fd.getX e c
  rw [hc] at h6
  rw [hdv] at h4
  rw [hkw] at h5
  obtain rfl := dfl_nil h4
  obtain ⟨kd, _, rfl, _⟩ := kwd_ties h5
  obtain ⟨cc, rfl⟩ : ∃ cc, cs = [(("__class__" : Str), cc)] := by
    cases cs with
    | nil => cases h6
    | cons p r =>
      obtain ⟨p1, p2⟩ := p
      have h7 : ((p1, (0 : Addr)) :: r.map fun p => (p.1, (0 : Addr))) = [(("__class__" : Str), (0 : Addr))] := h6
      simp only [List.cons.injEq, Prod.mk.injEq, List.map_eq_nil_iff] at h7
      obtain ⟨⟨rfl, _⟩, rfl⟩ := h7
      exact ⟨p2, rfl⟩
  unfold supB at t
  rw [h1] at t
  obtain ⟨t1, t2⟩ := He.ba t
  have t1 : fileB K cd file = true := t1
  have t3 : cellB K [(("__class__" : Str), cc)] CC = true := t2
  unfold fileB at t1
  cases cd with
  | ref cda =>
    refine ⟨cc, cda, ⟨oc, od, sl, kd, dc, pm, ct, an, h1⟩, h2, ?_, ?_⟩
    · dsimp only at t1
      cases q : K.lookup cda with
      | none => rw [q] at t1; cases t1
      | some o =>
        obtain ⟨a, b, dt, s⟩ := o
        rw [q] at t1
        cases dt with
        | fields vs =>
          dsimp only at t1
          cases q2 : (vs[2]? : Option Value) with
          | none => rw [q2] at t1; cases t1
          | some u =>
            rw [q2] at t1
            cases u with
            | str x tf =>
              have e3 : x = file := of_decide_eq_true t1
              exact ⟨a, b, vs, s, tf, rfl, by rw [q2, e3]⟩
            | _ => cases t1
        | _ => cases t1
    · clear t2
      unfold cellB at t3
      dsimp only at t3
      cases q : K.lookup cc with
      | none => rw [q] at t3; cases t3
      | some o =>
        obtain ⟨a, b, dt, s⟩ := o
        rw [q] at t3
        cases dt with
        | cell x =>
          cases x with
          | none => cases t3
          | some y =>
            cases y with
            | ref D =>
              have e3 : D = CC := of_decide_eq_true t3
              exact ⟨a, b, s, by rw [e3]⟩
            | _ => cases t3
        | _ => cases t3
  | _ => cases t1
def intB (x : Option (Option Value)) (i : Int) : Bool := match x with
  | some (some (.int j _)) => decide (j = i)
  | _ => false
theorem intB_ok {x : Option (Option Value)} {i : Int} (h : intB x i = true) : ∃ t, x = some (some (.int i t)) := by
  cases x with
  | none => cases h
  | some y =>
    cases y with
    | none => cases h
    | some v =>
      cases v with
      | int j t =>
        have e : j = i := of_decide_eq_true h
        exact ⟨t, by rw [e]⟩
      | _ => cases h
def clsB (x : Option (PySem.W.CFound)) (i : Int) : Bool := match x with
  | some (.val (.int j _)) => decide (j = i)
  | _ => false
theorem clsB_ok {x : Option (PySem.W.CFound)} {i : Int} (h : clsB x i = true) : ∃ t, x = some (.val (.int i t)) := by
  cases x with
  | none => cases h
  | some y =>
    cases y with
    | get _ _ _ _ => cases h
    | val v =>
      cases v with
      | int j t =>
        have e : j = i := of_decide_eq_true h
        exact ⟨t, by rw [e]⟩
      | _ => cases h
def r1 (K : PySem.W.Frag) (p : Addr) (s : String) : Addr := match PySem.W.recIn K p s with
  | some (.ref g :: _) => g
  | _ => 0
def r2 (K : PySem.W.Frag) (p : Addr) (s : String) : List Value := match PySem.W.recIn K p s with
  | some (_ :: r) => r
  | _ => []
def bltB (x : Option Value) (n : String) : Bool := match x with
  | some (.builtin m) => decide (m = n)
  | _ => false
theorem bltB_ok {x : Option Value} {n : String} (h : bltB x n = true) : x = some (.builtin n) := by
  cases x with
  | none => cases h
  | some v =>
    cases v with
    | builtin m => rw [show m = n from of_decide_eq_true h]
    | _ => cases h
def slB (sl : Array (Option Value)) (n : String) : Bool := match sl.toList with
  | [_, _, _, _, x, _] => bltB x n
  | _ => false
theorem slB_ok {sl : Array (Option Value)} {n : String} (h : slB sl n = true) : ∃ k0 k1 k2 k3 k5, sl = #[k0, k1, k2, k3, some (.builtin n), k5] := by
  obtain ⟨l⟩ := sl
  cases l with
  | nil => cases h
  | cons k0 l => cases l with
    | nil => cases h
    | cons k1 l => cases l with
      | nil => cases h
      | cons k2 l => cases l with
        | nil => cases h
        | cons k3 l => cases l with
          | nil => cases h
          | cons x l => cases l with
            | nil => cases h
            | cons k5 l => cases l with
              | cons _ _ => cases h
              | nil => exact ⟨k0, k1, k2, k3, k5, by rw [bltB_ok (show bltB x n = true from h)]⟩
def pxB (K : PySem.W.Frag) (C : Addr) (bm : List Value) (n : String) : Bool := match K.lookup C with
  | some ⟨.type c, _, .cls z, sl⟩ => decide (c = "type") && (decide (z.mro = .ref C :: bm) && (z.hasDict && (!z.hasDel && slB sl n)))
  | _ => false
theorem pxB_ok {K : PySem.W.Frag} {C : Addr} {bm : List Value} {n : String} (h : pxB K C bm n = true) : ∃ nm q N bs sn sub ab col dd k0 k1 k2 k3 k5, K.lookup C = some (excClassObj nm q C N bs bm true sn sub ab col dd k0 k1 k2 k3 k5 n) := by
  unfold pxB at h
  cases q : K.lookup C with
  | none => rw [q] at h; cases h
  | some o =>
    obtain ⟨oc, od, dt, sl⟩ := o
    rw [q] at h
    cases oc with
    | type c =>
      cases dt with
      | cls z =>
        have h : (decide (c = "type") && (decide (z.mro = .ref C :: bm) && (z.hasDict && (!z.hasDel && slB sl n)))) = true := h
        obtain ⟨h1, h⟩ := He.ba h
        obtain ⟨h2, h⟩ := He.ba h
        obtain ⟨h3, h⟩ := He.ba h
        obtain ⟨h4, h5⟩ := He.ba h
        obtain ⟨k0, k1, k2, k3, k5, e⟩ := slB_ok h5
        have h1 : c = "type" := of_decide_eq_true h1
        have h2 : z.mro = .ref C :: bm := of_decide_eq_true h2
        have hdel : z.hasDel = false := by
          cases e9 : z.hasDel with
          | false => rfl
          | true => rw [e9] at h4; cases h4
        clear h4
        obtain ⟨z1, z2, z3, z4, z5, z6, z7, z8, z9, z10, z11⟩ := z
        simp only at h2 h3 hdel
        subst h1 h2 h3 hdel e
        exact ⟨_, _, _, _, _, _, _, _, _, _, _, _, _, _, rfl⟩
      | _ => cases h
    | _ => cases dt <;> cases h
/-! ### the hook -/
abbrev Ob : Type := Bool × List He.FnW
def obsK (ts : PySem.W.Frag → List Bool) (fn : List Fd) (K : PySem.W.Frag) : Ob := ((ts K).all id && fn.all fun d => d.ok K, fn.map fun d => fw K (d.at_ K))
def valK (fn : List Fd) : Ob := (true, fn.map Fd.val)
def SaysK (ts : PySem.W.Frag → List Bool) (fn : List Fd) (K : PySem.W.Frag) : Prop := obsK ts fn K = valK fn
/-- the part: the module's names, the last objects that were laid -/
def asN (cnt n : Nat) : List Addr := mainGlobals :: cStatics :: sysModules :: 4 :: (List.range cnt).map fun i => n - 1 - i
def obN (cnt : Nat) (ts : PySem.W.Frag → List Bool) (fn : List Fd) (n : Nat) (g : Addr → Option Obj) : Ob := obsK ts fn (He.frG g (asN cnt n))
def hookK (cnt : Nat) (ts : PySem.W.Frag → List Bool) (fn : List Fd) : PySem.W.Hook where
  α := Ob
  obs := fun s => obN cnt ts fn s.heap.objs.size s.heap.get?
  val := fun _ => valK fn
  says := fun _ h => ∃ K : PySem.W.Frag, K.In h ∧ SaysK ts fn K
  of := fun _ _ e => ⟨_, He.frG_in, e⟩
  keeps := fun _ _ _ ⟨K, hK, c⟩ k => ⟨K, PySem.W.Frag.In.keeps hK k, c⟩
/-! ### the same, the part laid out first -/
def frL {α : Type} (as : List Addr) (g : Addr → Option Obj) (k : PySem.W.Frag → α) : α := match as with
  | [] => k []
  | a :: r => HandSHeadRun.frNat a fun a => match g a with
    | some ⟨c, d, dt, sl⟩ => frL r g fun l => k ((a, ⟨c, d, dt, sl⟩) :: l)
    | none => frL r g k
theorem frL_eq {α : Type} {g : Addr → Option Obj} : ∀ (as : List Addr) (k : PySem.W.Frag → α), frL as g k = k (He.frG g as)
  | [], k => rfl
  | a :: r, k => by
    unfold frL
    rw [HandSHeadRun.frNat_eq]
    cases e : g a with
    | none =>
      show frL r g k = _
      rw [frL_eq r k]
      congr 1
      unfold He.frG
      rw [List.filterMap_cons, e]
      rfl
    | some o =>
      obtain ⟨c, d, dt, sl⟩ := o
      show (frL r g fun l => k ((a, ⟨c, d, dt, sl⟩) :: l)) = _
      rw [frL_eq r]
      congr 1
      unfold He.frG
      rw [List.filterMap_cons, e]
      rfl
def obF (cnt : Nat) (ts : PySem.W.Frag → List Bool) (fn : List Fd) (s : PySem.W.SharedT) : Ob := frL (asN cnt s.n) (HandSHeadRun.getT s) fun K => obsK ts fn K
theorem obF_eq {cnt : Nat} {ts : PySem.W.Frag → List Bool} {fn : List Fd} (s : PySem.W.SharedT) : obF cnt ts fn s = (hookK cnt ts fn).obs s.abs := by
  unfold obF
  rw [frL_eq]
  have e1 : s.abs.heap.objs.size = s.n := PySem.W.absHeap_size s.tree s.n s.life
  have e2 : HandSHeadRun.getT s = s.abs.heap.get? := funext fun a => HandSHeadRun.getT_eq s a
  show _ = obN cnt ts fn s.abs.heap.objs.size s.abs.heap.get?
  rw [e1, e2]
  rfl
theorem SaysK.test {ts : PySem.W.Frag → List Bool} {fn : List Fd} {K : PySem.W.Frag} (c : SaysK ts fn K) {b : Bool} (i : Nat) (h : (ts K)[i]? = some b) : b = true := by
  have c1 := (He.ba (show ((ts K).all id && fn.all fun d => d.ok K) = true from congrArg (fun z : Ob => z.1) c)).1
  exact List.all_eq_true.mp c1 b (List.mem_of_getElem? h)
theorem SaysK.def_ {ts : PySem.W.Frag → List Bool} {fn : List Fd} {K : PySem.W.Frag} (c : SaysK ts fn K) (i : Nat) {d : Fd} (h : fn[i]? = some d) : fw K (d.at_ K) = d.val ∧ d.ok K = true := by
  have c2 := (He.ba (show ((ts K).all id && fn.all fun d => d.ok K) = true from congrArg (fun z : Ob => z.1) c)).2
  have e : fn.map (fun d => fw K (d.at_ K)) = fn.map Fd.val := congrArg (fun z : Ob => z.2) c
  have e2 : (fn.map fun d => fw K (d.at_ K))[i]? = (fn.map Fd.val)[i]? := by rw [e]
  rw [List.getElem?_map, List.getElem?_map, h] at e2
  exact ⟨Option.some.inj e2, List.all_eq_true.mp c2 d (List.mem_of_getElem? h)⟩
/-- the run's equation, part by part (the kernel's memory) -/
theorem run_split {r : PySem.W.OpenRow} {q : Program} {n M : Nat} {ta tb : PySem.W.Frag → List Bool} {fn : List Fd} {loose : List PySem.Str} {w : World}
    (A : (HandSHeadRun.wholeF (fun p => HandSHeadRun.stepQ (HandSHeadRun.denQ HandSHeadRun.tabQ) p w) HandSHeadRun.fenceQ M r.prog).map (fun x => (HandSHeadRun.looksF r.prog x.1.heap x.2.abs, HandSHeadRun.seenQ q loose (importedModules r.prog.main.body) (fun s => PySem.W.xlAt q [] s && PySem.W.recOk r.toRowW.records s) x.2.abs)) = some (true, PySem.W.openGood q loose))
    (B : (HandSHeadRun.wholeF (fun p => HandSHeadRun.stepQ (HandSHeadRun.denQ HandSHeadRun.tabQ) p w) HandSHeadRun.fenceQ M r.prog).map (fun x => frL (asN n x.2.n) (HandSHeadRun.getT x.2) fun K => (ta K).all id) = some true)
    (C : (HandSHeadRun.wholeF (fun p => HandSHeadRun.stepQ (HandSHeadRun.denQ HandSHeadRun.tabQ) p w) HandSHeadRun.fenceQ M r.prog).map (fun x => frL (asN n x.2.n) (HandSHeadRun.getT x.2) fun K => (tb K).all id) = some true)
    (D : (HandSHeadRun.wholeF (fun p => HandSHeadRun.stepQ (HandSHeadRun.denQ HandSHeadRun.tabQ) p w) HandSHeadRun.fenceQ M r.prog).map (fun x => frL (asN n x.2.n) (HandSHeadRun.getT x.2) fun K => (fn.all fun d => d.ok K, fn.map fun d => fw K (d.at_ K))) = some (true, fn.map Fd.val)) :
    HandSHeadRun.RunEqI r q (hookK n (fun K => ta K ++ tb K) fn) (obF n (fun K => ta K ++ tb K) fn) M loose w := by
  unfold HandSHeadRun.RunEqI
  cases h : HandSHeadRun.wholeF (fun p => HandSHeadRun.stepQ (HandSHeadRun.denQ HandSHeadRun.tabQ) p w) HandSHeadRun.fenceQ M r.prog with
  | none => rw [h] at A; cases A
  | some x =>
    rw [h] at A B C D
    have a := Option.some.inj A
    have b := Option.some.inj B
    have c := Option.some.inj C
    have d := Option.some.inj D
    have a1 := congrArg Prod.fst a
    have a2 := congrArg Prod.snd a
    dsimp only at a1 a2 b c d
    rw [frL_eq] at b c d
    have d1 := congrArg Prod.fst d
    have d2 := congrArg Prod.snd d
    dsimp only at d1 d2
    have e : obF n (fun K => ta K ++ tb K) fn x.2 = valK fn := by
      unfold obF
      rw [frL_eq]
      unfold obsK valK
      rw [List.all_append, b, c, d1, d2]
      rfl
    show some (_, _, obF n (fun K => ta K ++ tb K) fn x.2) = some (true, PySem.W.openGood q loose, valK fn)
    rw [a1, a2, e]
end Kh

set_option Elab.async false
set_option linter.all false
namespace Kh
open PySem PySem.Spec PyProof.Rows L2
/-- the class method p of the class C -/
def cmB (x : Option PySem.W.CFound) (C p : Addr) : Bool := match x with
  | some (.get a b c d) => decide (a = .builtin "classmethod.__get__") && (decide (b = .ref p) && (decide (c = .none) && decide (d = .ref C)))
  | _ => false
theorem cmB_ok {x : Option PySem.W.CFound} {C p : Addr} (h : cmB x C p = true) : x = some (.get (.builtin "classmethod.__get__") (.ref p) .none (.ref C)) := by
  cases x with
  | none => cases h
  | some y =>
    cases y with
    | val v => cases h
    | get a b c d =>
      have h : (decide (a = .builtin "classmethod.__get__") && (decide (b = .ref p) && (decide (c = .none) && decide (d = .ref C)))) = true := h
      obtain ⟨h1, h⟩ := He.ba h
      obtain ⟨h2, h⟩ := He.ba h
      obtain ⟨h3, h4⟩ := He.ba h
      rw [of_decide_eq_true h1, of_decide_eq_true h2, of_decide_eq_true h3, of_decide_eq_true h4]
end Kh

set_option Elab.async false
set_option linter.all false
set_option maxRecDepth 100000
set_option maxHeartbeats 4000000
set_option pp.maxSteps 160
set_option pp.deepTerms false
namespace L
open PySem PySem.Spec PyProof.Rows L2 Fl
local macro_rules | `(tactic| walk_at "side") => `(tactic| first | (exact .inl ⟨by omega, by omega⟩) | (exact .inr ⟨by omega, by omega⟩) | (exact .inr ⟨by decide, by decide⟩) | (show (_ : Int) ≠ _; omega) | (exact ⟨by omega, by decide⟩) | (exact ⟨by decide, by decide, by decide⟩))
local macro_rules | `(tactic| walk_at "go") => `(tactic| repeat (first | refine ⟨_, rfl, ?_⟩ | refine ⟨_, _, rfl, rfl, ?_⟩ | refine .inl ⟨_, rfl, ?_⟩ | refine ⟨rfl, ?_⟩ | refine ⟨(by walk_at "side"), ?_⟩))
local macro_rules | `(tactic| walk_at "see") => `(tactic| (set_option pp.maxSteps 110 in set_option pp.deepTerms false in trace_state))
local macro_rules | `(tactic| walk_at "if") => `(tactic| first | refine ifE ?_ ?_ | refine ifNE ?_ ?_ | refine ifD ?_ ?_ | refine ifN ?_ ?_ | refine ifB ?_ ?_)
def topS (i : Nat) : Stmt := PySem.Challenge.pw_fieldlots_k22_first_difference.main.body.getD i (.Pass ⟨0, 0, 0, 0⟩)
abbrev s_wall : Stmt := topS 1
theorem sc_wall : FnScope ["k"] ["k"] (defScope s_wall) := ⟨rfl, rfl, rfl, by decide +kernel, rfl, by decide +kernel, by decide +kernel⟩
abbrev s_BadNumber_init : Stmt := inClass (topS 5) 0
theorem sc_BadNumber_init : FnScope ["self", "name", "value"] ["self", "name", "value"] (defScope s_BadNumber_init) := ⟨rfl, rfl, rfl, by decide +kernel, rfl, by decide +kernel, by decide +kernel⟩
abbrev s_TooMany_init : Stmt := inClass (topS 8) 0
theorem sc_TooMany_init : FnScope ["self", "name", "most"] ["self", "name", "most"] (defScope s_TooMany_init) := ⟨rfl, rfl, rfl, by decide +kernel, rfl, by decide +kernel, by decide +kernel⟩
abbrev s_check_ties : Stmt := topS 10
theorem sc_check_ties : FnScope ["ties"] ["ties"] (defScope s_check_ties) := ⟨rfl, rfl, rfl, by decide +kernel, rfl, by decide +kernel, by decide +kernel⟩
abbrev s_is_number : Stmt := topS 13
theorem sc_is_number : FnScope ["value"] ["value"] (defScope s_is_number) := ⟨rfl, rfl, rfl, by decide +kernel, rfl, by decide +kernel, by decide +kernel⟩
abbrev s_as_ratio : Stmt := topS 14
theorem sc_as_ratio : FnScope ["number"] ["number"] (defScope s_as_ratio) := ⟨rfl, rfl, rfl, by decide +kernel, rfl, by decide +kernel, by decide +kernel⟩
abbrev s_added : Stmt := topS 15
theorem sc_added : FnScope ["numbers", "total", "number"] ["numbers"] (defScope s_added) := ⟨rfl, rfl, rfl, by decide +kernel, rfl, by decide +kernel, by decide +kernel⟩
abbrev s_top_of : Stmt := topS 16
theorem sc_top_of : FnScope ["number"] ["number"] (defScope s_top_of) := ⟨rfl, rfl, rfl, by decide +kernel, rfl, by decide +kernel, by decide +kernel⟩
abbrev s_under_of : Stmt := topS 17
theorem sc_under_of : FnScope ["number"] ["number"] (defScope s_under_of) := ⟨rfl, rfl, rfl, by decide +kernel, rfl, by decide +kernel, by decide +kernel⟩
abbrev s_rounded_quotient : Stmt := topS 18
theorem sc_rounded_quotient : FnScope ["number", "divisor", "under"] ["number", "divisor"] (defScope s_rounded_quotient) := ⟨rfl, rfl, rfl, by decide +kernel, rfl, by decide +kernel, by decide +kernel⟩
abbrev s_remainder : Stmt := topS 19
theorem sc_remainder : FnScope ["number", "divisor"] ["number", "divisor"] (defScope s_remainder) := ⟨rfl, rfl, rfl, by decide +kernel, rfl, by decide +kernel, by decide +kernel⟩
abbrev s_Ratio_init : Stmt := inClass (topS 20) 0
theorem sc_Ratio_init : FnScope ["self", "top", "under", "shared"] ["self", "top", "under"] (defScope s_Ratio_init) := ⟨rfl, rfl, rfl, by decide +kernel, rfl, by decide +kernel, by decide +kernel⟩
abbrev s_Ratio_whole : Stmt := inClass (topS 20) 1
theorem sc_Ratio_whole : FnScope ["self"] ["self"] (defScope s_Ratio_whole) := ⟨rfl, rfl, rfl, by decide +kernel, rfl, by decide +kernel, by decide +kernel⟩
abbrev s_Ratio_floor : Stmt := inClass (topS 20) 2
theorem sc_Ratio_floor : FnScope ["self"] ["self"] (defScope s_Ratio_floor) := ⟨rfl, rfl, rfl, by decide +kernel, rfl, by decide +kernel, by decide +kernel⟩
abbrev s_Ratio_ceiling : Stmt := inClass (topS 20) 3
theorem sc_Ratio_ceiling : FnScope ["self"] ["self"] (defScope s_Ratio_ceiling) := ⟨rfl, rfl, rfl, by decide +kernel, rfl, by decide +kernel, by decide +kernel⟩
abbrev s_Ratio_over : Stmt := inClass (topS 20) 4
theorem sc_Ratio_over : FnScope ["self", "number"] ["self", "number"] (defScope s_Ratio_over) := ⟨rfl, rfl, rfl, by decide +kernel, rfl, by decide +kernel, by decide +kernel⟩
abbrev s_Ratio_power : Stmt := inClass (topS 20) 5
theorem sc_Ratio_power : FnScope ["self", "n", "top", "under", "_"] ["self", "n"] (defScope s_Ratio_power) := ⟨rfl, rfl, rfl, by decide +kernel, rfl, by decide +kernel, by decide +kernel⟩
abbrev s_Ratio_str : Stmt := inClass (topS 20) 6
theorem sc_Ratio_str : FnScope ["self"] ["self"] (defScope s_Ratio_str) := ⟨rfl, rfl, rfl, by decide +kernel, rfl, by decide +kernel, by decide +kernel⟩
abbrev s_Ratio_bool : Stmt := inClass (topS 20) 7
theorem sc_Ratio_bool : FnScope ["self"] ["self"] (defScope s_Ratio_bool) := ⟨rfl, rfl, rfl, by decide +kernel, rfl, by decide +kernel, by decide +kernel⟩
abbrev s_Ratio_neg : Stmt := inClass (topS 20) 8
theorem sc_Ratio_neg : FnScope ["self"] ["self"] (defScope s_Ratio_neg) := ⟨rfl, rfl, rfl, by decide +kernel, rfl, by decide +kernel, by decide +kernel⟩
abbrev s_Ratio_abs : Stmt := inClass (topS 20) 9
theorem sc_Ratio_abs : FnScope ["self"] ["self"] (defScope s_Ratio_abs) := ⟨rfl, rfl, rfl, by decide +kernel, rfl, by decide +kernel, by decide +kernel⟩
abbrev s_Ratio_add : Stmt := inClass (topS 20) 10
theorem sc_Ratio_add : FnScope ["self", "other", "top"] ["self", "other"] (defScope s_Ratio_add) := ⟨rfl, rfl, rfl, by decide +kernel, rfl, by decide +kernel, by decide +kernel⟩
abbrev s_Ratio_radd : Stmt := inClass (topS 20) 11
theorem sc_Ratio_radd : FnScope ["self", "other"] ["self", "other"] (defScope s_Ratio_radd) := ⟨rfl, rfl, rfl, by decide +kernel, rfl, by decide +kernel, by decide +kernel⟩
abbrev s_Ratio_sub : Stmt := inClass (topS 20) 12
theorem sc_Ratio_sub : FnScope ["self", "other", "top"] ["self", "other"] (defScope s_Ratio_sub) := ⟨rfl, rfl, rfl, by decide +kernel, rfl, by decide +kernel, by decide +kernel⟩
abbrev s_Ratio_rsub : Stmt := inClass (topS 20) 13
theorem sc_Ratio_rsub : FnScope ["self", "other"] ["self", "other"] (defScope s_Ratio_rsub) := ⟨rfl, rfl, rfl, by decide +kernel, rfl, by decide +kernel, by decide +kernel⟩
abbrev s_Ratio_mul : Stmt := inClass (topS 20) 14
theorem sc_Ratio_mul : FnScope ["self", "other"] ["self", "other"] (defScope s_Ratio_mul) := ⟨rfl, rfl, rfl, by decide +kernel, rfl, by decide +kernel, by decide +kernel⟩
abbrev s_Ratio_rmul : Stmt := inClass (topS 20) 15
theorem sc_Ratio_rmul : FnScope ["self", "other"] ["self", "other"] (defScope s_Ratio_rmul) := ⟨rfl, rfl, rfl, by decide +kernel, rfl, by decide +kernel, by decide +kernel⟩
abbrev s_Ratio_floordiv : Stmt := inClass (topS 20) 16
theorem sc_Ratio_floordiv : FnScope ["self", "other"] ["self", "other"] (defScope s_Ratio_floordiv) := ⟨rfl, rfl, rfl, by decide +kernel, rfl, by decide +kernel, by decide +kernel⟩
abbrev s_Ratio_rfloordiv : Stmt := inClass (topS 20) 17
theorem sc_Ratio_rfloordiv : FnScope ["self", "other"] ["self", "other"] (defScope s_Ratio_rfloordiv) := ⟨rfl, rfl, rfl, by decide +kernel, rfl, by decide +kernel, by decide +kernel⟩
abbrev s_Ratio_mod : Stmt := inClass (topS 20) 18
theorem sc_Ratio_mod : FnScope ["self", "other"] ["self", "other"] (defScope s_Ratio_mod) := ⟨rfl, rfl, rfl, by decide +kernel, rfl, by decide +kernel, by decide +kernel⟩
abbrev s_Ratio_rmod : Stmt := inClass (topS 20) 19
theorem sc_Ratio_rmod : FnScope ["self", "other"] ["self", "other"] (defScope s_Ratio_rmod) := ⟨rfl, rfl, rfl, by decide +kernel, rfl, by decide +kernel, by decide +kernel⟩
abbrev s_Ratio_pow : Stmt := inClass (topS 20) 20
theorem sc_Ratio_pow : FnScope ["self", "other"] ["self", "other"] (defScope s_Ratio_pow) := ⟨rfl, rfl, rfl, by decide +kernel, rfl, by decide +kernel, by decide +kernel⟩
abbrev s_Ratio_eq : Stmt := inClass (topS 20) 21
theorem sc_Ratio_eq : FnScope ["self", "other"] ["self", "other"] (defScope s_Ratio_eq) := ⟨rfl, rfl, rfl, by decide +kernel, rfl, by decide +kernel, by decide +kernel⟩
abbrev s_Ratio_lt : Stmt := inClass (topS 20) 22
theorem sc_Ratio_lt : FnScope ["self", "other"] ["self", "other"] (defScope s_Ratio_lt) := ⟨rfl, rfl, rfl, by decide +kernel, rfl, by decide +kernel, by decide +kernel⟩
abbrev s_Ratio_le : Stmt := inClass (topS 20) 23
theorem sc_Ratio_le : FnScope ["self", "other"] ["self", "other"] (defScope s_Ratio_le) := ⟨rfl, rfl, rfl, by decide +kernel, rfl, by decide +kernel, by decide +kernel⟩
abbrev s_Ratio_gt : Stmt := inClass (topS 20) 24
theorem sc_Ratio_gt : FnScope ["self", "other"] ["self", "other"] (defScope s_Ratio_gt) := ⟨rfl, rfl, rfl, by decide +kernel, rfl, by decide +kernel, by decide +kernel⟩
abbrev s_Ratio_ge : Stmt := inClass (topS 20) 25
theorem sc_Ratio_ge : FnScope ["self", "other"] ["self", "other"] (defScope s_Ratio_ge) := ⟨rfl, rfl, rfl, by decide +kernel, rfl, by decide +kernel, by decide +kernel⟩
abbrev s_Run_init : Stmt := inClass (topS 23) 0
theorem sc_Run_init : FnScope ["self", "first", "step", "count"] ["self", "first", "step", "count"] (defScope s_Run_init) := ⟨rfl, rfl, rfl, by decide +kernel, rfl, by decide +kernel, by decide +kernel⟩
abbrev s_Run_point : Stmt := inClass (topS 23) 1
theorem sc_Run_point : FnScope ["cls", "k"] ["cls", "k"] (defScope s_Run_point) := ⟨rfl, rfl, rfl, by decide +kernel, rfl, by decide +kernel, by decide +kernel⟩
abbrev s_Run_odd : Stmt := inClass (topS 23) 2
theorem sc_Run_odd : FnScope ["cls", "m"] ["cls", "m"] (defScope s_Run_odd) := ⟨rfl, rfl, rfl, by decide +kernel, rfl, by decide +kernel, by decide +kernel⟩
abbrev s_Run_even : Stmt := inClass (topS 23) 3
theorem sc_Run_even : FnScope ["cls", "m"] ["cls", "m"] (defScope s_Run_even) := ⟨rfl, rfl, rfl, by decide +kernel, rfl, by decide +kernel, by decide +kernel⟩
abbrev s_Run_between : Stmt := inClass (topS 23) 4
theorem sc_Run_between : FnScope ["cls", "low", "high"] ["cls", "low", "high"] (defScope s_Run_between) := ⟨rfl, rfl, rfl, by decide +kernel, rfl, by decide +kernel, by decide +kernel⟩
abbrev s_Run_last : Stmt := inClass (topS 23) 5
theorem sc_Run_last : FnScope ["self"] ["self"] (defScope s_Run_last) := ⟨rfl, rfl, rfl, by decide +kernel, rfl, by decide +kernel, by decide +kernel⟩
abbrev s_Run_mean : Stmt := inClass (topS 23) 6
theorem sc_Run_mean : FnScope ["self"] ["self"] (defScope s_Run_mean) := ⟨rfl, rfl, rfl, by decide +kernel, rfl, by decide +kernel, by decide +kernel⟩
abbrev s_Run_strengths : Stmt := inClass (topS 23) 7
abbrev s_Run_parted : Stmt := inClass (topS 23) 8
theorem sc_Run_parted : FnScope ["self", "n"] ["self", "n"] (defScope s_Run_parted) := ⟨rfl, rfl, rfl, by decide +kernel, rfl, by decide +kernel, by decide +kernel⟩
abbrev s_Run_below : Stmt := inClass (topS 23) 9
theorem sc_Run_below : FnScope ["self", "k"] ["self", "k"] (defScope s_Run_below) := ⟨rfl, rfl, rfl, by decide +kernel, rfl, by decide +kernel, by decide +kernel⟩
abbrev s_Run_above : Stmt := inClass (topS 23) 10
theorem sc_Run_above : FnScope ["self", "k"] ["self", "k"] (defScope s_Run_above) := ⟨rfl, rfl, rfl, by decide +kernel, rfl, by decide +kernel, by decide +kernel⟩
abbrev s_Run_chance : Stmt := inClass (topS 23) 11
theorem sc_Run_chance : FnScope ["self", "k"] ["self", "k"] (defScope s_Run_chance) := ⟨rfl, rfl, rfl, by decide +kernel, rfl, by decide +kernel, by decide +kernel⟩
abbrev s_Run_gain : Stmt := inClass (topS 23) 12
theorem sc_Run_gain : FnScope ["self", "k", "ties"] ["self", "k", "ties"] (defScope s_Run_gain) := ⟨rfl, rfl, rfl, by decide +kernel, rfl, by decide +kernel, by decide +kernel⟩
abbrev s_Run_contains : Stmt := inClass (topS 23) 13
theorem sc_Run_contains : FnScope ["self", "x"] ["self", "x"] (defScope s_Run_contains) := ⟨rfl, rfl, rfl, by decide +kernel, rfl, by decide +kernel, by decide +kernel⟩
abbrev s_Run_getitem : Stmt := inClass (topS 23) 14
theorem sc_Run_getitem : FnScope ["self", "at"] ["self", "at"] (defScope s_Run_getitem) := ⟨rfl, rfl, rfl, by decide +kernel, rfl, by decide +kernel, by decide +kernel⟩
abbrev s_Run_iter : Stmt := inClass (topS 23) 15
theorem sc_Run_iter : FnScope ["self"] ["self"] (defScope s_Run_iter) := ⟨rfl, rfl, rfl, by decide +kernel, rfl, by decide +kernel, by decide +kernel⟩
abbrev s_Run_add : Stmt := inClass (topS 23) 16
theorem sc_Run_add : FnScope ["self", "other"] ["self", "other"] (defScope s_Run_add) := ⟨rfl, rfl, rfl, by decide +kernel, rfl, by decide +kernel, by decide +kernel⟩
abbrev s_Run_eq : Stmt := inClass (topS 23) 17
theorem sc_Run_eq : FnScope ["self", "other"] ["self", "other"] (defScope s_Run_eq) := ⟨rfl, rfl, rfl, by decide +kernel, rfl, by decide +kernel, by decide +kernel⟩
abbrev s_lead : Stmt := topS 24
theorem sc_lead : FnScope ["run", "k", "ties", "greater", "less"] ["run", "k", "ties"] (defScope s_lead) := ⟨rfl, rfl, rfl, by decide +kernel, rfl, by decide +kernel, by decide +kernel⟩
abbrev s_common_under : Stmt := topS 26
theorem sc_common_under : FnScope ["blends", "under", "blend", "share", "run"] ["blends"] (defScope s_common_under) := ⟨rfl, rfl, rfl, by decide +kernel, rfl, by decide +kernel, by decide +kernel⟩
abbrev s_weighted : Stmt := topS 27
theorem sc_weighted : FnScope ["blend", "under", "share", "run"] ["blend", "under"] (defScope s_weighted) := ⟨rfl, rfl, rfl, by decide +kernel, rfl, by decide +kernel, by decide +kernel⟩
abbrev s_whole_chance : Stmt := topS 28
theorem sc_whole_chance : FnScope ["weights", "k", "weight", "run"] ["weights", "k"] (defScope s_whole_chance) := ⟨rfl, rfl, rfl, by decide +kernel, rfl, by decide +kernel, by decide +kernel⟩
abbrev s_period : Stmt := topS 29
theorem sc_period : FnScope ["runs", "k", "period", "run"] ["runs", "k"] (defScope s_period) := ⟨rfl, rfl, rfl, by decide +kernel, rfl, by decide +kernel, by decide +kernel⟩
abbrev s_stretches : Stmt := topS 30
theorem sc_stretches : FnScope ["runs", "marks", "run", "mark", "found", "low", "after"] ["runs"] (defScope s_stretches) := ⟨rfl, rfl, rfl, by decide +kernel, rfl, by decide +kernel, by decide +kernel⟩
abbrev s_first_difference : Stmt := topS 32
theorem sc_first_difference : FnScope ["one", "other", "under", "weights", "weight", "run", "low", "high", "period", "_", "k"] ["one", "other"] (defScope s_first_difference) := ⟨rfl, rfl, rfl, by decide +kernel, rfl, by decide +kernel, by decide +kernel⟩
abbrev s_check_parts : Stmt := topS 35
theorem sc_check_parts : FnScope ["parts", "shares", "share", "_"] ["parts"] (defScope s_check_parts) := ⟨rfl, rfl, rfl, by decide +kernel, rfl, by decide +kernel, by decide +kernel⟩
abbrev s_put_together : Stmt := topS 36
theorem sc_put_together : FnScope ["parts", "marks", "places", "kept", "share", "dealt", "mark", "earlier", "_"] ["parts", "marks"] (defScope s_put_together) := ⟨rfl, rfl, rfl, by decide +kernel, rfl, by decide +kernel, by decide +kernel⟩
abbrev s_Blend_init : Stmt := inClass (topS 38) 0
theorem sc_Blend_init : FnScope ["self", "parts", "_", "run"] ["self", "parts"] (defScope s_Blend_init) := ⟨rfl, rfl, rfl, by decide +kernel, rfl, by decide +kernel, by decide +kernel⟩
abbrev s_Blend_point : Stmt := inClass (topS 38) 1
theorem sc_Blend_point : FnScope ["cls", "k"] ["cls", "k"] (defScope s_Blend_point) := ⟨rfl, rfl, rfl, by decide +kernel, rfl, by decide +kernel, by decide +kernel⟩
abbrev s_Blend_of_run : Stmt := inClass (topS 38) 2
theorem sc_Blend_of_run : FnScope ["cls", "run"] ["cls", "run"] (defScope s_Blend_of_run) := ⟨rfl, rfl, rfl, by decide +kernel, rfl, by decide +kernel, by decide +kernel⟩
abbrev s_Blend_of_weights : Stmt := inClass (topS 38) 3
theorem sc_Blend_of_weights : FnScope ["cls", "weights"] ["cls", "weights"] (defScope s_Blend_of_weights) := ⟨rfl, rfl, rfl, by decide +kernel, rfl, by decide +kernel, by decide +kernel⟩
abbrev s_Blend_mean : Stmt := inClass (topS 38) 4
theorem sc_Blend_mean : FnScope ["self"] ["self"] (defScope s_Blend_mean) := ⟨rfl, rfl, rfl, by decide +kernel, rfl, by decide +kernel, by decide +kernel⟩
abbrev s_Blend_greatest : Stmt := inClass (topS 38) 5
theorem sc_Blend_greatest : FnScope ["self", "_", "run"] ["self"] (defScope s_Blend_greatest) := ⟨rfl, rfl, rfl, by decide +kernel, rfl, by decide +kernel, by decide +kernel⟩
abbrev s_Blend_mixed : Stmt := inClass (topS 38) 6
theorem sc_Blend_mixed : FnScope ["self", "share", "other"] ["self", "share", "other"] (defScope s_Blend_mixed) := ⟨rfl, rfl, rfl, by decide +kernel, rfl, by decide +kernel, by decide +kernel⟩
abbrev s_Blend_gain : Stmt := inClass (topS 38) 7
theorem sc_Blend_gain : FnScope ["self", "k", "ties", "share", "run"] ["self", "k", "ties"] (defScope s_Blend_gain) := ⟨rfl, rfl, rfl, by decide +kernel, rfl, by decide +kernel, by decide +kernel⟩
abbrev s_Blend_getitem : Stmt := inClass (topS 38) 8
theorem sc_Blend_getitem : FnScope ["self", "at", "share", "run"] ["self", "at"] (defScope s_Blend_getitem) := ⟨rfl, rfl, rfl, by decide +kernel, rfl, by decide +kernel, by decide +kernel⟩
abbrev s_Blend_contains : Stmt := inClass (topS 38) 9
theorem sc_Blend_contains : FnScope ["self", "x", "_", "run"] ["self", "x"] (defScope s_Blend_contains) := ⟨rfl, rfl, rfl, by decide +kernel, rfl, by decide +kernel, by decide +kernel⟩
abbrev s_Blend_len : Stmt := inClass (topS 38) 10
theorem sc_Blend_len : FnScope ["self"] ["self"] (defScope s_Blend_len) := ⟨rfl, rfl, rfl, by decide +kernel, rfl, by decide +kernel, by decide +kernel⟩
abbrev s_Blend_iter : Stmt := inClass (topS 38) 11
theorem sc_Blend_iter : FnScope ["self"] ["self"] (defScope s_Blend_iter) := ⟨rfl, rfl, rfl, by decide +kernel, rfl, by decide +kernel, by decide +kernel⟩
abbrev s_Blend_add : Stmt := inClass (topS 38) 12
theorem sc_Blend_add : FnScope ["self", "other", "share", "run"] ["self", "other"] (defScope s_Blend_add) := ⟨rfl, rfl, rfl, by decide +kernel, rfl, by decide +kernel, by decide +kernel⟩
abbrev s_Blend_eq : Stmt := inClass (topS 38) 13
theorem sc_Blend_eq : FnScope ["self", "other"] ["self", "other"] (defScope s_Blend_eq) := ⟨rfl, rfl, rfl, by decide +kernel, rfl, by decide +kernel, by decide +kernel⟩
abbrev s_pool : Stmt := topS 40
theorem sc_pool : FnScope ["_law_script", "_law_cell"] ["_law_script"] (defScope s_pool) := ⟨rfl, rfl, rfl, by decide +kernel, rfl, by decide +kernel, by decide +kernel⟩
abbrev s_mix : Stmt := topS 41
theorem sc_mix : FnScope ["_law_state", "_law_turn", "_law_many", "_law_first", "_law_second"] ["_law_state", "_law_turn", "_law_many"] (defScope s_mix) := ⟨rfl, rfl, rfl, by decide +kernel, rfl, by decide +kernel, by decide +kernel⟩
abbrev s_draw : Stmt := topS 42
theorem sc_draw : FnScope ["_law_pool_here", "_law_many", "_law_spare", "_law_found", "_law_cell"] ["_law_pool_here", "_law_many"] (defScope s_draw) := ⟨rfl, rfl, rfl, by decide +kernel, rfl, by decide +kernel, by decide +kernel⟩
abbrev s_wide : Stmt := topS 43
theorem sc_wide : FnScope ["_law_pool_here", "_law_size", "_law_many", "_law_found", "_law_spare"] ["_law_pool_here"] (defScope s_wide) := ⟨rfl, rfl, rfl, by decide +kernel, rfl, by decide +kernel, by decide +kernel⟩
abbrev s_gcd : Stmt := topS 44
theorem sc_gcd : FnScope ["_law_one", "_law_other", "_law_spare"] ["_law_one", "_law_other"] (defScope s_gcd) := ⟨rfl, rfl, rfl, by decide +kernel, rfl, by decide +kernel, by decide +kernel⟩
abbrev s_low : Stmt := topS 45
theorem sc_low : FnScope ["_law_top", "_law_under", "_law_common"] ["_law_top", "_law_under"] (defScope s_low) := ⟨rfl, rfl, rfl, by decide +kernel, rfl, by decide +kernel, by decide +kernel⟩
abbrev s_plus : Stmt := topS 46
theorem sc_plus : FnScope ["_law_one", "_law_other"] ["_law_one", "_law_other"] (defScope s_plus) := ⟨rfl, rfl, rfl, by decide +kernel, rfl, by decide +kernel, by decide +kernel⟩
abbrev s_times : Stmt := topS 47
theorem sc_times : FnScope ["_law_one", "_law_other"] ["_law_one", "_law_other"] (defScope s_times) := ⟨rfl, rfl, rfl, by decide +kernel, rfl, by decide +kernel, by decide +kernel⟩
abbrev s_whole : Stmt := topS 48
theorem sc_whole : FnScope ["_law_actual"] ["_law_actual"] (defScope s_whole) := ⟨rfl, rfl, rfl, by decide +kernel, rfl, by decide +kernel, by decide +kernel⟩
abbrev s_run : Stmt := topS 49
theorem sc_run : FnScope ["_law_pool_here", "_law_wide_here", "_law_first", "_law_count", "_law_step"] ["_law_pool_here", "_law_wide_here"] (defScope s_run) := ⟨rfl, rfl, rfl, by decide +kernel, rfl, by decide +kernel, by decide +kernel⟩
abbrev s_last : Stmt := topS 50
theorem sc_last : FnScope ["_law_row"] ["_law_row"] (defScope s_last) := ⟨rfl, rfl, rfl, by decide +kernel, rfl, by decide +kernel, by decide +kernel⟩
abbrev s_in : Stmt := topS 51
theorem sc_in : FnScope ["_law_row", "_law_y"] ["_law_row", "_law_y"] (defScope s_in) := ⟨rfl, rfl, rfl, by decide +kernel, rfl, by decide +kernel, by decide +kernel⟩
abbrev s_parts : Stmt := topS 52
theorem sc_parts : FnScope ["_law_pool_here", "_law_most", "_law_wide_here", "_law_parts_here", "_law_spare", "_law_weight", "_law_row", "_law_part"] ["_law_pool_here", "_law_most", "_law_wide_here"] (defScope s_parts) := ⟨rfl, rfl, rfl, by decide +kernel, rfl, by decide +kernel, by decide +kernel⟩
abbrev s_weights : Stmt := topS 53
theorem sc_weights : FnScope ["_law_parts_here", "_law_part"] ["_law_parts_here"] (defScope s_weights) := ⟨rfl, rfl, rfl, by decide +kernel, rfl, by decide +kernel, by decide +kernel⟩
abbrev s_near : Stmt := topS 54
theorem sc_near : FnScope ["_law_pool_here", "_law_parts_here", "_law_part", "_law_way"] ["_law_pool_here", "_law_parts_here"] (defScope s_near) := ⟨rfl, rfl, rfl, by decide +kernel, rfl, by decide +kernel, by decide +kernel⟩
abbrev s_greatest : Stmt := topS 55
theorem sc_greatest : FnScope ["_law_parts_here", "_law_found", "_law_part"] ["_law_parts_here"] (defScope s_greatest) := ⟨rfl, rfl, rfl, by decide +kernel, rfl, by decide +kernel, by decide +kernel⟩
abbrev s_heavy : Stmt := topS 56
theorem sc_heavy : FnScope ["_law_pool_here", "_law_parts_here", "_law_part"] ["_law_pool_here", "_law_parts_here"] (defScope s_heavy) := ⟨rfl, rfl, rfl, by decide +kernel, rfl, by decide +kernel, by decide +kernel⟩
abbrev s_spot : Stmt := topS 57
theorem sc_spot : FnScope ["_law_pool_here", "_law_parts_here", "_law_found"] ["_law_pool_here", "_law_parts_here"] (defScope s_spot) := ⟨rfl, rfl, rfl, by decide +kernel, rfl, by decide +kernel, by decide +kernel⟩
abbrev s_alike : Stmt := topS 58
theorem sc_alike : FnScope ["_law_one", "_law_other"] ["_law_one", "_law_other"] (defScope s_alike) := ⟨rfl, rfl, rfl, by decide +kernel, rfl, by decide +kernel, by decide +kernel⟩
abbrev s_single : Stmt := topS 59
theorem sc_single : FnScope ["_law_row"] ["_law_row"] (defScope s_single) := ⟨rfl, rfl, rfl, by decide +kernel, rfl, by decide +kernel, by decide +kernel⟩
abbrev s_rows : Stmt := topS 60
theorem sc_rows : FnScope ["_law_parts_here", "_law_total", "_law_part"] ["_law_parts_here"] (defScope s_rows) := ⟨rfl, rfl, rfl, by decide +kernel, rfl, by decide +kernel, by decide +kernel⟩
abbrev s_pieces : Stmt := topS 61
theorem sc_pieces : FnScope ["_law_pool_here", "_law_row", "_law_half", "_law_even", "_law_odd", "_law_at", "_law_behind"] ["_law_pool_here", "_law_row"] (defScope s_pieces) := ⟨rfl, rfl, rfl, by decide +kernel, rfl, by decide +kernel, by decide +kernel⟩
abbrev s_otherwise : Stmt := topS 62
theorem sc_otherwise : FnScope ["_law_pool_here", "_law_rows_here", "_law_found", "_law_row", "_law_piece"] ["_law_pool_here", "_law_rows_here"] (defScope s_otherwise) := ⟨rfl, rfl, rfl, by decide +kernel, rfl, by decide +kernel, by decide +kernel⟩
abbrev s_changed : Stmt := topS 63
theorem sc_changed : FnScope ["_law_pool_here", "_law_parts_here", "_law_at", "_law_way", "_law_weight", "_law_row"] ["_law_pool_here", "_law_parts_here"] (defScope s_changed) := ⟨rfl, rfl, rfl, by decide +kernel, rfl, by decide +kernel, by decide +kernel⟩
abbrev s_row_blend : Stmt := topS 64
theorem sc_row_blend : FnScope ["_law_rows_here", "_law_row"] ["_law_rows_here"] (defScope s_row_blend) := ⟨rfl, rfl, rfl, by decide +kernel, rfl, by decide +kernel, by decide +kernel⟩
abbrev s_chance : Stmt := topS 65
theorem sc_chance : FnScope ["_law_rows_here", "_law_y", "_law_found", "_law_row"] ["_law_rows_here", "_law_y"] (defScope s_chance) := ⟨rfl, rfl, rfl, by decide +kernel, rfl, by decide +kernel, by decide +kernel⟩
abbrev s_apart : Stmt := topS 66
theorem sc_apart : FnScope ["_law_one", "_law_other", "_law_y", "_law_left", "_law_right"] ["_law_one", "_law_other", "_law_y"] (defScope s_apart) := ⟨rfl, rfl, rfl, by decide +kernel, rfl, by decide +kernel, by decide +kernel⟩
abbrev s_walked : Stmt := topS 67
theorem sc_walked : FnScope ["_law_one", "_law_other", "_law_end", "_law_y"] ["_law_one", "_law_other", "_law_end"] (defScope s_walked) := ⟨rfl, rfl, rfl, by decide +kernel, rfl, by decide +kernel, by decide +kernel⟩
abbrev s_differs : Stmt := topS 68
theorem sc_differs : FnScope ["_law_told", "_law_one", "_law_other", "_law_places", "_law_end", "_law_tried", "_law_row", "_law_k", "_law_place", "_law_y"] ["_law_told", "_law_one", "_law_other", "_law_places"] (defScope s_differs) := ⟨rfl, rfl, rfl, by decide +kernel, rfl, by decide +kernel, by decide +kernel⟩
abbrev s_law : Stmt := topS 69
theorem sc_law : FnScope ["_law_script", "_law_pool_here", "_law_parts_here", "_law_one", "_law_way", "_law_other", "_law_places", "_law_first", "_law_second", "_law_told"] ["_law_script"] (defScope s_law) := ⟨rfl, rfl, rfl, by decide +kernel, rfl, by decide +kernel, by decide +kernel⟩
end L

set_option Elab.async false
set_option linter.all false
set_option maxRecDepth 100000
set_option maxHeartbeats 0
set_option pp.maxSteps 200
set_option pp.deepTerms false
namespace Kh
open PySem PySem.Spec PyProof.Rows L2 L
def fd0 : Fd := ⟨fun K => (He.ma K (He.ga K "Ratio") "__init__"), "__init__", "Ratio.__init__", defArgs s_Ratio_init, defBody s_Ratio_init, defScope s_Ratio_init, [.int 1], [], []⟩
def fd1 : Fd := ⟨fun K => (He.ma K (He.ga K "BadNumber") "__init__"), "__init__", "BadNumber.__init__", defArgs s_BadNumber_init, defBody s_BadNumber_init, defScope s_BadNumber_init, [], [], []⟩
def fd2 : Fd := ⟨fun K => (He.ma K (He.ga K "Ratio") "__add__"), "__add__", "Ratio.__add__", defArgs s_Ratio_add, defBody s_Ratio_add, defScope s_Ratio_add, [], [], []⟩
def fd3 : Fd := ⟨fun K => (He.ma K (He.ga K "Ratio") "__radd__"), "__radd__", "Ratio.__radd__", defArgs s_Ratio_radd, defBody s_Ratio_radd, defScope s_Ratio_radd, [], [], []⟩
def fd4 : Fd := ⟨fun K => (He.ma K (He.ga K "Ratio") "__lt__"), "__lt__", "Ratio.__lt__", defArgs s_Ratio_lt, defBody s_Ratio_lt, defScope s_Ratio_lt, [], [], []⟩
def fd5 : Fd := ⟨fun K => (He.ma K (He.ga K "Ratio") "__eq__"), "__eq__", "Ratio.__eq__", defArgs s_Ratio_eq, defBody s_Ratio_eq, defScope s_Ratio_eq, [], [], []⟩
def fd6 : Fd := ⟨fun K => (He.ma K (He.ga K "Run") "__init__"), "__init__", "Run.__init__", defArgs s_Run_init, defBody s_Run_init, defScope s_Run_init, [], [], []⟩
def fd7 : Fd := ⟨fun K => (He.ma K (He.ga K "Run") "__contains__"), "__contains__", "Run.__contains__", defArgs s_Run_contains, defBody s_Run_contains, defScope s_Run_contains, [], [], []⟩
def fd8 : Fd := ⟨fun K => (Kh.r1 K (He.ma K (He.ga K "Run") "last") "property"), "last", "Run.last", defArgs s_Run_last, defBody s_Run_last, defScope s_Run_last, [], [], []⟩
def fd9 : Fd := ⟨fun K => (He.ma K (He.ga K "Blend") "__init__"), "__init__", "Blend.__init__", defArgs s_Blend_init, defBody s_Blend_init, defScope s_Blend_init, [], [], []⟩
def fd10 : Fd := ⟨fun K => (He.ma K (He.ga K "Blend") "__iter__"), "__iter__", "Blend.__iter__", defArgs s_Blend_iter, defBody s_Blend_iter, defScope s_Blend_iter, [], [], []⟩
def fd11 : Fd := ⟨fun K => (He.ga K "is_number"), "is_number", "is_number", defArgs s_is_number, defBody s_is_number, defScope s_is_number, [], [], []⟩
def fd12 : Fd := ⟨fun K => (He.ga K "as_ratio"), "as_ratio", "as_ratio", defArgs s_as_ratio, defBody s_as_ratio, defScope s_as_ratio, [], [], []⟩
def fd13 : Fd := ⟨fun K => (He.ga K "_top_of"), "_top_of", "_top_of", defArgs s_top_of, defBody s_top_of, defScope s_top_of, [], [], []⟩
def fd14 : Fd := ⟨fun K => (He.ga K "_under_of"), "_under_of", "_under_of", defArgs s_under_of, defBody s_under_of, defScope s_under_of, [], [], []⟩
def fd15 : Fd := ⟨fun K => (He.ga K "added"), "added", "added", defArgs s_added, defBody s_added, defScope s_added, [], [], []⟩
def fd16 : Fd := ⟨fun K => (He.ga K "check_parts"), "check_parts", "check_parts", defArgs s_check_parts, defBody s_check_parts, defScope s_check_parts, [], [], []⟩
def fd17 : Fd := ⟨fun K => (He.ga K "put_together"), "put_together", "put_together", defArgs s_put_together, defBody s_put_together, defScope s_put_together, [], [], []⟩
def fd18 : Fd := ⟨fun K => (He.ga K "common_under"), "common_under", "common_under", defArgs s_common_under, defBody s_common_under, defScope s_common_under, [], [], []⟩
def fd19 : Fd := ⟨fun K => (He.ga K "weighted"), "weighted", "weighted", defArgs s_weighted, defBody s_weighted, defScope s_weighted, [], [], []⟩
def fd20 : Fd := ⟨fun K => (He.ga K "whole_chance"), "whole_chance", "whole_chance", defArgs s_whole_chance, defBody s_whole_chance, defScope s_whole_chance, [], [], []⟩
def fd21 : Fd := ⟨fun K => (He.ga K "_period"), "_period", "_period", defArgs s_period, defBody s_period, defScope s_period, [], [], []⟩
def fd22 : Fd := ⟨fun K => (He.ga K "stretches"), "stretches", "stretches", defArgs s_stretches, defBody s_stretches, defScope s_stretches, [], [], []⟩
def fd23 : Fd := ⟨fun K => (He.ga K "first_difference"), "first_difference", "first_difference", defArgs s_first_difference, defBody s_first_difference, defScope s_first_difference, [], [], []⟩
def fd24 : Fd := ⟨fun K => (He.ga K "_law_pool"), "_law_pool", "_law_pool", defArgs s_pool, defBody s_pool, defScope s_pool, [], [], []⟩
def fd25 : Fd := ⟨fun K => (He.ga K "_law_mix"), "_law_mix", "_law_mix", defArgs s_mix, defBody s_mix, defScope s_mix, [], [], []⟩
def fd26 : Fd := ⟨fun K => (He.ga K "_law_draw"), "_law_draw", "_law_draw", defArgs s_draw, defBody s_draw, defScope s_draw, [], [], []⟩
def fd27 : Fd := ⟨fun K => (He.ga K "_law_wide"), "_law_wide", "_law_wide", defArgs s_wide, defBody s_wide, defScope s_wide, [], [], []⟩
def fd28 : Fd := ⟨fun K => (He.ga K "_law_gcd"), "_law_gcd", "_law_gcd", defArgs s_gcd, defBody s_gcd, defScope s_gcd, [], [], []⟩
def fd29 : Fd := ⟨fun K => (He.ga K "_law_low"), "_law_low", "_law_low", defArgs s_low, defBody s_low, defScope s_low, [], [], []⟩
def fd30 : Fd := ⟨fun K => (He.ga K "_law_plus"), "_law_plus", "_law_plus", defArgs s_plus, defBody s_plus, defScope s_plus, [], [], []⟩
def fd31 : Fd := ⟨fun K => (He.ga K "_law_times"), "_law_times", "_law_times", defArgs s_times, defBody s_times, defScope s_times, [], [], []⟩
def fd32 : Fd := ⟨fun K => (He.ga K "_law_whole"), "_law_whole", "_law_whole", defArgs s_whole, defBody s_whole, defScope s_whole, [], [], []⟩
def fd33 : Fd := ⟨fun K => (He.ga K "_law_run"), "_law_run", "_law_run", defArgs s_run, defBody s_run, defScope s_run, [], [], []⟩
def fd34 : Fd := ⟨fun K => (He.ga K "_law_last"), "_law_last", "_law_last", defArgs s_last, defBody s_last, defScope s_last, [], [], []⟩
def fd35 : Fd := ⟨fun K => (He.ga K "_law_in"), "_law_in", "_law_in", defArgs s_in, defBody s_in, defScope s_in, [], [], []⟩
def fd36 : Fd := ⟨fun K => (He.ga K "_law_parts"), "_law_parts", "_law_parts", defArgs s_parts, defBody s_parts, defScope s_parts, [], [], []⟩
def fd37 : Fd := ⟨fun K => (He.ga K "_law_weights"), "_law_weights", "_law_weights", defArgs s_weights, defBody s_weights, defScope s_weights, [], [], []⟩
def fd38 : Fd := ⟨fun K => (He.ga K "_law_near"), "_law_near", "_law_near", defArgs s_near, defBody s_near, defScope s_near, [], [], []⟩
def fd39 : Fd := ⟨fun K => (He.ga K "_law_greatest"), "_law_greatest", "_law_greatest", defArgs s_greatest, defBody s_greatest, defScope s_greatest, [], [], []⟩
def fd40 : Fd := ⟨fun K => (He.ga K "_law_heavy"), "_law_heavy", "_law_heavy", defArgs s_heavy, defBody s_heavy, defScope s_heavy, [], [], []⟩
def fd41 : Fd := ⟨fun K => (He.ga K "_law_spot"), "_law_spot", "_law_spot", defArgs s_spot, defBody s_spot, defScope s_spot, [], [], []⟩
def fd42 : Fd := ⟨fun K => (He.ga K "_law_alike"), "_law_alike", "_law_alike", defArgs s_alike, defBody s_alike, defScope s_alike, [], [], []⟩
def fd43 : Fd := ⟨fun K => (He.ga K "_law_single"), "_law_single", "_law_single", defArgs s_single, defBody s_single, defScope s_single, [], [], []⟩
def fd44 : Fd := ⟨fun K => (He.ga K "_law_rows"), "_law_rows", "_law_rows", defArgs s_rows, defBody s_rows, defScope s_rows, [], [], []⟩
def fd45 : Fd := ⟨fun K => (He.ga K "_law_pieces"), "_law_pieces", "_law_pieces", defArgs s_pieces, defBody s_pieces, defScope s_pieces, [], [], []⟩
def fd46 : Fd := ⟨fun K => (He.ga K "_law_otherwise"), "_law_otherwise", "_law_otherwise", defArgs s_otherwise, defBody s_otherwise, defScope s_otherwise, [], [], []⟩
def fd47 : Fd := ⟨fun K => (He.ga K "_law_changed"), "_law_changed", "_law_changed", defArgs s_changed, defBody s_changed, defScope s_changed, [], [], []⟩
def fd48 : Fd := ⟨fun K => (He.ga K "_law_row_blend"), "_law_row_blend", "_law_row_blend", defArgs s_row_blend, defBody s_row_blend, defScope s_row_blend, [], [], []⟩
def fd49 : Fd := ⟨fun K => (He.ga K "_law_chance"), "_law_chance", "_law_chance", defArgs s_chance, defBody s_chance, defScope s_chance, [], [], []⟩
def fd50 : Fd := ⟨fun K => (He.ga K "_law_apart"), "_law_apart", "_law_apart", defArgs s_apart, defBody s_apart, defScope s_apart, [], [], []⟩
def fd51 : Fd := ⟨fun K => (He.ga K "_law_walked"), "_law_walked", "_law_walked", defArgs s_walked, defBody s_walked, defScope s_walked, [], [], []⟩
def fd52 : Fd := ⟨fun K => (He.ga K "_law_differs"), "_law_differs", "_law_differs", defArgs s_differs, defBody s_differs, defScope s_differs, [], [], []⟩
def fd53 : Fd := ⟨fun K => (He.ga K "law"), "law", "law", defArgs s_law, defBody s_law, defScope s_law, [], [], []⟩
def ts0 (K : PySem.W.Frag) : List Bool := [decide (PySem.W.nsIn K mainGlobals "len" = some none),
  decide (PySem.W.nsIn K mainGlobals "int" = some none),
  decide (PySem.W.nsIn K mainGlobals "abs" = some none),
  decide (PySem.W.nsIn K mainGlobals "range" = some none),
  decide (PySem.W.nsIn K mainGlobals "isinstance" = some none),
  decide (PySem.W.nsIn K mainGlobals "max" = some none),
  decide (PySem.W.nsIn K mainGlobals "min" = some none),
  decide (PySem.W.nsIn K mainGlobals "sum" = some none),
  decide (PySem.W.nsIn K mainGlobals "str" = some none),
  decide (PySem.W.nsIn K mainGlobals "bool" = some none),
  decide (PySem.W.nsIn K mainGlobals "list" = some none),
  decide (PySem.W.nsIn K mainGlobals "ValueError" = some none),
  decide (PySem.W.nsIn K mainGlobals "zip" = some none),
  decide (PySem.W.nsIn K mainGlobals "any" = some none),
  decide (PySem.W.nsIn K mainGlobals "iter" = some none),
  decide (PySem.W.nsIn K mainGlobals "sorted" = some none),
  decide (PySem.W.nsIn K mainGlobals "Ratio" = some (some (.ref (He.ga K "Ratio")))),
  PySem.W.plainGet K (He.ga K "Ratio") Str.empty,
  PySem.W.hasDictIn K (He.ga K "Ratio"),
  PySem.W.plainOver K (He.ga K "Ratio"),
  decide (PySem.W.findIn K (.ref (He.ga K "Ratio")) "__setattr__" = some (some (.builtin "object.__setattr__"))),
  PySem.W.makesIn K (He.ga K "Ratio"),
  PySem.W.keepIn K (.ref (He.ga K "Ratio")),
  decide (PySem.W.findIn K (.ref (He.ga K "Ratio")) "top" = some none),
  decide (PySem.W.findIn K (.ref (He.ga K "Ratio")) "under" = some none)]
def ts1 (K : PySem.W.Frag) : List Bool := [decide (PySem.W.findIn K (.ref (He.ga K "Ratio")) "__class__" = some (some (.builtin "object.__class__"))),
  decide (PySem.W.specialIn K (.builtin "object.__class__") "__get__" = some (some (.builtin "getset_descriptor.__get__"))),
  decide (PySem.W.takesIn K (.builtin "object.__class__") = some true),
  decide (PySem.W.mroIn K (He.ga K "Ratio") (.type "object") = some true),
  decide (PySem.W.subIn K (.type "int") (.ref (He.ga K "Ratio")) = some false),
  decide (PySem.W.typeIn K (.ref (He.ga K "Ratio")) = some (.type "type")),
  decide (PySem.W.findIn K (.ref (He.ga K "Ratio")) "__init__" = some (some (.ref (He.ma K (He.ga K "Ratio") "__init__")))),
  PySem.W.isFn K (.ref (He.ma K (He.ga K "Ratio") "__init__")),
  decide (PySem.W.nsIn K mainGlobals "gcd" = some (some (.builtin "math.gcd"))),
  decide (PySem.W.nsIn K mainGlobals "lcm" = some (some (.builtin "math.lcm"))),
  decide (PySem.W.nsIn K mainGlobals "LotError" = some (some (.ref (He.ga K "LotError")))),
  PySem.W.hasDictIn K (He.ga K "LotError"),
  decide (PySem.W.typeIn K (.ref (He.ga K "LotError")) = some (.type "type")),
  decide (PySem.W.nsIn K mainGlobals "BadNumber" = some (some (.ref (He.ga K "BadNumber")))),
  Kh.pxB K (He.ga K "BadNumber") [.ref (He.ga K "LotError"), .type "ValueError", .type "Exception", .type "BaseException", .type "object"] "ValueError.__new__",
  decide (PySem.W.findIn K (.ref (He.ga K "BadNumber")) "__setattr__" = some (some (.builtin "object.__setattr__"))),
  PySem.W.keepIn K (.ref (He.ga K "BadNumber")),
  decide (PySem.W.subIn K (.ref (He.ga K "BadNumber")) (.type "BaseException") = some true),
  decide (PySem.W.typeIn K (.ref (He.ga K "BadNumber")) = some (.type "type")),
  decide (PySem.W.subIn K (.ref (He.ga K "BadNumber")) (.ref (He.ga K "BadNumber")) = some true),
  decide (PySem.W.findIn K (.ref (He.ga K "BadNumber")) "__getattribute__" = some (some (.builtin "BaseException.__getattribute__"))),
  decide (PySem.W.findIn K (.ref (He.ga K "BadNumber")) "__getattr__" = some none),
  PySem.W.hasDictIn K (He.ga K "BadNumber"),
  decide (PySem.W.findIn K (.ref (He.ga K "BadNumber")) "__class__" = some (some (.builtin "object.__class__"))),
  decide (PySem.W.mroIn K (He.ga K "BadNumber") (.type "object") = some true)]
def ts2 (K : PySem.W.Frag) : List Bool := [decide (PySem.W.subIn K (.ref (He.ga K "BadNumber")) (.type "ValueError") = some true),
  decide (PySem.W.findIn K (.ref (He.ga K "BadNumber")) "name" = some none),
  decide (PySem.W.findIn K (.ref (He.ga K "BadNumber")) "value" = some none),
  decide (PySem.W.findIn K (.ref (He.ga K "BadNumber")) "__init__" = some (some (.ref (He.ma K (He.ga K "BadNumber") "__init__")))),
  decide (PySem.W.typeIn K (.ref (He.ma K (He.ga K "BadNumber") "__init__")) = some (.type "function")),
  decide (PySem.W.subIn K (.ref (He.ga K "BadNumber")) (.ref (He.ga K "LotError")) = some true),
  decide (PySem.W.nsIn K mainGlobals "TooMany" = some (some (.ref (He.ga K "TooMany")))),
  PySem.W.hasDictIn K (He.ga K "TooMany"),
  decide (PySem.W.typeIn K (.ref (He.ga K "TooMany")) = some (.type "type")),
  decide (PySem.W.subIn K (.ref (He.ga K "BadNumber")) (.ref (He.ga K "TooMany")) = some false),
  decide (PySem.W.nsIn K mainGlobals "ZeroUnder" = some (some (.ref (He.ga K "ZeroUnder")))),
  PySem.W.excIn K (He.ga K "ZeroUnder") [.type "ValueError", .type "Exception", .type "BaseException", .type "object"] "ValueError.__new__",
  PySem.W.keepIn K (.ref (He.ga K "ZeroUnder")),
  decide (PySem.W.subIn K (.ref (He.ga K "ZeroUnder")) (.type "BaseException") = some true),
  decide (PySem.W.typeIn K (.ref (He.ga K "ZeroUnder")) = some (.type "type")),
  decide (PySem.W.subIn K (.ref (He.ga K "ZeroUnder")) (.ref (He.ga K "ZeroUnder")) = some true),
  decide (PySem.W.findIn K (.ref (He.ga K "ZeroUnder")) "__getattribute__" = some (some (.builtin "BaseException.__getattribute__"))),
  decide (PySem.W.findIn K (.ref (He.ga K "ZeroUnder")) "__getattr__" = some none),
  PySem.W.hasDictIn K (He.ga K "ZeroUnder"),
  decide (PySem.W.findIn K (.ref (He.ga K "ZeroUnder")) "__class__" = some (some (.builtin "object.__class__"))),
  decide (PySem.W.mroIn K (He.ga K "ZeroUnder") (.type "object") = some true),
  decide (PySem.W.subIn K (.ref (He.ga K "ZeroUnder")) (.type "ValueError") = some true),
  decide (PySem.W.nsIn K mainGlobals "BadShares" = some (some (.ref (He.ga K "BadShares")))),
  PySem.W.excIn K (He.ga K "BadShares") [.type "ValueError", .type "Exception", .type "BaseException", .type "object"] "ValueError.__new__",
  PySem.W.keepIn K (.ref (He.ga K "BadShares"))]
def ts3 (K : PySem.W.Frag) : List Bool := [decide (PySem.W.subIn K (.ref (He.ga K "BadShares")) (.type "BaseException") = some true),
  decide (PySem.W.typeIn K (.ref (He.ga K "BadShares")) = some (.type "type")),
  decide (PySem.W.subIn K (.ref (He.ga K "BadShares")) (.ref (He.ga K "BadShares")) = some true),
  decide (PySem.W.findIn K (.ref (He.ga K "BadShares")) "__getattribute__" = some (some (.builtin "BaseException.__getattribute__"))),
  decide (PySem.W.findIn K (.ref (He.ga K "BadShares")) "__getattr__" = some none),
  PySem.W.hasDictIn K (He.ga K "BadShares"),
  decide (PySem.W.findIn K (.ref (He.ga K "BadShares")) "__class__" = some (some (.builtin "object.__class__"))),
  decide (PySem.W.mroIn K (He.ga K "BadShares") (.type "object") = some true),
  decide (PySem.W.subIn K (.ref (He.ga K "BadShares")) (.type "ValueError") = some true),
  decide (PySem.W.findIn K (.type "int") "__add__" = some (some (.builtin "int.__add__"))),
  decide (PySem.W.findIn K (.type "int") "__radd__" = some (some (.builtin "int.__radd__"))),
  decide (PySem.W.findIn K (.type "int") "__sub__" = some (some (.builtin "int.__sub__"))),
  decide (PySem.W.findIn K (.type "int") "__rsub__" = some (some (.builtin "int.__rsub__"))),
  decide (PySem.W.findIn K (.type "int") "__mul__" = some (some (.builtin "int.__mul__"))),
  decide (PySem.W.findIn K (.type "int") "__rmul__" = some (some (.builtin "int.__rmul__"))),
  PySem.W.selfFirst K (He.ga K "Ratio"),
  decide (PySem.W.subIn K (.ref (He.ga K "Ratio")) (.type "int") = some false),
  decide (PySem.W.findIn K (.ref (He.ga K "Ratio")) "__add__" = some (some (.ref (He.ma K (He.ga K "Ratio") "__add__")))),
  PySem.W.isFn K (.ref (He.ma K (He.ga K "Ratio") "__add__")),
  decide (PySem.W.findIn K (.ref (He.ga K "Ratio")) "__radd__" = some (some (.ref (He.ma K (He.ga K "Ratio") "__radd__")))),
  PySem.W.isFn K (.ref (He.ma K (He.ga K "Ratio") "__radd__")),
  decide (PySem.W.findIn K (.ref (He.ga K "Ratio")) "__lt__" = some (some (.ref (He.ma K (He.ga K "Ratio") "__lt__")))),
  PySem.W.isFn K (.ref (He.ma K (He.ga K "Ratio") "__lt__")),
  decide (PySem.W.findIn K (.ref (He.ga K "Ratio")) "__eq__" = some (some (.ref (He.ma K (He.ga K "Ratio") "__eq__")))),
  PySem.W.isFn K (.ref (He.ma K (He.ga K "Ratio") "__eq__"))]
def ts4 (K : PySem.W.Frag) : List Bool := [decide (PySem.W.findIn K (.ref (He.ga K "Ratio")) "__ne__" = some (some (.builtin "object.__ne__"))),
  decide (PySem.W.nsIn K mainGlobals "Run" = some (some (.ref (He.ga K "Run")))),
  PySem.W.plainGet K (He.ga K "Run") Str.empty,
  PySem.W.hasDictIn K (He.ga K "Run"),
  PySem.W.plainOver K (He.ga K "Run"),
  decide (PySem.W.findIn K (.ref (He.ga K "Run")) "__setattr__" = some (some (.builtin "object.__setattr__"))),
  PySem.W.makesIn K (He.ga K "Run"),
  PySem.W.keepIn K (.ref (He.ga K "Run")),
  decide (PySem.W.findIn K (.ref (He.ga K "Run")) "first" = some none),
  decide (PySem.W.findIn K (.ref (He.ga K "Run")) "step" = some none),
  decide (PySem.W.findIn K (.ref (He.ga K "Run")) "count" = some none),
  decide (PySem.W.findIn K (.ref (He.ga K "Run")) "__class__" = some (some (.builtin "object.__class__"))),
  decide (PySem.W.mroIn K (He.ga K "Run") (.type "object") = some true),
  Kh.intB (PySem.W.nsIn K mainGlobals "MOST_STEP") 4,
  decide (PySem.W.findIn K (.ref (He.ga K "Run")) "__init__" = some (some (.ref (He.ma K (He.ga K "Run") "__init__")))),
  PySem.W.isFn K (.ref (He.ma K (He.ga K "Run") "__init__")),
  decide (PySem.W.findIn K (.ref (He.ga K "Run")) "__contains__" = some (some (.ref (He.ma K (He.ga K "Run") "__contains__")))),
  PySem.W.isFn K (.ref (He.ma K (He.ga K "Run") "__contains__")),
  decide (PySem.W.findIn K (.ref (He.ga K "Run")) "last" = some (some (.ref (He.ma K (He.ga K "Run") "last")))),
  decide (PySem.W.specialIn K (.ref (He.ma K (He.ga K "Run") "last")) "__get__" = some (some (.builtin "property.__get__"))),
  decide (PySem.W.takesIn K (.ref (He.ma K (He.ga K "Run") "last")) = some true),
  decide (PySem.W.recIn K (He.ma K (He.ga K "Run") "last") "property" = some (.ref (Kh.r1 K (He.ma K (He.ga K "Run") "last") "property") :: (Kh.r2 K (He.ma K (He.ga K "Run") "last") "property"))),
  Kh.intB (PySem.W.nsIn K mainGlobals "MOST_PARTS") 64,
  decide (PySem.W.nsIn K mainGlobals "Blend" = some (some (.ref (He.ga K "Blend")))),
  PySem.W.plainGet K (He.ga K "Blend") Str.empty]
def ts5 (K : PySem.W.Frag) : List Bool := [PySem.W.hasDictIn K (He.ga K "Blend"),
  PySem.W.plainOver K (He.ga K "Blend"),
  decide (PySem.W.findIn K (.ref (He.ga K "Blend")) "__setattr__" = some (some (.builtin "object.__setattr__"))),
  PySem.W.makesIn K (He.ga K "Blend"),
  PySem.W.keepIn K (.ref (He.ga K "Blend")),
  decide (PySem.W.findIn K (.ref (He.ga K "Blend")) "__class__" = some (some (.builtin "object.__class__"))),
  decide (PySem.W.mroIn K (He.ga K "Blend") (.type "object") = some true),
  decide (PySem.W.findIn K (.ref (He.ga K "Blend")) "parts" = some none),
  decide (PySem.W.findIn K (.ref (He.ga K "Blend")) "__init__" = some (some (.ref (He.ma K (He.ga K "Blend") "__init__")))),
  PySem.W.isFn K (.ref (He.ma K (He.ga K "Blend") "__init__")),
  decide (PySem.W.findIn K (.ref (He.ga K "Blend")) "__iter__" = some (some (.ref (He.ma K (He.ga K "Blend") "__iter__")))),
  PySem.W.isFn K (.ref (He.ma K (He.ga K "Blend") "__iter__")),
  decide (PySem.W.nsIn K mainGlobals "is_number" = some (some (.ref (He.ga K "is_number")))),
  decide (PySem.W.nsIn K mainGlobals "as_ratio" = some (some (.ref (He.ga K "as_ratio")))),
  decide (PySem.W.nsIn K mainGlobals "_top_of" = some (some (.ref (He.ga K "_top_of")))),
  decide (PySem.W.nsIn K mainGlobals "_under_of" = some (some (.ref (He.ga K "_under_of")))),
  decide (PySem.W.nsIn K mainGlobals "added" = some (some (.ref (He.ga K "added")))),
  decide (PySem.W.nsIn K mainGlobals "check_parts" = some (some (.ref (He.ga K "check_parts")))),
  decide (PySem.W.nsIn K mainGlobals "put_together" = some (some (.ref (He.ga K "put_together")))),
  decide (PySem.W.nsIn K mainGlobals "common_under" = some (some (.ref (He.ga K "common_under")))),
  decide (PySem.W.nsIn K mainGlobals "weighted" = some (some (.ref (He.ga K "weighted")))),
  decide (PySem.W.nsIn K mainGlobals "whole_chance" = some (some (.ref (He.ga K "whole_chance")))),
  decide (PySem.W.nsIn K mainGlobals "_period" = some (some (.ref (He.ga K "_period")))),
  decide (PySem.W.nsIn K mainGlobals "stretches" = some (some (.ref (He.ga K "stretches")))),
  decide (PySem.W.nsIn K mainGlobals "first_difference" = some (some (.ref (He.ga K "first_difference"))))]
def ts6 (K : PySem.W.Frag) : List Bool := [decide (PySem.W.nsIn K cStatics "sys.audit-hooks" = some none),
  decide (PySem.W.nsIn K cStatics "sys.dict" = some none),
  modsB K,
  mainB K,
  decide (PySem.W.nsIn K mainGlobals "_law_pool" = some (some (.ref (He.ga K "_law_pool")))),
  decide (PySem.W.nsIn K mainGlobals "_law_mix" = some (some (.ref (He.ga K "_law_mix")))),
  decide (PySem.W.nsIn K mainGlobals "_law_draw" = some (some (.ref (He.ga K "_law_draw")))),
  decide (PySem.W.nsIn K mainGlobals "_law_wide" = some (some (.ref (He.ga K "_law_wide")))),
  decide (PySem.W.nsIn K mainGlobals "_law_gcd" = some (some (.ref (He.ga K "_law_gcd")))),
  decide (PySem.W.nsIn K mainGlobals "_law_low" = some (some (.ref (He.ga K "_law_low")))),
  decide (PySem.W.nsIn K mainGlobals "_law_plus" = some (some (.ref (He.ga K "_law_plus")))),
  decide (PySem.W.nsIn K mainGlobals "_law_times" = some (some (.ref (He.ga K "_law_times")))),
  decide (PySem.W.nsIn K mainGlobals "_law_whole" = some (some (.ref (He.ga K "_law_whole")))),
  decide (PySem.W.nsIn K mainGlobals "_law_run" = some (some (.ref (He.ga K "_law_run")))),
  decide (PySem.W.nsIn K mainGlobals "_law_last" = some (some (.ref (He.ga K "_law_last")))),
  decide (PySem.W.nsIn K mainGlobals "_law_in" = some (some (.ref (He.ga K "_law_in")))),
  decide (PySem.W.nsIn K mainGlobals "_law_parts" = some (some (.ref (He.ga K "_law_parts")))),
  decide (PySem.W.nsIn K mainGlobals "_law_weights" = some (some (.ref (He.ga K "_law_weights")))),
  decide (PySem.W.nsIn K mainGlobals "_law_near" = some (some (.ref (He.ga K "_law_near")))),
  decide (PySem.W.nsIn K mainGlobals "_law_greatest" = some (some (.ref (He.ga K "_law_greatest")))),
  decide (PySem.W.nsIn K mainGlobals "_law_heavy" = some (some (.ref (He.ga K "_law_heavy")))),
  decide (PySem.W.nsIn K mainGlobals "_law_spot" = some (some (.ref (He.ga K "_law_spot")))),
  decide (PySem.W.nsIn K mainGlobals "_law_alike" = some (some (.ref (He.ga K "_law_alike")))),
  decide (PySem.W.nsIn K mainGlobals "_law_single" = some (some (.ref (He.ga K "_law_single")))),
  decide (PySem.W.nsIn K mainGlobals "_law_rows" = some (some (.ref (He.ga K "_law_rows"))))]
def ts7 (K : PySem.W.Frag) : List Bool := [decide (PySem.W.nsIn K mainGlobals "_law_pieces" = some (some (.ref (He.ga K "_law_pieces")))),
  decide (PySem.W.nsIn K mainGlobals "_law_otherwise" = some (some (.ref (He.ga K "_law_otherwise")))),
  decide (PySem.W.nsIn K mainGlobals "_law_changed" = some (some (.ref (He.ga K "_law_changed")))),
  decide (PySem.W.nsIn K mainGlobals "_law_row_blend" = some (some (.ref (He.ga K "_law_row_blend")))),
  decide (PySem.W.nsIn K mainGlobals "_law_chance" = some (some (.ref (He.ga K "_law_chance")))),
  decide (PySem.W.nsIn K mainGlobals "_law_apart" = some (some (.ref (He.ga K "_law_apart")))),
  decide (PySem.W.nsIn K mainGlobals "_law_walked" = some (some (.ref (He.ga K "_law_walked")))),
  decide (PySem.W.nsIn K mainGlobals "_law_differs" = some (some (.ref (He.ga K "_law_differs")))),
  decide (PySem.W.nsIn K mainGlobals "law" = some (some (.ref (He.ga K "law"))))]
def ts (K : PySem.W.Frag) : List (List Bool) := [ts0 K, ts1 K, ts2 K, ts3 K, ts4 K, ts5 K, ts6 K, ts7 K]
def tA (K : PySem.W.Frag) : List Bool := ((ts K).take 4).map (fun l => l.all id)
def tB (K : PySem.W.Frag) : List Bool := ((ts K).drop 4).map (fun l => l.all id)
def tests (K : PySem.W.Frag) : List Bool := tA K ++ tB K
def fns : List Fd := [fd0, fd1, fd2, fd3, fd4, fd5, fd6, fd7, fd8, fd9, fd10, fd11, fd12, fd13, fd14, fd15, fd16, fd17, fd18, fd19, fd20, fd21, fd22, fd23, fd24, fd25, fd26, fd27, fd28, fd29, fd30, fd31, fd32, fd33, fd34, fd35, fd36, fd37, fd38, fd39, fd40, fd41, fd42, fd43, fd44, fd45, fd46, fd47, fd48, fd49, fd50, fd51, fd52, fd53]
theorem test2 {K : PySem.W.Frag} (c : SaysK tests fns K) {l : List Bool} {b : Bool} (i j : Nat) (h : (ts K)[i]? = some l) (h2 : l[j]? = some b) : b = true := by
  have e : tests K = (ts K).map (fun l => l.all id) := rfl
  have := c.test (b := l.all id) i (by rw [e, List.getElem?_map, h]; rfl)
  exact List.all_eq_true.mp this b (List.mem_of_getElem? h2)
theorem t0 {K : PySem.W.Frag} (c : SaysK tests fns K) : (decide (PySem.W.nsIn K mainGlobals "len" = some none)) = true := test2 c (l := ts0 K) 0 0 rfl rfl
theorem t1 {K : PySem.W.Frag} (c : SaysK tests fns K) : (decide (PySem.W.nsIn K mainGlobals "int" = some none)) = true := test2 c (l := ts0 K) 0 1 rfl rfl
theorem t2 {K : PySem.W.Frag} (c : SaysK tests fns K) : (decide (PySem.W.nsIn K mainGlobals "abs" = some none)) = true := test2 c (l := ts0 K) 0 2 rfl rfl
theorem t3 {K : PySem.W.Frag} (c : SaysK tests fns K) : (decide (PySem.W.nsIn K mainGlobals "range" = some none)) = true := test2 c (l := ts0 K) 0 3 rfl rfl
theorem t4 {K : PySem.W.Frag} (c : SaysK tests fns K) : (decide (PySem.W.nsIn K mainGlobals "isinstance" = some none)) = true := test2 c (l := ts0 K) 0 4 rfl rfl
theorem t5 {K : PySem.W.Frag} (c : SaysK tests fns K) : (decide (PySem.W.nsIn K mainGlobals "max" = some none)) = true := test2 c (l := ts0 K) 0 5 rfl rfl
theorem t6 {K : PySem.W.Frag} (c : SaysK tests fns K) : (decide (PySem.W.nsIn K mainGlobals "min" = some none)) = true := test2 c (l := ts0 K) 0 6 rfl rfl
theorem t7 {K : PySem.W.Frag} (c : SaysK tests fns K) : (decide (PySem.W.nsIn K mainGlobals "sum" = some none)) = true := test2 c (l := ts0 K) 0 7 rfl rfl
theorem t8 {K : PySem.W.Frag} (c : SaysK tests fns K) : (decide (PySem.W.nsIn K mainGlobals "str" = some none)) = true := test2 c (l := ts0 K) 0 8 rfl rfl
theorem t9 {K : PySem.W.Frag} (c : SaysK tests fns K) : (decide (PySem.W.nsIn K mainGlobals "bool" = some none)) = true := test2 c (l := ts0 K) 0 9 rfl rfl
theorem t10 {K : PySem.W.Frag} (c : SaysK tests fns K) : (decide (PySem.W.nsIn K mainGlobals "list" = some none)) = true := test2 c (l := ts0 K) 0 10 rfl rfl
theorem t11 {K : PySem.W.Frag} (c : SaysK tests fns K) : (decide (PySem.W.nsIn K mainGlobals "ValueError" = some none)) = true := test2 c (l := ts0 K) 0 11 rfl rfl
theorem t12 {K : PySem.W.Frag} (c : SaysK tests fns K) : (decide (PySem.W.nsIn K mainGlobals "zip" = some none)) = true := test2 c (l := ts0 K) 0 12 rfl rfl
theorem t13 {K : PySem.W.Frag} (c : SaysK tests fns K) : (decide (PySem.W.nsIn K mainGlobals "any" = some none)) = true := test2 c (l := ts0 K) 0 13 rfl rfl
theorem t14 {K : PySem.W.Frag} (c : SaysK tests fns K) : (decide (PySem.W.nsIn K mainGlobals "iter" = some none)) = true := test2 c (l := ts0 K) 0 14 rfl rfl
theorem t15 {K : PySem.W.Frag} (c : SaysK tests fns K) : (decide (PySem.W.nsIn K mainGlobals "sorted" = some none)) = true := test2 c (l := ts0 K) 0 15 rfl rfl
theorem t16 {K : PySem.W.Frag} (c : SaysK tests fns K) : (decide (PySem.W.nsIn K mainGlobals "Ratio" = some (some (.ref (He.ga K "Ratio"))))) = true := test2 c (l := ts0 K) 0 16 rfl rfl
theorem t17 {K : PySem.W.Frag} (c : SaysK tests fns K) : (PySem.W.plainGet K (He.ga K "Ratio") Str.empty) = true := test2 c (l := ts0 K) 0 17 rfl rfl
theorem t18 {K : PySem.W.Frag} (c : SaysK tests fns K) : (PySem.W.hasDictIn K (He.ga K "Ratio")) = true := test2 c (l := ts0 K) 0 18 rfl rfl
theorem t19 {K : PySem.W.Frag} (c : SaysK tests fns K) : (PySem.W.plainOver K (He.ga K "Ratio")) = true := test2 c (l := ts0 K) 0 19 rfl rfl
theorem t20 {K : PySem.W.Frag} (c : SaysK tests fns K) : (decide (PySem.W.findIn K (.ref (He.ga K "Ratio")) "__setattr__" = some (some (.builtin "object.__setattr__")))) = true := test2 c (l := ts0 K) 0 20 rfl rfl
theorem t21 {K : PySem.W.Frag} (c : SaysK tests fns K) : (PySem.W.makesIn K (He.ga K "Ratio")) = true := test2 c (l := ts0 K) 0 21 rfl rfl
theorem t22 {K : PySem.W.Frag} (c : SaysK tests fns K) : (PySem.W.keepIn K (.ref (He.ga K "Ratio"))) = true := test2 c (l := ts0 K) 0 22 rfl rfl
theorem t23 {K : PySem.W.Frag} (c : SaysK tests fns K) : (decide (PySem.W.findIn K (.ref (He.ga K "Ratio")) "top" = some none)) = true := test2 c (l := ts0 K) 0 23 rfl rfl
theorem t24 {K : PySem.W.Frag} (c : SaysK tests fns K) : (decide (PySem.W.findIn K (.ref (He.ga K "Ratio")) "under" = some none)) = true := test2 c (l := ts0 K) 0 24 rfl rfl
theorem t25 {K : PySem.W.Frag} (c : SaysK tests fns K) : (decide (PySem.W.findIn K (.ref (He.ga K "Ratio")) "__class__" = some (some (.builtin "object.__class__")))) = true := test2 c (l := ts1 K) 1 0 rfl rfl
theorem t26 {K : PySem.W.Frag} (c : SaysK tests fns K) : (decide (PySem.W.specialIn K (.builtin "object.__class__") "__get__" = some (some (.builtin "getset_descriptor.__get__")))) = true := test2 c (l := ts1 K) 1 1 rfl rfl
theorem t27 {K : PySem.W.Frag} (c : SaysK tests fns K) : (decide (PySem.W.takesIn K (.builtin "object.__class__") = some true)) = true := test2 c (l := ts1 K) 1 2 rfl rfl
theorem t28 {K : PySem.W.Frag} (c : SaysK tests fns K) : (decide (PySem.W.mroIn K (He.ga K "Ratio") (.type "object") = some true)) = true := test2 c (l := ts1 K) 1 3 rfl rfl
theorem t29 {K : PySem.W.Frag} (c : SaysK tests fns K) : (decide (PySem.W.subIn K (.type "int") (.ref (He.ga K "Ratio")) = some false)) = true := test2 c (l := ts1 K) 1 4 rfl rfl
theorem t30 {K : PySem.W.Frag} (c : SaysK tests fns K) : (decide (PySem.W.typeIn K (.ref (He.ga K "Ratio")) = some (.type "type"))) = true := test2 c (l := ts1 K) 1 5 rfl rfl
theorem t31 {K : PySem.W.Frag} (c : SaysK tests fns K) : (decide (PySem.W.findIn K (.ref (He.ga K "Ratio")) "__init__" = some (some (.ref (He.ma K (He.ga K "Ratio") "__init__"))))) = true := test2 c (l := ts1 K) 1 6 rfl rfl
theorem t32 {K : PySem.W.Frag} (c : SaysK tests fns K) : (PySem.W.isFn K (.ref (He.ma K (He.ga K "Ratio") "__init__"))) = true := test2 c (l := ts1 K) 1 7 rfl rfl
theorem t33 {K : PySem.W.Frag} (c : SaysK tests fns K) : (decide (PySem.W.nsIn K mainGlobals "gcd" = some (some (.builtin "math.gcd")))) = true := test2 c (l := ts1 K) 1 8 rfl rfl
theorem t34 {K : PySem.W.Frag} (c : SaysK tests fns K) : (decide (PySem.W.nsIn K mainGlobals "lcm" = some (some (.builtin "math.lcm")))) = true := test2 c (l := ts1 K) 1 9 rfl rfl
theorem t35 {K : PySem.W.Frag} (c : SaysK tests fns K) : (decide (PySem.W.nsIn K mainGlobals "LotError" = some (some (.ref (He.ga K "LotError"))))) = true := test2 c (l := ts1 K) 1 10 rfl rfl
theorem t36 {K : PySem.W.Frag} (c : SaysK tests fns K) : (PySem.W.hasDictIn K (He.ga K "LotError")) = true := test2 c (l := ts1 K) 1 11 rfl rfl
theorem t37 {K : PySem.W.Frag} (c : SaysK tests fns K) : (decide (PySem.W.typeIn K (.ref (He.ga K "LotError")) = some (.type "type"))) = true := test2 c (l := ts1 K) 1 12 rfl rfl
theorem t38 {K : PySem.W.Frag} (c : SaysK tests fns K) : (decide (PySem.W.nsIn K mainGlobals "BadNumber" = some (some (.ref (He.ga K "BadNumber"))))) = true := test2 c (l := ts1 K) 1 13 rfl rfl
theorem t39 {K : PySem.W.Frag} (c : SaysK tests fns K) : (Kh.pxB K (He.ga K "BadNumber") [.ref (He.ga K "LotError"), .type "ValueError", .type "Exception", .type "BaseException", .type "object"] "ValueError.__new__") = true := test2 c (l := ts1 K) 1 14 rfl rfl
theorem t40 {K : PySem.W.Frag} (c : SaysK tests fns K) : (decide (PySem.W.findIn K (.ref (He.ga K "BadNumber")) "__setattr__" = some (some (.builtin "object.__setattr__")))) = true := test2 c (l := ts1 K) 1 15 rfl rfl
theorem t41 {K : PySem.W.Frag} (c : SaysK tests fns K) : (PySem.W.keepIn K (.ref (He.ga K "BadNumber"))) = true := test2 c (l := ts1 K) 1 16 rfl rfl
theorem t42 {K : PySem.W.Frag} (c : SaysK tests fns K) : (decide (PySem.W.subIn K (.ref (He.ga K "BadNumber")) (.type "BaseException") = some true)) = true := test2 c (l := ts1 K) 1 17 rfl rfl
theorem t43 {K : PySem.W.Frag} (c : SaysK tests fns K) : (decide (PySem.W.typeIn K (.ref (He.ga K "BadNumber")) = some (.type "type"))) = true := test2 c (l := ts1 K) 1 18 rfl rfl
theorem t44 {K : PySem.W.Frag} (c : SaysK tests fns K) : (decide (PySem.W.subIn K (.ref (He.ga K "BadNumber")) (.ref (He.ga K "BadNumber")) = some true)) = true := test2 c (l := ts1 K) 1 19 rfl rfl
theorem t45 {K : PySem.W.Frag} (c : SaysK tests fns K) : (decide (PySem.W.findIn K (.ref (He.ga K "BadNumber")) "__getattribute__" = some (some (.builtin "BaseException.__getattribute__")))) = true := test2 c (l := ts1 K) 1 20 rfl rfl
theorem t46 {K : PySem.W.Frag} (c : SaysK tests fns K) : (decide (PySem.W.findIn K (.ref (He.ga K "BadNumber")) "__getattr__" = some none)) = true := test2 c (l := ts1 K) 1 21 rfl rfl
theorem t47 {K : PySem.W.Frag} (c : SaysK tests fns K) : (PySem.W.hasDictIn K (He.ga K "BadNumber")) = true := test2 c (l := ts1 K) 1 22 rfl rfl
theorem t48 {K : PySem.W.Frag} (c : SaysK tests fns K) : (decide (PySem.W.findIn K (.ref (He.ga K "BadNumber")) "__class__" = some (some (.builtin "object.__class__")))) = true := test2 c (l := ts1 K) 1 23 rfl rfl
theorem t49 {K : PySem.W.Frag} (c : SaysK tests fns K) : (decide (PySem.W.mroIn K (He.ga K "BadNumber") (.type "object") = some true)) = true := test2 c (l := ts1 K) 1 24 rfl rfl
theorem t50 {K : PySem.W.Frag} (c : SaysK tests fns K) : (decide (PySem.W.subIn K (.ref (He.ga K "BadNumber")) (.type "ValueError") = some true)) = true := test2 c (l := ts2 K) 2 0 rfl rfl
theorem t51 {K : PySem.W.Frag} (c : SaysK tests fns K) : (decide (PySem.W.findIn K (.ref (He.ga K "BadNumber")) "name" = some none)) = true := test2 c (l := ts2 K) 2 1 rfl rfl
theorem t52 {K : PySem.W.Frag} (c : SaysK tests fns K) : (decide (PySem.W.findIn K (.ref (He.ga K "BadNumber")) "value" = some none)) = true := test2 c (l := ts2 K) 2 2 rfl rfl
theorem t53 {K : PySem.W.Frag} (c : SaysK tests fns K) : (decide (PySem.W.findIn K (.ref (He.ga K "BadNumber")) "__init__" = some (some (.ref (He.ma K (He.ga K "BadNumber") "__init__"))))) = true := test2 c (l := ts2 K) 2 3 rfl rfl
theorem t54 {K : PySem.W.Frag} (c : SaysK tests fns K) : (decide (PySem.W.typeIn K (.ref (He.ma K (He.ga K "BadNumber") "__init__")) = some (.type "function"))) = true := test2 c (l := ts2 K) 2 4 rfl rfl
theorem t55 {K : PySem.W.Frag} (c : SaysK tests fns K) : (decide (PySem.W.subIn K (.ref (He.ga K "BadNumber")) (.ref (He.ga K "LotError")) = some true)) = true := test2 c (l := ts2 K) 2 5 rfl rfl
theorem t56 {K : PySem.W.Frag} (c : SaysK tests fns K) : (decide (PySem.W.nsIn K mainGlobals "TooMany" = some (some (.ref (He.ga K "TooMany"))))) = true := test2 c (l := ts2 K) 2 6 rfl rfl
theorem t57 {K : PySem.W.Frag} (c : SaysK tests fns K) : (PySem.W.hasDictIn K (He.ga K "TooMany")) = true := test2 c (l := ts2 K) 2 7 rfl rfl
theorem t58 {K : PySem.W.Frag} (c : SaysK tests fns K) : (decide (PySem.W.typeIn K (.ref (He.ga K "TooMany")) = some (.type "type"))) = true := test2 c (l := ts2 K) 2 8 rfl rfl
theorem t59 {K : PySem.W.Frag} (c : SaysK tests fns K) : (decide (PySem.W.subIn K (.ref (He.ga K "BadNumber")) (.ref (He.ga K "TooMany")) = some false)) = true := test2 c (l := ts2 K) 2 9 rfl rfl
theorem t60 {K : PySem.W.Frag} (c : SaysK tests fns K) : (decide (PySem.W.nsIn K mainGlobals "ZeroUnder" = some (some (.ref (He.ga K "ZeroUnder"))))) = true := test2 c (l := ts2 K) 2 10 rfl rfl
theorem t61 {K : PySem.W.Frag} (c : SaysK tests fns K) : (PySem.W.excIn K (He.ga K "ZeroUnder") [.type "ValueError", .type "Exception", .type "BaseException", .type "object"] "ValueError.__new__") = true := test2 c (l := ts2 K) 2 11 rfl rfl
theorem t62 {K : PySem.W.Frag} (c : SaysK tests fns K) : (PySem.W.keepIn K (.ref (He.ga K "ZeroUnder"))) = true := test2 c (l := ts2 K) 2 12 rfl rfl
theorem t63 {K : PySem.W.Frag} (c : SaysK tests fns K) : (decide (PySem.W.subIn K (.ref (He.ga K "ZeroUnder")) (.type "BaseException") = some true)) = true := test2 c (l := ts2 K) 2 13 rfl rfl
theorem t64 {K : PySem.W.Frag} (c : SaysK tests fns K) : (decide (PySem.W.typeIn K (.ref (He.ga K "ZeroUnder")) = some (.type "type"))) = true := test2 c (l := ts2 K) 2 14 rfl rfl
theorem t65 {K : PySem.W.Frag} (c : SaysK tests fns K) : (decide (PySem.W.subIn K (.ref (He.ga K "ZeroUnder")) (.ref (He.ga K "ZeroUnder")) = some true)) = true := test2 c (l := ts2 K) 2 15 rfl rfl
theorem t66 {K : PySem.W.Frag} (c : SaysK tests fns K) : (decide (PySem.W.findIn K (.ref (He.ga K "ZeroUnder")) "__getattribute__" = some (some (.builtin "BaseException.__getattribute__")))) = true := test2 c (l := ts2 K) 2 16 rfl rfl
theorem t67 {K : PySem.W.Frag} (c : SaysK tests fns K) : (decide (PySem.W.findIn K (.ref (He.ga K "ZeroUnder")) "__getattr__" = some none)) = true := test2 c (l := ts2 K) 2 17 rfl rfl
theorem t68 {K : PySem.W.Frag} (c : SaysK tests fns K) : (PySem.W.hasDictIn K (He.ga K "ZeroUnder")) = true := test2 c (l := ts2 K) 2 18 rfl rfl
theorem t69 {K : PySem.W.Frag} (c : SaysK tests fns K) : (decide (PySem.W.findIn K (.ref (He.ga K "ZeroUnder")) "__class__" = some (some (.builtin "object.__class__")))) = true := test2 c (l := ts2 K) 2 19 rfl rfl
theorem t70 {K : PySem.W.Frag} (c : SaysK tests fns K) : (decide (PySem.W.mroIn K (He.ga K "ZeroUnder") (.type "object") = some true)) = true := test2 c (l := ts2 K) 2 20 rfl rfl
theorem t71 {K : PySem.W.Frag} (c : SaysK tests fns K) : (decide (PySem.W.subIn K (.ref (He.ga K "ZeroUnder")) (.type "ValueError") = some true)) = true := test2 c (l := ts2 K) 2 21 rfl rfl
theorem t72 {K : PySem.W.Frag} (c : SaysK tests fns K) : (decide (PySem.W.nsIn K mainGlobals "BadShares" = some (some (.ref (He.ga K "BadShares"))))) = true := test2 c (l := ts2 K) 2 22 rfl rfl
theorem t73 {K : PySem.W.Frag} (c : SaysK tests fns K) : (PySem.W.excIn K (He.ga K "BadShares") [.type "ValueError", .type "Exception", .type "BaseException", .type "object"] "ValueError.__new__") = true := test2 c (l := ts2 K) 2 23 rfl rfl
theorem t74 {K : PySem.W.Frag} (c : SaysK tests fns K) : (PySem.W.keepIn K (.ref (He.ga K "BadShares"))) = true := test2 c (l := ts2 K) 2 24 rfl rfl
theorem t75 {K : PySem.W.Frag} (c : SaysK tests fns K) : (decide (PySem.W.subIn K (.ref (He.ga K "BadShares")) (.type "BaseException") = some true)) = true := test2 c (l := ts3 K) 3 0 rfl rfl
theorem t76 {K : PySem.W.Frag} (c : SaysK tests fns K) : (decide (PySem.W.typeIn K (.ref (He.ga K "BadShares")) = some (.type "type"))) = true := test2 c (l := ts3 K) 3 1 rfl rfl
theorem t77 {K : PySem.W.Frag} (c : SaysK tests fns K) : (decide (PySem.W.subIn K (.ref (He.ga K "BadShares")) (.ref (He.ga K "BadShares")) = some true)) = true := test2 c (l := ts3 K) 3 2 rfl rfl
theorem t78 {K : PySem.W.Frag} (c : SaysK tests fns K) : (decide (PySem.W.findIn K (.ref (He.ga K "BadShares")) "__getattribute__" = some (some (.builtin "BaseException.__getattribute__")))) = true := test2 c (l := ts3 K) 3 3 rfl rfl
theorem t79 {K : PySem.W.Frag} (c : SaysK tests fns K) : (decide (PySem.W.findIn K (.ref (He.ga K "BadShares")) "__getattr__" = some none)) = true := test2 c (l := ts3 K) 3 4 rfl rfl
theorem t80 {K : PySem.W.Frag} (c : SaysK tests fns K) : (PySem.W.hasDictIn K (He.ga K "BadShares")) = true := test2 c (l := ts3 K) 3 5 rfl rfl
theorem t81 {K : PySem.W.Frag} (c : SaysK tests fns K) : (decide (PySem.W.findIn K (.ref (He.ga K "BadShares")) "__class__" = some (some (.builtin "object.__class__")))) = true := test2 c (l := ts3 K) 3 6 rfl rfl
theorem t82 {K : PySem.W.Frag} (c : SaysK tests fns K) : (decide (PySem.W.mroIn K (He.ga K "BadShares") (.type "object") = some true)) = true := test2 c (l := ts3 K) 3 7 rfl rfl
theorem t83 {K : PySem.W.Frag} (c : SaysK tests fns K) : (decide (PySem.W.subIn K (.ref (He.ga K "BadShares")) (.type "ValueError") = some true)) = true := test2 c (l := ts3 K) 3 8 rfl rfl
theorem t84 {K : PySem.W.Frag} (c : SaysK tests fns K) : (decide (PySem.W.findIn K (.type "int") "__add__" = some (some (.builtin "int.__add__")))) = true := test2 c (l := ts3 K) 3 9 rfl rfl
theorem t85 {K : PySem.W.Frag} (c : SaysK tests fns K) : (decide (PySem.W.findIn K (.type "int") "__radd__" = some (some (.builtin "int.__radd__")))) = true := test2 c (l := ts3 K) 3 10 rfl rfl
theorem t86 {K : PySem.W.Frag} (c : SaysK tests fns K) : (decide (PySem.W.findIn K (.type "int") "__sub__" = some (some (.builtin "int.__sub__")))) = true := test2 c (l := ts3 K) 3 11 rfl rfl
theorem t87 {K : PySem.W.Frag} (c : SaysK tests fns K) : (decide (PySem.W.findIn K (.type "int") "__rsub__" = some (some (.builtin "int.__rsub__")))) = true := test2 c (l := ts3 K) 3 12 rfl rfl
theorem t88 {K : PySem.W.Frag} (c : SaysK tests fns K) : (decide (PySem.W.findIn K (.type "int") "__mul__" = some (some (.builtin "int.__mul__")))) = true := test2 c (l := ts3 K) 3 13 rfl rfl
theorem t89 {K : PySem.W.Frag} (c : SaysK tests fns K) : (decide (PySem.W.findIn K (.type "int") "__rmul__" = some (some (.builtin "int.__rmul__")))) = true := test2 c (l := ts3 K) 3 14 rfl rfl
theorem t90 {K : PySem.W.Frag} (c : SaysK tests fns K) : (PySem.W.selfFirst K (He.ga K "Ratio")) = true := test2 c (l := ts3 K) 3 15 rfl rfl
theorem t91 {K : PySem.W.Frag} (c : SaysK tests fns K) : (decide (PySem.W.subIn K (.ref (He.ga K "Ratio")) (.type "int") = some false)) = true := test2 c (l := ts3 K) 3 16 rfl rfl
theorem t92 {K : PySem.W.Frag} (c : SaysK tests fns K) : (decide (PySem.W.findIn K (.ref (He.ga K "Ratio")) "__add__" = some (some (.ref (He.ma K (He.ga K "Ratio") "__add__"))))) = true := test2 c (l := ts3 K) 3 17 rfl rfl
theorem t93 {K : PySem.W.Frag} (c : SaysK tests fns K) : (PySem.W.isFn K (.ref (He.ma K (He.ga K "Ratio") "__add__"))) = true := test2 c (l := ts3 K) 3 18 rfl rfl
theorem t94 {K : PySem.W.Frag} (c : SaysK tests fns K) : (decide (PySem.W.findIn K (.ref (He.ga K "Ratio")) "__radd__" = some (some (.ref (He.ma K (He.ga K "Ratio") "__radd__"))))) = true := test2 c (l := ts3 K) 3 19 rfl rfl
theorem t95 {K : PySem.W.Frag} (c : SaysK tests fns K) : (PySem.W.isFn K (.ref (He.ma K (He.ga K "Ratio") "__radd__"))) = true := test2 c (l := ts3 K) 3 20 rfl rfl
theorem t96 {K : PySem.W.Frag} (c : SaysK tests fns K) : (decide (PySem.W.findIn K (.ref (He.ga K "Ratio")) "__lt__" = some (some (.ref (He.ma K (He.ga K "Ratio") "__lt__"))))) = true := test2 c (l := ts3 K) 3 21 rfl rfl
theorem t97 {K : PySem.W.Frag} (c : SaysK tests fns K) : (PySem.W.isFn K (.ref (He.ma K (He.ga K "Ratio") "__lt__"))) = true := test2 c (l := ts3 K) 3 22 rfl rfl
theorem t98 {K : PySem.W.Frag} (c : SaysK tests fns K) : (decide (PySem.W.findIn K (.ref (He.ga K "Ratio")) "__eq__" = some (some (.ref (He.ma K (He.ga K "Ratio") "__eq__"))))) = true := test2 c (l := ts3 K) 3 23 rfl rfl
theorem t99 {K : PySem.W.Frag} (c : SaysK tests fns K) : (PySem.W.isFn K (.ref (He.ma K (He.ga K "Ratio") "__eq__"))) = true := test2 c (l := ts3 K) 3 24 rfl rfl
theorem t100 {K : PySem.W.Frag} (c : SaysK tests fns K) : (decide (PySem.W.findIn K (.ref (He.ga K "Ratio")) "__ne__" = some (some (.builtin "object.__ne__")))) = true := test2 c (l := ts4 K) 4 0 rfl rfl
theorem t101 {K : PySem.W.Frag} (c : SaysK tests fns K) : (decide (PySem.W.nsIn K mainGlobals "Run" = some (some (.ref (He.ga K "Run"))))) = true := test2 c (l := ts4 K) 4 1 rfl rfl
theorem t102 {K : PySem.W.Frag} (c : SaysK tests fns K) : (PySem.W.plainGet K (He.ga K "Run") Str.empty) = true := test2 c (l := ts4 K) 4 2 rfl rfl
theorem t103 {K : PySem.W.Frag} (c : SaysK tests fns K) : (PySem.W.hasDictIn K (He.ga K "Run")) = true := test2 c (l := ts4 K) 4 3 rfl rfl
theorem t104 {K : PySem.W.Frag} (c : SaysK tests fns K) : (PySem.W.plainOver K (He.ga K "Run")) = true := test2 c (l := ts4 K) 4 4 rfl rfl
theorem t105 {K : PySem.W.Frag} (c : SaysK tests fns K) : (decide (PySem.W.findIn K (.ref (He.ga K "Run")) "__setattr__" = some (some (.builtin "object.__setattr__")))) = true := test2 c (l := ts4 K) 4 5 rfl rfl
theorem t106 {K : PySem.W.Frag} (c : SaysK tests fns K) : (PySem.W.makesIn K (He.ga K "Run")) = true := test2 c (l := ts4 K) 4 6 rfl rfl
theorem t107 {K : PySem.W.Frag} (c : SaysK tests fns K) : (PySem.W.keepIn K (.ref (He.ga K "Run"))) = true := test2 c (l := ts4 K) 4 7 rfl rfl
theorem t108 {K : PySem.W.Frag} (c : SaysK tests fns K) : (decide (PySem.W.findIn K (.ref (He.ga K "Run")) "first" = some none)) = true := test2 c (l := ts4 K) 4 8 rfl rfl
theorem t109 {K : PySem.W.Frag} (c : SaysK tests fns K) : (decide (PySem.W.findIn K (.ref (He.ga K "Run")) "step" = some none)) = true := test2 c (l := ts4 K) 4 9 rfl rfl
theorem t110 {K : PySem.W.Frag} (c : SaysK tests fns K) : (decide (PySem.W.findIn K (.ref (He.ga K "Run")) "count" = some none)) = true := test2 c (l := ts4 K) 4 10 rfl rfl
theorem t111 {K : PySem.W.Frag} (c : SaysK tests fns K) : (decide (PySem.W.findIn K (.ref (He.ga K "Run")) "__class__" = some (some (.builtin "object.__class__")))) = true := test2 c (l := ts4 K) 4 11 rfl rfl
theorem t112 {K : PySem.W.Frag} (c : SaysK tests fns K) : (decide (PySem.W.mroIn K (He.ga K "Run") (.type "object") = some true)) = true := test2 c (l := ts4 K) 4 12 rfl rfl
theorem t113 {K : PySem.W.Frag} (c : SaysK tests fns K) : (Kh.intB (PySem.W.nsIn K mainGlobals "MOST_STEP") 4) = true := test2 c (l := ts4 K) 4 13 rfl rfl
theorem t114 {K : PySem.W.Frag} (c : SaysK tests fns K) : (decide (PySem.W.findIn K (.ref (He.ga K "Run")) "__init__" = some (some (.ref (He.ma K (He.ga K "Run") "__init__"))))) = true := test2 c (l := ts4 K) 4 14 rfl rfl
theorem t115 {K : PySem.W.Frag} (c : SaysK tests fns K) : (PySem.W.isFn K (.ref (He.ma K (He.ga K "Run") "__init__"))) = true := test2 c (l := ts4 K) 4 15 rfl rfl
theorem t116 {K : PySem.W.Frag} (c : SaysK tests fns K) : (decide (PySem.W.findIn K (.ref (He.ga K "Run")) "__contains__" = some (some (.ref (He.ma K (He.ga K "Run") "__contains__"))))) = true := test2 c (l := ts4 K) 4 16 rfl rfl
theorem t117 {K : PySem.W.Frag} (c : SaysK tests fns K) : (PySem.W.isFn K (.ref (He.ma K (He.ga K "Run") "__contains__"))) = true := test2 c (l := ts4 K) 4 17 rfl rfl
theorem t118 {K : PySem.W.Frag} (c : SaysK tests fns K) : (decide (PySem.W.findIn K (.ref (He.ga K "Run")) "last" = some (some (.ref (He.ma K (He.ga K "Run") "last"))))) = true := test2 c (l := ts4 K) 4 18 rfl rfl
theorem t119 {K : PySem.W.Frag} (c : SaysK tests fns K) : (decide (PySem.W.specialIn K (.ref (He.ma K (He.ga K "Run") "last")) "__get__" = some (some (.builtin "property.__get__")))) = true := test2 c (l := ts4 K) 4 19 rfl rfl
theorem t120 {K : PySem.W.Frag} (c : SaysK tests fns K) : (decide (PySem.W.takesIn K (.ref (He.ma K (He.ga K "Run") "last")) = some true)) = true := test2 c (l := ts4 K) 4 20 rfl rfl
theorem t121 {K : PySem.W.Frag} (c : SaysK tests fns K) : (decide (PySem.W.recIn K (He.ma K (He.ga K "Run") "last") "property" = some (.ref (Kh.r1 K (He.ma K (He.ga K "Run") "last") "property") :: (Kh.r2 K (He.ma K (He.ga K "Run") "last") "property")))) = true := test2 c (l := ts4 K) 4 21 rfl rfl
theorem t122 {K : PySem.W.Frag} (c : SaysK tests fns K) : (Kh.intB (PySem.W.nsIn K mainGlobals "MOST_PARTS") 64) = true := test2 c (l := ts4 K) 4 22 rfl rfl
theorem t123 {K : PySem.W.Frag} (c : SaysK tests fns K) : (decide (PySem.W.nsIn K mainGlobals "Blend" = some (some (.ref (He.ga K "Blend"))))) = true := test2 c (l := ts4 K) 4 23 rfl rfl
theorem t124 {K : PySem.W.Frag} (c : SaysK tests fns K) : (PySem.W.plainGet K (He.ga K "Blend") Str.empty) = true := test2 c (l := ts4 K) 4 24 rfl rfl
theorem t125 {K : PySem.W.Frag} (c : SaysK tests fns K) : (PySem.W.hasDictIn K (He.ga K "Blend")) = true := test2 c (l := ts5 K) 5 0 rfl rfl
theorem t126 {K : PySem.W.Frag} (c : SaysK tests fns K) : (PySem.W.plainOver K (He.ga K "Blend")) = true := test2 c (l := ts5 K) 5 1 rfl rfl
theorem t127 {K : PySem.W.Frag} (c : SaysK tests fns K) : (decide (PySem.W.findIn K (.ref (He.ga K "Blend")) "__setattr__" = some (some (.builtin "object.__setattr__")))) = true := test2 c (l := ts5 K) 5 2 rfl rfl
theorem t128 {K : PySem.W.Frag} (c : SaysK tests fns K) : (PySem.W.makesIn K (He.ga K "Blend")) = true := test2 c (l := ts5 K) 5 3 rfl rfl
theorem t129 {K : PySem.W.Frag} (c : SaysK tests fns K) : (PySem.W.keepIn K (.ref (He.ga K "Blend"))) = true := test2 c (l := ts5 K) 5 4 rfl rfl
theorem t130 {K : PySem.W.Frag} (c : SaysK tests fns K) : (decide (PySem.W.findIn K (.ref (He.ga K "Blend")) "__class__" = some (some (.builtin "object.__class__")))) = true := test2 c (l := ts5 K) 5 5 rfl rfl
theorem t131 {K : PySem.W.Frag} (c : SaysK tests fns K) : (decide (PySem.W.mroIn K (He.ga K "Blend") (.type "object") = some true)) = true := test2 c (l := ts5 K) 5 6 rfl rfl
theorem t132 {K : PySem.W.Frag} (c : SaysK tests fns K) : (decide (PySem.W.findIn K (.ref (He.ga K "Blend")) "parts" = some none)) = true := test2 c (l := ts5 K) 5 7 rfl rfl
theorem t133 {K : PySem.W.Frag} (c : SaysK tests fns K) : (decide (PySem.W.findIn K (.ref (He.ga K "Blend")) "__init__" = some (some (.ref (He.ma K (He.ga K "Blend") "__init__"))))) = true := test2 c (l := ts5 K) 5 8 rfl rfl
theorem t134 {K : PySem.W.Frag} (c : SaysK tests fns K) : (PySem.W.isFn K (.ref (He.ma K (He.ga K "Blend") "__init__"))) = true := test2 c (l := ts5 K) 5 9 rfl rfl
theorem t135 {K : PySem.W.Frag} (c : SaysK tests fns K) : (decide (PySem.W.findIn K (.ref (He.ga K "Blend")) "__iter__" = some (some (.ref (He.ma K (He.ga K "Blend") "__iter__"))))) = true := test2 c (l := ts5 K) 5 10 rfl rfl
theorem t136 {K : PySem.W.Frag} (c : SaysK tests fns K) : (PySem.W.isFn K (.ref (He.ma K (He.ga K "Blend") "__iter__"))) = true := test2 c (l := ts5 K) 5 11 rfl rfl
theorem t137 {K : PySem.W.Frag} (c : SaysK tests fns K) : (decide (PySem.W.nsIn K mainGlobals "is_number" = some (some (.ref (He.ga K "is_number"))))) = true := test2 c (l := ts5 K) 5 12 rfl rfl
theorem t138 {K : PySem.W.Frag} (c : SaysK tests fns K) : (decide (PySem.W.nsIn K mainGlobals "as_ratio" = some (some (.ref (He.ga K "as_ratio"))))) = true := test2 c (l := ts5 K) 5 13 rfl rfl
theorem t139 {K : PySem.W.Frag} (c : SaysK tests fns K) : (decide (PySem.W.nsIn K mainGlobals "_top_of" = some (some (.ref (He.ga K "_top_of"))))) = true := test2 c (l := ts5 K) 5 14 rfl rfl
theorem t140 {K : PySem.W.Frag} (c : SaysK tests fns K) : (decide (PySem.W.nsIn K mainGlobals "_under_of" = some (some (.ref (He.ga K "_under_of"))))) = true := test2 c (l := ts5 K) 5 15 rfl rfl
theorem t141 {K : PySem.W.Frag} (c : SaysK tests fns K) : (decide (PySem.W.nsIn K mainGlobals "added" = some (some (.ref (He.ga K "added"))))) = true := test2 c (l := ts5 K) 5 16 rfl rfl
theorem t142 {K : PySem.W.Frag} (c : SaysK tests fns K) : (decide (PySem.W.nsIn K mainGlobals "check_parts" = some (some (.ref (He.ga K "check_parts"))))) = true := test2 c (l := ts5 K) 5 17 rfl rfl
theorem t143 {K : PySem.W.Frag} (c : SaysK tests fns K) : (decide (PySem.W.nsIn K mainGlobals "put_together" = some (some (.ref (He.ga K "put_together"))))) = true := test2 c (l := ts5 K) 5 18 rfl rfl
theorem t144 {K : PySem.W.Frag} (c : SaysK tests fns K) : (decide (PySem.W.nsIn K mainGlobals "common_under" = some (some (.ref (He.ga K "common_under"))))) = true := test2 c (l := ts5 K) 5 19 rfl rfl
theorem t145 {K : PySem.W.Frag} (c : SaysK tests fns K) : (decide (PySem.W.nsIn K mainGlobals "weighted" = some (some (.ref (He.ga K "weighted"))))) = true := test2 c (l := ts5 K) 5 20 rfl rfl
theorem t146 {K : PySem.W.Frag} (c : SaysK tests fns K) : (decide (PySem.W.nsIn K mainGlobals "whole_chance" = some (some (.ref (He.ga K "whole_chance"))))) = true := test2 c (l := ts5 K) 5 21 rfl rfl
theorem t147 {K : PySem.W.Frag} (c : SaysK tests fns K) : (decide (PySem.W.nsIn K mainGlobals "_period" = some (some (.ref (He.ga K "_period"))))) = true := test2 c (l := ts5 K) 5 22 rfl rfl
theorem t148 {K : PySem.W.Frag} (c : SaysK tests fns K) : (decide (PySem.W.nsIn K mainGlobals "stretches" = some (some (.ref (He.ga K "stretches"))))) = true := test2 c (l := ts5 K) 5 23 rfl rfl
theorem t149 {K : PySem.W.Frag} (c : SaysK tests fns K) : (decide (PySem.W.nsIn K mainGlobals "first_difference" = some (some (.ref (He.ga K "first_difference"))))) = true := test2 c (l := ts5 K) 5 24 rfl rfl
theorem t150 {K : PySem.W.Frag} (c : SaysK tests fns K) : (decide (PySem.W.nsIn K cStatics "sys.audit-hooks" = some none)) = true := test2 c (l := ts6 K) 6 0 rfl rfl
theorem t151 {K : PySem.W.Frag} (c : SaysK tests fns K) : (decide (PySem.W.nsIn K cStatics "sys.dict" = some none)) = true := test2 c (l := ts6 K) 6 1 rfl rfl
theorem t152 {K : PySem.W.Frag} (c : SaysK tests fns K) : (modsB K) = true := test2 c (l := ts6 K) 6 2 rfl rfl
theorem t153 {K : PySem.W.Frag} (c : SaysK tests fns K) : (mainB K) = true := test2 c (l := ts6 K) 6 3 rfl rfl
theorem t154 {K : PySem.W.Frag} (c : SaysK tests fns K) : (decide (PySem.W.nsIn K mainGlobals "_law_pool" = some (some (.ref (He.ga K "_law_pool"))))) = true := test2 c (l := ts6 K) 6 4 rfl rfl
theorem t155 {K : PySem.W.Frag} (c : SaysK tests fns K) : (decide (PySem.W.nsIn K mainGlobals "_law_mix" = some (some (.ref (He.ga K "_law_mix"))))) = true := test2 c (l := ts6 K) 6 5 rfl rfl
theorem t156 {K : PySem.W.Frag} (c : SaysK tests fns K) : (decide (PySem.W.nsIn K mainGlobals "_law_draw" = some (some (.ref (He.ga K "_law_draw"))))) = true := test2 c (l := ts6 K) 6 6 rfl rfl
theorem t157 {K : PySem.W.Frag} (c : SaysK tests fns K) : (decide (PySem.W.nsIn K mainGlobals "_law_wide" = some (some (.ref (He.ga K "_law_wide"))))) = true := test2 c (l := ts6 K) 6 7 rfl rfl
theorem t158 {K : PySem.W.Frag} (c : SaysK tests fns K) : (decide (PySem.W.nsIn K mainGlobals "_law_gcd" = some (some (.ref (He.ga K "_law_gcd"))))) = true := test2 c (l := ts6 K) 6 8 rfl rfl
theorem t159 {K : PySem.W.Frag} (c : SaysK tests fns K) : (decide (PySem.W.nsIn K mainGlobals "_law_low" = some (some (.ref (He.ga K "_law_low"))))) = true := test2 c (l := ts6 K) 6 9 rfl rfl
theorem t160 {K : PySem.W.Frag} (c : SaysK tests fns K) : (decide (PySem.W.nsIn K mainGlobals "_law_plus" = some (some (.ref (He.ga K "_law_plus"))))) = true := test2 c (l := ts6 K) 6 10 rfl rfl
theorem t161 {K : PySem.W.Frag} (c : SaysK tests fns K) : (decide (PySem.W.nsIn K mainGlobals "_law_times" = some (some (.ref (He.ga K "_law_times"))))) = true := test2 c (l := ts6 K) 6 11 rfl rfl
theorem t162 {K : PySem.W.Frag} (c : SaysK tests fns K) : (decide (PySem.W.nsIn K mainGlobals "_law_whole" = some (some (.ref (He.ga K "_law_whole"))))) = true := test2 c (l := ts6 K) 6 12 rfl rfl
theorem t163 {K : PySem.W.Frag} (c : SaysK tests fns K) : (decide (PySem.W.nsIn K mainGlobals "_law_run" = some (some (.ref (He.ga K "_law_run"))))) = true := test2 c (l := ts6 K) 6 13 rfl rfl
theorem t164 {K : PySem.W.Frag} (c : SaysK tests fns K) : (decide (PySem.W.nsIn K mainGlobals "_law_last" = some (some (.ref (He.ga K "_law_last"))))) = true := test2 c (l := ts6 K) 6 14 rfl rfl
theorem t165 {K : PySem.W.Frag} (c : SaysK tests fns K) : (decide (PySem.W.nsIn K mainGlobals "_law_in" = some (some (.ref (He.ga K "_law_in"))))) = true := test2 c (l := ts6 K) 6 15 rfl rfl
theorem t166 {K : PySem.W.Frag} (c : SaysK tests fns K) : (decide (PySem.W.nsIn K mainGlobals "_law_parts" = some (some (.ref (He.ga K "_law_parts"))))) = true := test2 c (l := ts6 K) 6 16 rfl rfl
theorem t167 {K : PySem.W.Frag} (c : SaysK tests fns K) : (decide (PySem.W.nsIn K mainGlobals "_law_weights" = some (some (.ref (He.ga K "_law_weights"))))) = true := test2 c (l := ts6 K) 6 17 rfl rfl
theorem t168 {K : PySem.W.Frag} (c : SaysK tests fns K) : (decide (PySem.W.nsIn K mainGlobals "_law_near" = some (some (.ref (He.ga K "_law_near"))))) = true := test2 c (l := ts6 K) 6 18 rfl rfl
theorem t169 {K : PySem.W.Frag} (c : SaysK tests fns K) : (decide (PySem.W.nsIn K mainGlobals "_law_greatest" = some (some (.ref (He.ga K "_law_greatest"))))) = true := test2 c (l := ts6 K) 6 19 rfl rfl
theorem t170 {K : PySem.W.Frag} (c : SaysK tests fns K) : (decide (PySem.W.nsIn K mainGlobals "_law_heavy" = some (some (.ref (He.ga K "_law_heavy"))))) = true := test2 c (l := ts6 K) 6 20 rfl rfl
theorem t171 {K : PySem.W.Frag} (c : SaysK tests fns K) : (decide (PySem.W.nsIn K mainGlobals "_law_spot" = some (some (.ref (He.ga K "_law_spot"))))) = true := test2 c (l := ts6 K) 6 21 rfl rfl
theorem t172 {K : PySem.W.Frag} (c : SaysK tests fns K) : (decide (PySem.W.nsIn K mainGlobals "_law_alike" = some (some (.ref (He.ga K "_law_alike"))))) = true := test2 c (l := ts6 K) 6 22 rfl rfl
theorem t173 {K : PySem.W.Frag} (c : SaysK tests fns K) : (decide (PySem.W.nsIn K mainGlobals "_law_single" = some (some (.ref (He.ga K "_law_single"))))) = true := test2 c (l := ts6 K) 6 23 rfl rfl
theorem t174 {K : PySem.W.Frag} (c : SaysK tests fns K) : (decide (PySem.W.nsIn K mainGlobals "_law_rows" = some (some (.ref (He.ga K "_law_rows"))))) = true := test2 c (l := ts6 K) 6 24 rfl rfl
theorem t175 {K : PySem.W.Frag} (c : SaysK tests fns K) : (decide (PySem.W.nsIn K mainGlobals "_law_pieces" = some (some (.ref (He.ga K "_law_pieces"))))) = true := test2 c (l := ts7 K) 7 0 rfl rfl
theorem t176 {K : PySem.W.Frag} (c : SaysK tests fns K) : (decide (PySem.W.nsIn K mainGlobals "_law_otherwise" = some (some (.ref (He.ga K "_law_otherwise"))))) = true := test2 c (l := ts7 K) 7 1 rfl rfl
theorem t177 {K : PySem.W.Frag} (c : SaysK tests fns K) : (decide (PySem.W.nsIn K mainGlobals "_law_changed" = some (some (.ref (He.ga K "_law_changed"))))) = true := test2 c (l := ts7 K) 7 2 rfl rfl
theorem t178 {K : PySem.W.Frag} (c : SaysK tests fns K) : (decide (PySem.W.nsIn K mainGlobals "_law_row_blend" = some (some (.ref (He.ga K "_law_row_blend"))))) = true := test2 c (l := ts7 K) 7 3 rfl rfl
theorem t179 {K : PySem.W.Frag} (c : SaysK tests fns K) : (decide (PySem.W.nsIn K mainGlobals "_law_chance" = some (some (.ref (He.ga K "_law_chance"))))) = true := test2 c (l := ts7 K) 7 4 rfl rfl
theorem t180 {K : PySem.W.Frag} (c : SaysK tests fns K) : (decide (PySem.W.nsIn K mainGlobals "_law_apart" = some (some (.ref (He.ga K "_law_apart"))))) = true := test2 c (l := ts7 K) 7 5 rfl rfl
theorem t181 {K : PySem.W.Frag} (c : SaysK tests fns K) : (decide (PySem.W.nsIn K mainGlobals "_law_walked" = some (some (.ref (He.ga K "_law_walked"))))) = true := test2 c (l := ts7 K) 7 6 rfl rfl
theorem t182 {K : PySem.W.Frag} (c : SaysK tests fns K) : (decide (PySem.W.nsIn K mainGlobals "_law_differs" = some (some (.ref (He.ga K "_law_differs"))))) = true := test2 c (l := ts7 K) 7 7 rfl rfl
theorem t183 {K : PySem.W.Frag} (c : SaysK tests fns K) : (decide (PySem.W.nsIn K mainGlobals "law" = some (some (.ref (He.ga K "law"))))) = true := test2 c (l := ts7 K) 7 8 rfl rfl
abbrev R : PySem.W.OpenRow := PySem.W.OpenLaw.row PySem.Challenge.rw_fieldlots_k22_first_difference
abbrev qv : Program := PySem.W.view R.prog [0, 69]
def names0 : List Str := ["_wall", "__name__", "LotError", "ZeroUnder", "BadNumber", "BadShares", "NoPlace", "TooMany", "check_ties", "MOST_POWER", "is_number", "as_ratio", "added", "_top_of", "_under_of", "_rounded_quotient", "_remainder", "Ratio", "MOST_STEP", "Run", "lead", "common_under", "weighted", "whole_chance", "_period", "stretches", "first_difference", "MOST_PARTS", "check_parts", "put_together"]
def names1 : List Str := ["Blend", "_law_pool", "_law_mix", "_law_draw", "_law_wide", "_law_gcd", "_law_low", "_law_plus", "_law_times", "_law_whole", "_law_run", "_law_last", "_law_in", "_law_parts", "_law_weights", "_law_near", "_law_greatest", "_law_heavy", "_law_spot", "_law_alike", "_law_single", "_law_rows", "_law_pieces", "_law_otherwise", "_law_changed", "_law_row_blend", "_law_chance", "_law_apart", "_law_walked", "_law_differs"]
def names : List Str := names0 ++ names1
abbrev hk : PySem.W.Hook := hookK 1200 tests fns
def ob (s : PySem.W.SharedT) : Ob := obF 1200 tests fns s
theorem ob_eq (s : PySem.W.SharedT) : ob s = hk.obs s.abs := obF_eq s
theorem runA (w : World) : (HandSHeadRun.wholeF (fun p => HandSHeadRun.stepQ (HandSHeadRun.denQ HandSHeadRun.tabQ) p w) HandSHeadRun.fenceQ 20000 R.prog).map (fun x => (HandSHeadRun.looksF R.prog x.1.heap x.2.abs, HandSHeadRun.seenQ qv names (importedModules R.prog.main.body) (fun s => PySem.W.xlAt qv [] s && PySem.W.recOk R.toRowW.records s) x.2.abs)) = some (true, PySem.W.openGood qv names) := by kernel_rfl
theorem runTA (w : World) : (HandSHeadRun.wholeF (fun p => HandSHeadRun.stepQ (HandSHeadRun.denQ HandSHeadRun.tabQ) p w) HandSHeadRun.fenceQ 20000 R.prog).map (fun x => frL (asN 1200 x.2.n) (HandSHeadRun.getT x.2) fun K => (tA K).all id) = some true := by kernel_rfl
theorem runTB (w : World) : (HandSHeadRun.wholeF (fun p => HandSHeadRun.stepQ (HandSHeadRun.denQ HandSHeadRun.tabQ) p w) HandSHeadRun.fenceQ 20000 R.prog).map (fun x => frL (asN 1200 x.2.n) (HandSHeadRun.getT x.2) fun K => (tB K).all id) = some true := by kernel_rfl
theorem runF (w : World) : (HandSHeadRun.wholeF (fun p => HandSHeadRun.stepQ (HandSHeadRun.denQ HandSHeadRun.tabQ) p w) HandSHeadRun.fenceQ 20000 R.prog).map (fun x => frL (asN 1200 x.2.n) (HandSHeadRun.getT x.2) fun K => (fns.all fun d => d.ok K, fns.map fun d => fw K (d.at_ K))) = some (true, fns.map Fd.val) := by kernel_rfl
theorem run (w : World) : HandSHeadRun.RunEqI R qv hk ob 20000 names w := run_split (r := R) (q := qv) (n := 1200) (M := 20000) (ta := tA) (tb := tB) (fn := fns) (loose := names) (w := w) (runA w) (runTA w) (runTB w) (runF w)
end Kh

set_option Elab.async false
set_option linter.all false
set_option maxRecDepth 100000
set_option maxHeartbeats 4000000
namespace Bx
open PySem PySem.Spec PyProof.Rows L2 Fl
theorem int_add_own (a : Int) (t : Tok) (x C dx : Addr) : Meets (Builtin.«int.__add__» ⟨[.int a t, .ref x], []⟩) (fun _ R s => s.heap.get? x = some (PySem.W.instObj C dx) ∧ R (.ok (.ret Value.notImplemented)) s) :=
  .of_wp fun prog w A R s h => by obtain ⟨hp, g, d, tk, os⟩ := s; obtain ⟨hl, h⟩ := h; unfold PySem.W.instObj at hl; wp_walk; exact ⟨_, rfl, h⟩
theorem int_sub_own (a : Int) (t : Tok) (x C dx : Addr) : Meets (Builtin.«int.__sub__» ⟨[.int a t, .ref x], []⟩) (fun _ R s => s.heap.get? x = some (PySem.W.instObj C dx) ∧ R (.ok (.ret Value.notImplemented)) s) :=
  .of_wp fun prog w A R s h => by obtain ⟨hp, g, d, tk, os⟩ := s; obtain ⟨hl, h⟩ := h; unfold PySem.W.instObj at hl; wp_walk; exact ⟨_, rfl, h⟩
theorem int_mul_own (a : Int) (t : Tok) (x C dx : Addr) : Meets (Builtin.«int.__mul__» ⟨[.int a t, .ref x], []⟩) (fun _ R s => s.heap.get? x = some (PySem.W.instObj C dx) ∧ R (.ok (.ret Value.notImplemented)) s) :=
  .of_wp fun prog w A R s h => by obtain ⟨hp, g, d, tk, os⟩ := s; obtain ⟨hl, h⟩ := h; unfold PySem.W.instObj at hl; wp_walk; exact ⟨_, rfl, h⟩
section
open PySem.W PySem.Calls
variable {prog : Program} {w : World} {A : Around} {E : Value → Shared → Prop} {s : Shared} {K : Frag} {x C L f g dx : Addr} {h₀ : Heap} {m : Str → Option Value} {od : Option Obj}
theorem bin_refl {op : Operator} {n : Int} {t : Tok} {id : String} {B : Builtin} {Q : Value → Shared → Prop} (F : Fr h₀ L s.heap m) (X₀ : K.In h₀) (I : PySem.W.InstAt s.heap x (PySem.W.instObj C dx) C od) (hc : selfFirst K C = true)
    (hs : findIn K (.ref C) (PySem.dunder op.info.2) = some (some (.ref f))) (hr : findIn K (.ref C) (dunderR op.info.2) = some (some (.ref g))) (hg : isFn K (.ref g) = true)
    (hsub : subIn K (.ref C) (.type "int") = some false) (fills : fillsNumberSlot (.type "int") op.info.2 = pure true) (slot : Slot "int" (PySem.dunder op.info.2) id) (entry : entryFor table id = some B) (args : argsOk id ⟨[.int n t, .ref x], []⟩)
    (mt : Meets (B ⟨[.int n t, .ref x], []⟩) (fun _ R s => s.heap.get? x = some (PySem.W.instObj C dx) ∧ R (.ok (.ret Value.notImplemented)) s))
    (h : wpAny (model prog w) A (call (.ref g) [.ref x, .int n t]) (PySem.W.CmpBack Q) E s) : wpAny (model prog w) A (binaryOp op (.int n t) (.ref x)) Q E s := by
  have X := X₀.keeps F.keep
  obtain ⟨cd, rest, hcd, hm⟩ := ksp_first hc
  rcases hi : op.info with ⟨sym, nm'⟩
  rw [hi] at hs hr fills slot
  dsimp only at hs hr fills slot
  have one := ksp_try X I hr hg h
  simp only [binaryOp, hi]
  refine wpAny_holding (wpAny_bind ?_)
  simp only [binaryOp1]
  refine wpAny_bind (wpAny_typeOf (typeIs_int s n t) (wpAny_bind (I.type.here (wpAny_bind (wpAny_of_eq fills ?_)))))
  have hne : (Value.type "int" == Value.ref C) = false := Bool.eq_false_iff.mpr fun q => by cases beq_iff_eq.mp q
  simp only [hne, Bool.false_eq_true, if_false]
  refine wpAny_bind ((fills_K X hcd hm hs).here ?_)
  simp only [Bool.and_self, if_true]
  refine wpAny_bind ((looks_subIn X hsub).here ?_)
  have hpy : numberSlotInPython (.type "int") nm' = pure false := rfl
  simp only [Bool.false_eq_true, if_false, pure_bind, Bool.not_false, Bool.and_self, if_true, hpy]
  refine wpAny_bind (wpAny_tryMethod_declines (typeIs_int s n t) slot (call_meets slot (typeIs_int s n t) entry args mt ⟨I.at_, ?_⟩))
  refine ⟨rfl, ?_⟩
  refine wpAny_bind (wpAny_mono one (fun r s' hr' => ?_) fun _ _ e => e)
  obtain ⟨v, rfl, hq⟩ := hr'
  exact wpAny_bind (wpAny_rule (wpAny_pure (wpAny_pure hq)))
end

section
open PySem.W PySem.Calls
variable {prog : Program} {w : World} {A : Around} {E : Value → Shared → Prop} {s : Shared} {K : Frag} {x C f : Addr} {ox : Obj} {od : Option Obj}
theorem call_abs_own {Q : Value → Shared → Prop} (X : K.In s.heap) (I : PySem.W.InstAt s.heap x ox C od) (hs : findIn K (.ref C) "__abs__" = some (some (.ref f))) (hf : isFn K (.ref f) = true)
    (h : wpAny (model prog w) A.in1 (call (.ref f) [.ref x]) Q E s) : wpAny (model prog w) A (call (.builtin "abs") [.ref x]) Q E s := by
  refine call_function_entry kind_abs plain_abs entry_abs (args_abs _) ?_
  unfold Builtin.«abs»
  refine wpAny_bind (wpAny_pure ?_)
  refine wpAny_bind (m := callSpecial? (.ref x) (Str.ofString "__abs__")) (special_fn X I hs (beq_iff_eq.mp hf) (wpAny_mono h (fun v s' hv => ?_) fun _ _ z => ?_))
  · exact wpAny_pure ⟨_, rfl, hv⟩
  · exact z
end
section
/-- the def that an operator's special name of the class C finds -/
structure OpOwn (P : Program) (w : World) (K : PySem.W.Frag) (mg : Str → Option Value) (base : Heap) (k : Nat) (C : Addr) (nm : Str) (ps : List Str) (sp : Sp) : Prop where
  ex : ∃ (f : Addr) (fd : FuncData), PySem.W.findIn K (.ref C) nm = some (some (.ref f)) ∧ PySem.W.isFn K (.ref f) = true ∧ FnOk P w K mg base CX0 k f fd ps sp ∧ Binds K fd ps []
def oR (Q : VK) : VK := fun v H2 => ∃ z, v = .ref z ∧ Q (.ref z) H2
def rOO (C : Addr) (sp : Sp) : R2 := fun x y H Q => ∃ (a dx : Addr) (gs : List (Str × V)) (b dy : Addr) (hs : List (Str × V)), x = .ref a ∧ H a = some (.ins C dx gs) ∧ y = .ref b ∧ H b = some (.ins C dy hs) ∧ sp [.ref a, .ref b] H (oR Q) E0
def rOI (C : Addr) (sp : Sp) : R2 := fun x y H Q => ∃ (a dx : Addr) (gs : List (Str × V)) (n : Int), x = .ref a ∧ H a = some (.ins C dx gs) ∧ y = .int n ∧ sp [.ref a, .int n] H (oR Q) E0
def rIO (C : Addr) (sp : Sp) : R2 := fun x y H Q => ∃ (a dx : Addr) (gs : List (Str × V)) (n : Int), y = .ref a ∧ H a = some (.ins C dx gs) ∧ x = .int n ∧ sp [.ref a, .int n] H (oR Q) E0
variable {X : Cx} {k : Nat} {C : Addr} {ps : List Str} {sp : Sp} {op : Operator}
theorem op_oo (M : OpOwn X.prog X.w X.K X.mg X.base k C (PySem.dunder op.info.2) ps sp) (hc : PySem.W.selfFirst X.K C = true) (hr : Room k X.A) : OpR X (binaryOp op) (rOO C sp) := by
  obtain ⟨f, fd, hs, hf, F, b⟩ := M.ex
  intro pins s σ H x y v u Q I rx ry h
  obtain ⟨a, dx, gs, b', dy, gs', rfl, ea, rfl, eb, q⟩ := h
  cases rx
  cases ry
  obtain ⟨mA, J, _⟩ := ins_get I.hok ea
  obtain ⟨od, J, _⟩ := J.look
  obtain ⟨mB, J', _⟩ := ins_get I.hok eb
  obtain ⟨od', J', _⟩ := J'.look
  obtain ⟨m, hF⟩ := I.fr
  refine PySem.W.binop_K hF I.ok.mod.kin J J'.type hc hs hf (wpAny_mono (run_fn F hr b (dvs := []) .nil pass0 I (.cons (show RelV (.ref a) (.ref a) from rfl) (.cons (show RelV (.ref b') (.ref b') from rfl) .nil)) q) (fun r s' hr => ?_) fun _ _ z => z)
  obtain ⟨z, H2, I2, rz, c, rfl, q2⟩ := hr
  cases rz
  exact ⟨V.ref c, H2, I2, rfl, q2⟩
theorem op_oi {rc : Option Value} {fo ro : Option Value} (M : OpOwn X.prog X.w X.K X.mg X.base k C (PySem.dunder op.info.2) ps sp) (hc : PySem.W.selfFirst X.K C = true) (hR : PySem.W.findIn X.K (.ref C) (dunderR op.info.2) = some rc) (hp : rc = none ∨ ∃ g : Addr, rc = some (.ref g))
    (h1 : PySem.W.findIn X.K (.type "int") (PySem.dunder op.info.2) = some fo) (h2 : PySem.W.findIn X.K (.type "int") (dunderR op.info.2) = some ro) (hsub : PySem.W.subIn X.K (.type "int") (.ref C) = some false) (hr : Room k X.A) : OpR X (binaryOp op) (rOI C sp) := by
  obtain ⟨f, fd, hs, hf, F, b⟩ := M.ex
  intro pins s σ H x y v u Q I rx ry h
  obtain ⟨a, dx, gs, n, rfl, ea, rfl, q⟩ := h
  cases rx
  obtain ⟨t, rfl⟩ := ry
  obtain ⟨mA, J, _⟩ := ins_get I.hok ea
  obtain ⟨od, J, _⟩ := J.look
  obtain ⟨m, hF⟩ := I.fr
  refine PySem.W.ksp_binT hF I.ok.mod.kin J (T := "int") rfl hc hs hf hR hp h1 h2 hsub (wpAny_mono (run_fn F hr b (dvs := []) .nil pass0 I (.cons (show RelV (.ref a) (.ref a) from rfl) (.cons (show RelV (.int n) (.int n t) from ⟨_, rfl⟩) .nil)) q) (fun r s' hr => ?_) fun _ _ z => z)
  obtain ⟨z, H2, I2, rz, c, rfl, q2⟩ := hr
  cases rz
  exact ⟨V.ref c, H2, I2, rfl, q2⟩
theorem op_io {f0 : Addr} {id : String} {B : Builtin} (M : OpOwn X.prog X.w X.K X.mg X.base k C (dunderR op.info.2) ps sp) (hc : PySem.W.selfFirst X.K C = true) (hs0 : PySem.W.findIn X.K (.ref C) (PySem.dunder op.info.2) = some (some (.ref f0))) (hsub : PySem.W.subIn X.K (.ref C) (.type "int") = some false)
    (fills : fillsNumberSlot (.type "int") op.info.2 = pure true) (slot : Slot "int" (PySem.dunder op.info.2) id) (entry : entryFor table id = some B) (args : ∀ a b, argsOk id ⟨[a, b], []⟩)
    (mt : ∀ (n : Int) (t : Tok) (x C dx : Addr), Meets (B ⟨[.int n t, .ref x], []⟩) (fun _ R s => s.heap.get? x = some (PySem.W.instObj C dx) ∧ R (.ok (.ret Value.notImplemented)) s)) (hr : Room k X.A) : OpR X (binaryOp op) (rIO C sp) := by
  obtain ⟨f, fd, hs, hf, F, b⟩ := M.ex
  intro pins s σ H x y v u Q I rx ry h
  obtain ⟨a, dx, gs, n, rfl, ea, rfl, q⟩ := h
  cases ry
  obtain ⟨t, rfl⟩ := rx
  obtain ⟨mA, J, _⟩ := ins_get I.hok ea
  obtain ⟨od, J, _⟩ := J.look
  obtain ⟨m, hF⟩ := I.fr
  refine bin_refl hF I.ok.mod.kin J hc hs0 hs hf hsub fills slot entry (args _ _) (mt n t a C dx) (wpAny_mono (run_fn F hr b (dvs := []) .nil pass0 I (.cons (show RelV (.ref a) (.ref a) from rfl) (.cons (show RelV (.int n) (.int n t) from ⟨_, rfl⟩) .nil)) q) (fun r s' hr => ?_) fun _ _ z => z)
  obtain ⟨z, H2, I2, rz, c, rfl, q2⟩ := hr
  cases rz
  exact ⟨V.ref c, H2, I2, rfl, q2⟩
def rNegO (C : Addr) (sp : Sp) : V → Hp → VK → Prop := fun x H Q => ∃ (a dx : Addr) (gs : List (Str × V)), x = .ref a ∧ H a = some (.ins C dx gs) ∧ sp [.ref a] H Q E0
theorem un_negO (M : OpOwn X.prog X.w X.K X.mg X.base k C "__neg__" ps sp) (hr : Room k X.A) : UnR X (unaryOp .USub) (rNegO C sp) := by
  obtain ⟨f, fd, hs, hf, F, b⟩ := M.ex
  intro pins s σ H x v Q I rx h
  obtain ⟨a, dx, gs, rfl, ea, q⟩ := h
  cases rx
  obtain ⟨mA, J, _⟩ := ins_get I.hok ea
  obtain ⟨od, J, _⟩ := J.look
  obtain ⟨m, hF⟩ := I.fr
  exact PySem.W.ksp_neg hF I.ok.mod.kin J hs hf (run_fn F hr b (dvs := []) .nil pass0 I (.cons (show RelV (.ref a) (.ref a) from rfl) .nil) q)
def rAbsO (C : Addr) (sp : Sp) : List V → Hp → VK → Prop := fun xs H Q => ∃ (a dx : Addr) (gs : List (Str × V)), xs = [.ref a] ∧ H a = some (.ins C dx gs) ∧ sp [.ref a] H Q E0
theorem call_absO (M : OpOwn X.prog X.w X.K X.mg X.base k C "__abs__" ps sp) (hr : Room (k + 1) X.A) : CallR X (.builtin "abs") (rAbsO C sp) := by
  obtain ⟨f, fd, hs, hf, F, b⟩ := M.ex
  intro pins s σ H xs us Q I r h
  obtain ⟨a, dx, gs, rfl, ea, q⟩ := h
  obtain ⟨u, rfl, rx⟩ := vals1 r
  cases rx
  obtain ⟨mA, J, _⟩ := ins_get I.hok ea
  obtain ⟨od, J, _⟩ := J.look
  have hl := F.len _ _ _ _ q
  have r2 : Vals [V.ref a] [Value.ref a] := .cons (show RelV (.ref a) (.ref a) from rfl) .nil
  have bb := b s [.ref a] I.kIn (by simpa using hl)
  rw [List.append_nil] at bb
  refine call_abs_own I.kIn J hs hf (wpAny_call (codeAny_mono (F.run X.A.in1 X.stack s H ⟨[.ref a], []⟩ [.ref a] [.ref a] Q E0 hr.in1 I.env0.in1 bb r2 q) fun r s' hq => ?_))
  cases r with
  | error e => exact (pass0 pins σ H s e s' I hq)
  | ok fl =>
    cases fl with
    | ret z => exact I.after hq
    | next => exact False.elim hq
    | brk => exact False.elim hq
    | cont => exact False.elim hq
end
end Bx

set_option Elab.async false
set_option linter.all false
set_option maxRecDepth 100000
set_option maxHeartbeats 4000000
namespace Bx
open PySem PySem.Spec PyProof.Rows L2 Fl
section
/-- a def of the class that may raise what its spec says -/
structure OwnX (P : Program) (w : World) (K : PySem.W.Frag) (mg : Str → Option Value) (base : Heap) (k : Nat) (C : Addr) (nm : Str) (ps : List Str) (sp : Sp) : Prop where
  ex : ∃ (f : Addr) (fd : FuncData), PySem.W.findIn K (.ref C) nm = some (some (.ref f)) ∧ PySem.W.isFn K (.ref f) = true ∧ PySem.W.keepIn K (.ref f) = true ∧ FnOk P w K mg base (L2.CX P w) k f fd ps sp ∧ Binds K fd ps []
variable {X : Cx} {k : Nat} {C : Addr} {ps : List Str} {sp : Sp} {op : Operator} {E : L2.St → XK}
def tMethX (C : Addr) (m : Str) (sp : Sp) (E : L2.St → XK) (ta : TE) (t : TA) : TE := fun σ H Q => ta σ H fun x H1 => ∃ a dx fs, x = .ref a ∧ H1 a = some (.ins C dx fs) ∧ fs.lookup m = none ∧ t σ H1 fun vs H2 => sp (x :: vs) H2 Q (E σ)
theorem pe_methX {pl : Sem Bool} {m : Str} {o e : Expr} {es : List Expr} {apos pos : Pos} {ta : TE} {t : TA} (M : OwnX X.prog X.w X.K X.mg X.base k C m ps sp) (c : Cls X.K C) (hx : ∀ σ, PassesAt (L2.CX X.prog X.w) X σ (E σ)) (hr : Room k X.A) (he : PE X o ta) (ha : PA X (e :: es) t)
    (hst : starEach (e :: es) X.env = (false, eval e X.env) :: starEach es X.env := by rfl) (hpl : (backTo pos (starEach es X.env)).any (·.1) = false := by rfl)
    (ht : eval (.Call (.Attribute o m apos) (e :: es) [] pos) X.env = (do
      let ov ← eval o X.env
      standAt apos.atName
      let (f, first) ← holding [ov] (getMethod ov m pl)
      callWith pos f first (backTo pos (starEach (e :: es) X.env)) (backToKw pos (keywordEach [] X.env))) := by rfl) :
    PE X (.Call (.Attribute o m apos) (e :: es) [] pos) (tMethX C m sp E ta t) := by
  obtain ⟨f, fd, h1, h2, h3, F, b⟩ := M.ex
  refine ⟨fun pins s σ H Q I h => ?_⟩
  refine PySem.W.methodCall_KW (pl := pl) (thn (he.run pins s σ H _ I h) fun u s1 ⟨x, H1, I1, rx, a, dx, fs, ex, ea, l, q⟩ => ?_) ht
  subst ex
  obtain rfl : u = Value.ref a := rx
  refine getmeth_ok I1 ea c ⟨h1, h2, h3⟩ l ?_
  refine PySem.W.callWith_K (first := [.ref a]) (h₀ := X.base) I.ok.mod.kin h3 (thn (ha.run pos pins s1 σ H1 _ I1 q) fun us s2 ⟨vs, H2, I2, r, q2⟩ => ⟨I2.kIn, ?_⟩) hst hpl
  exact run_fnS (us := .ref a :: us) (vs := .ref a :: vs) (E := E) F hr b (hx σ) I2 (.cons rfl r) q2
/-- what comes back: a reference or a whole number -/
def oA (Q : VK) : VK := fun v H2 => ((∃ z, v = .ref z) ∨ ∃ i, v = .int i) ∧ Q v H2
def rOwnX (C : Addr) (sp : Sp) (E : L2.St → XK) : L2.St → R2 := fun σ x y H Q => ∃ (a dx : Addr) (gs : List (Str × V)), x = .ref a ∧ H a = some (.ins C dx gs) ∧ ((∃ (b dy : Addr) (hs : List (Str × V)), y = .ref b ∧ H b = some (.ins C dy hs)) ∨ ∃ n : Int, y = .int n) ∧ sp [x, y] H (oA Q) (E σ)
def tOpS (R : L2.St → R2) (ta tb : TE) : TE := fun σ H Q => ta σ H fun x H1 => tb σ H1 fun y H2 => R σ x y H2 Q
theorem back {pins : List (Addr × Obj)} {σ : L2.St} {Q : VK} {r : Value} {s' : Shared} (h : EP X pins σ (oA Q) r s') : PySem.W.CmpBack (EP X pins σ Q) r s' := by
  obtain ⟨z, H2, I2, rz, c, q2⟩ := h
  rcases c with ⟨c, rfl⟩ | ⟨i, rfl⟩
  · cases rz
    exact ⟨V.ref c, H2, I2, rfl, q2⟩
  · obtain ⟨t, rfl⟩ := rz
    exact ⟨V.int i, H2, I2, ⟨t, rfl⟩, q2⟩
theorem pe_ownX {rc fo ro : Option Value} {a b : Expr} {ta tb : TE} {pos : Pos} (M : OwnX X.prog X.w X.K X.mg X.base k C (PySem.dunder op.info.2) ps sp) (hx : ∀ σ, PassesAt (L2.CX X.prog X.w) X σ (E σ)) (hc : PySem.W.selfFirst X.K C = true)
    (hR : PySem.W.findIn X.K (.ref C) (dunderR op.info.2) = some rc) (hp : rc = none ∨ ∃ g : Addr, rc = some (.ref g)) (h1 : PySem.W.findIn X.K (.type "int") (PySem.dunder op.info.2) = some fo) (h2 : PySem.W.findIn X.K (.type "int") (dunderR op.info.2) = some ro)
    (hsub : PySem.W.subIn X.K (.type "int") (.ref C) = some false) (hr : Room k X.A) (ha : PE X a ta) (hb : PE X b tb) : PE X (.BinOp a op b pos) (tOpS (rOwnX C sp E) ta tb) := by
  obtain ⟨f, fd, hs, hf, hk, F, bd⟩ := M.ex
  refine ⟨fun pins s σ H Q I h => ?_⟩
  refine wpAny_BinOp (binT ha hb I h fun v u s2 x y H2 I2 rx ry q => ?_)
  obtain ⟨a', dx, gs, rfl, ea, hy, q⟩ := q
  cases rx
  obtain ⟨mA, J, _⟩ := ins_get I2.hok ea
  obtain ⟨od, J, _⟩ := J.look
  obtain ⟨m, hF⟩ := I2.fr
  have run := run_fnS (E := E) F hr bd (hx σ) I2 (.cons (show RelV (.ref a') (.ref a') from rfl) (.cons ry .nil)) q
  rcases hy with ⟨b', dy, gs', rfl, eb⟩ | ⟨n, rfl⟩
  · cases ry
    obtain ⟨mB, J', _⟩ := ins_get I2.hok eb
    obtain ⟨od', J', _⟩ := J'.look
    exact PySem.W.binop_K hF I2.ok.mod.kin J J'.type hc hs hf (wpAny_mono run (fun r s' hr => back hr) fun _ _ z => z)
  · obtain ⟨t, rfl⟩ := ry
    exact PySem.W.ksp_binT hF I2.ok.mod.kin J (T := "int") rfl hc hs hf hR hp h1 h2 hsub (wpAny_mono run (fun r s' hr => back hr) fun _ _ z => z)
theorem op_or {f : Value → Value → Sem Value} {r1 r2 : R2} (h1 : OpR X f r1) (h2 : OpR X f r2) : OpR X f (fun x y H Q => r1 x y H Q ∨ r2 x y H Q) := fun pins s σ H x y v u Q I rx ry h => h.elim (h1 pins s σ H x y v u Q I rx ry) (h2 pins s σ H x y v u Q I rx ry)
end
end Bx

set_option Elab.async false
set_option linter.all false
set_option maxRecDepth 100000
set_option maxHeartbeats 4000000
namespace Bx
open PySem PySem.Spec PyProof.Rows L2 Fl
theorem int_lt_own (a : Int) (t : Tok) (x C dx : Addr) : Meets (Builtin.«int.__lt__» ⟨[.int a t, .ref x], []⟩) (fun _ R s => s.heap.get? x = some (PySem.W.instObj C dx) ∧ R (.ok (.ret Value.notImplemented)) s) :=
  .of_wp fun prog w A R s h => by obtain ⟨hp, g, d, tk, os⟩ := s; obtain ⟨hl, h⟩ := h; unfold PySem.W.instObj at hl; wp_walk; exact ⟨_, rfl, h⟩
theorem int_le_own (a : Int) (t : Tok) (x C dx : Addr) : Meets (Builtin.«int.__le__» ⟨[.int a t, .ref x], []⟩) (fun _ R s => s.heap.get? x = some (PySem.W.instObj C dx) ∧ R (.ok (.ret Value.notImplemented)) s) :=
  .of_wp fun prog w A R s h => by obtain ⟨hp, g, d, tk, os⟩ := s; obtain ⟨hl, h⟩ := h; unfold PySem.W.instObj at hl; wp_walk; exact ⟨_, rfl, h⟩
theorem int_gt_own (a : Int) (t : Tok) (x C dx : Addr) : Meets (Builtin.«int.__gt__» ⟨[.int a t, .ref x], []⟩) (fun _ R s => s.heap.get? x = some (PySem.W.instObj C dx) ∧ R (.ok (.ret Value.notImplemented)) s) :=
  .of_wp fun prog w A R s h => by obtain ⟨hp, g, d, tk, os⟩ := s; obtain ⟨hl, h⟩ := h; unfold PySem.W.instObj at hl; wp_walk; exact ⟨_, rfl, h⟩
theorem int_ge_own (a : Int) (t : Tok) (x C dx : Addr) : Meets (Builtin.«int.__ge__» ⟨[.int a t, .ref x], []⟩) (fun _ R s => s.heap.get? x = some (PySem.W.instObj C dx) ∧ R (.ok (.ret Value.notImplemented)) s) :=
  .of_wp fun prog w A R s h => by obtain ⟨hp, g, d, tk, os⟩ := s; obtain ⟨hl, h⟩ := h; unfold PySem.W.instObj at hl; wp_walk; exact ⟨_, rfl, h⟩
theorem int_eq_own (a : Int) (t : Tok) (x C dx : Addr) : Meets (Builtin.«int.__eq__» ⟨[.int a t, .ref x], []⟩) (fun _ R s => s.heap.get? x = some (PySem.W.instObj C dx) ∧ R (.ok (.ret Value.notImplemented)) s) :=
  .of_wp fun prog w A R s h => by obtain ⟨hp, g, d, tk, os⟩ := s; obtain ⟨hl, h⟩ := h; unfold PySem.W.instObj at hl; wp_walk; exact ⟨_, rfl, h⟩
theorem int_ne_own (a : Int) (t : Tok) (x C dx : Addr) : Meets (Builtin.«int.__ne__» ⟨[.int a t, .ref x], []⟩) (fun _ R s => s.heap.get? x = some (PySem.W.instObj C dx) ∧ R (.ok (.ret Value.notImplemented)) s) :=
  .of_wp fun prog w A R s h => by obtain ⟨hp, g, d, tk, os⟩ := s; obtain ⟨hl, h⟩ := h; unfold PySem.W.instObj at hl; wp_walk; exact ⟨_, rfl, h⟩
section
open PySem.W PySem.Calls
variable {prog : Program} {w : World} {A : Around} {E : Value → Shared → Prop} {s : Shared} {K : Frag} {x C L f g dx : Addr} {h₀ : Heap} {m : Str → Option Value} {od : Option Obj}
theorem cmp_refl {op : CmpOp} {n : Int} {t : Tok} {id : String} {B : Builtin} {Q : Value → Shared → Prop} (hu : A.units < cLine) (F : Fr h₀ L s.heap m) (X₀ : K.In h₀) (I : PySem.W.InstAt s.heap x (PySem.W.instObj C dx) C od)
    (hr : findIn K (.ref C) (cmpInfo op).2.2 = some (some (.ref g))) (hg : isFn K (.ref g) = true)
    (hsub : subIn K (.ref C) (.type "int") = some false) (slot : Slot "int" (cmpInfo op).2.1 id) (entry : entryFor table id = some B) (args : argsOk id ⟨[.int n t, .ref x], []⟩)
    (mt : Meets (B ⟨[.int n t, .ref x], []⟩) (fun _ R s => s.heap.get? x = some (PySem.W.instObj C dx) ∧ R (.ok (.ret Value.notImplemented)) s))
    (h : wpAny (model prog w) A (call (.ref g) [.ref x, .int n t]) (PySem.W.CmpBack Q) E s) : wpAny (model prog w) A (richCompare op (.int n t) (.ref x)) Q E s := by
  have X := X₀.keeps F.keep
  have one : wpAny (model prog w) A (tryCompare (.ref x) (cmpInfo op).2.2 (.int n t)) (fun r s' => ∃ v, r = some v ∧ Q v s') E s := by
    unfold tryCompare
    refine wpAny_bind (ifBound_K X I hr hg (wpAny_mono h (fun v s' hv => ?_) fun _ _ e => e))
    cases v <;> first | exact hv.elim | exact wpAny_pure ⟨_, rfl, hv⟩
  have ot : oneThing? op (.int n t) (.ref x) = none := rfl
  unfold richCompare
  simp only [ot]
  refine wpAny_holding (wpAny_bind (wpAny_cRoomFor hu ?_))
  refine wpAny_bind (wpAny_typeOf (typeIs_int s n t) (wpAny_bind (I.type.here ?_)))
  have hne : (Value.type "int" != Value.ref C) = true := by
    rw [bne_iff_ne]
    intro q
    cases q
  simp only [hne, if_true]
  refine wpAny_bind ((looks_subIn X hsub).here ?_)
  simp only [Bool.false_eq_true, if_false, Bool.not_false, if_true]
  refine wpAny_bind (wpAny_tryCompare_declines (typeIs_int s n t) slot (call_meets slot (typeIs_int s n t) entry args mt ⟨I.at_, ?_⟩))
  refine ⟨rfl, ?_⟩
  refine wpAny_bind (wpAny_mono one (fun r s' hr' => ?_) fun _ _ e => e)
  obtain ⟨v, rfl, hq⟩ := hr'
  exact wpAny_pure hq
end
section
variable {X : Cx} {k : Nat} {C : Addr} {ps : List Str} {sp : Sp} {op : CmpOp}
def oB (Q : VK) : VK := fun v H2 => ∃ b, v = .bl b ∧ Q (.bl b) H2
/-- own op y: y of the same class -/
def cOO (C : Addr) (sp : Sp) : R2 := fun x y H Q => ∃ (a dx : Addr) (gs : List (Str × V)) (b dy : Addr) (hs : List (Str × V)), x = .ref a ∧ H a = some (.ins C dx gs) ∧ y = .ref b ∧ H b = some (.ins C dy hs) ∧ sp [.ref a, .ref b] H (oB Q) E0
def cOI (C : Addr) (sp : Sp) : R2 := fun x y H Q => ∃ (a dx : Addr) (gs : List (Str × V)) (n : Int), x = .ref a ∧ H a = some (.ins C dx gs) ∧ y = .int n ∧ sp [.ref a, .int n] H (oB Q) E0
def cIO (C : Addr) (sp : Sp) : R2 := fun x y H Q => ∃ (a dx : Addr) (gs : List (Str × V)) (n : Int), y = .ref a ∧ H a = some (.ins C dx gs) ∧ x = .int n ∧ sp [.ref a, .int n] H (oB Q) E0
theorem backB {pins : List (Addr × Obj)} {σ : L2.St} {Q : VK} {r : Value} {s' : Shared} (h : EP X pins σ (oB Q) r s') : PySem.W.CmpBack (EP X pins σ Q) r s' := by
  obtain ⟨z, H2, I2, rz, c, rfl, q2⟩ := h
  cases rz
  exact ⟨V.bl c, H2, I2, rfl, q2⟩
theorem cmp_oo (hop : ∀ a b, compareOp op a b = richCompare op a b) (M : OpOwn X.prog X.w X.K X.mg X.base k C (cmpInfo op).2.1 ps sp) (hu : X.A.units < cLine) (hr : Room k X.A) : OpR X (compareOp op) (cOO C sp) := by
  obtain ⟨f, fd, hs, hf, F, b⟩ := M.ex
  intro pins s σ H x y v u Q I rx ry h
  obtain ⟨a, dx, gs, b', dy, gs', rfl, ea, rfl, eb, q⟩ := h
  cases rx
  cases ry
  obtain ⟨mA, J, _⟩ := ins_get I.hok ea
  obtain ⟨od, J, _⟩ := J.look
  obtain ⟨mB, J', _⟩ := ins_get I.hok eb
  obtain ⟨od', J', _⟩ := J'.look
  obtain ⟨m, hF⟩ := I.fr
  rw [hop]
  refine PySem.W.cmp_K hu hF I.ok.mod.kin J J'.type (by unfold PySem.W.notFirst; simp) hs hf (wpAny_mono (run_fn F hr b (dvs := []) .nil pass0 I (.cons (show RelV (.ref a) (.ref a) from rfl) (.cons (show RelV (.ref b') (.ref b') from rfl) .nil)) q) (fun r s' hr => backB hr) fun _ _ z => z)
theorem cmp_oi (hop : ∀ a b, compareOp op a b = richCompare op a b) (M : OpOwn X.prog X.w X.K X.mg X.base k C (cmpInfo op).2.1 ps sp) (hsub : PySem.W.subIn X.K (.type "int") (.ref C) = some false) (hu : X.A.units < cLine) (hr : Room k X.A) : OpR X (compareOp op) (cOI C sp) := by
  obtain ⟨f, fd, hs, hf, F, b⟩ := M.ex
  intro pins s σ H x y v u Q I rx ry h
  obtain ⟨a, dx, gs, n, rfl, ea, rfl, q⟩ := h
  cases rx
  obtain ⟨t, rfl⟩ := ry
  obtain ⟨mA, J, _⟩ := ins_get I.hok ea
  obtain ⟨od, J, _⟩ := J.look
  obtain ⟨m, hF⟩ := I.fr
  rw [hop]
  refine PySem.W.cmp_K (tb := .type "int") hu hF I.ok.mod.kin J (PySem.W.Looks.of_pure rfl) (by unfold PySem.W.notFirst; rw [hsub]; simp) hs hf (wpAny_mono (run_fn F hr b (dvs := []) .nil pass0 I (.cons (show RelV (.ref a) (.ref a) from rfl) (.cons (show RelV (.int n) (.int n t) from ⟨_, rfl⟩) .nil)) q) (fun r s' hr => backB hr) fun _ _ z => z)
theorem cmp_io {id : String} {B : Builtin} (hop : ∀ a b, compareOp op a b = richCompare op a b) (M : OpOwn X.prog X.w X.K X.mg X.base k C (cmpInfo op).2.2 ps sp) (hsub : PySem.W.subIn X.K (.ref C) (.type "int") = some false) (slot : Slot "int" (cmpInfo op).2.1 id) (entry : entryFor table id = some B) (args : ∀ a b, argsOk id ⟨[a, b], []⟩)
    (mt : ∀ (n : Int) (t : Tok) (x C dx : Addr), Meets (B ⟨[.int n t, .ref x], []⟩) (fun _ R s => s.heap.get? x = some (PySem.W.instObj C dx) ∧ R (.ok (.ret Value.notImplemented)) s)) (hu : X.A.units < cLine) (hr : Room k X.A) : OpR X (compareOp op) (cIO C sp) := by
  obtain ⟨f, fd, hs, hf, F, b⟩ := M.ex
  intro pins s σ H x y v u Q I rx ry h
  obtain ⟨a, dx, gs, n, rfl, ea, rfl, q⟩ := h
  cases ry
  obtain ⟨t, rfl⟩ := rx
  obtain ⟨mA, J, _⟩ := ins_get I.hok ea
  obtain ⟨od, J, _⟩ := J.look
  obtain ⟨m, hF⟩ := I.fr
  rw [hop]
  refine cmp_refl hu hF I.ok.mod.kin J hs hf hsub slot entry (args _ _) (mt n t a C dx) (wpAny_mono (run_fn F hr b (dvs := []) .nil pass0 I (.cons (show RelV (.ref a) (.ref a) from rfl) (.cons (show RelV (.int n) (.int n t) from ⟨_, rfl⟩) .nil)) q) (fun r s' hr => backB hr) fun _ _ z => z)
end
end Bx

set_option Elab.async false
set_option linter.all false
set_option maxRecDepth 100000
set_option maxHeartbeats 4000000
namespace Bx
open PySem PySem.Spec PyProof.Rows L2 Fl
section
variable {X : Cx} {k : Nat} {C : Addr} {x m : Str} {ps : List Str} {dvs : List V} {sp : Sp} {E : L2.St → XK} {p pos apos : Pos} {e o : Expr} {es : List Expr} {t : TA} {tv ta : TE}
/-- v(e, ..), v a local that holds the class at C -/
def tMakeV (C : Addr) (sp : Sp) (dvs : List V) (E : L2.St → XK) (tv : TE) (t : TA) : TE := fun σ H Q => tv σ H fun v H1 => v = .ref C ∧ t σ H1 fun vs H2 => ∀ x dx, H2 x = none → H2 dx = none → dx ≠ x →
  sp (.ref x :: (vs ++ dvs)) (upd (upd H2 dx (.own x)) x (.ins C dx [])) (fun v H2 => v = .non ∧ Q (.ref x) H2) (E σ)
theorem pe_mkV (M : CalC X.prog X.w X.K X.mg X.base (L2.CX X.prog X.w) k C x ps dvs sp) (hx : ∀ σ, PassesAt (L2.CX X.prog X.w) X σ (E σ)) (hr : Room (k + 1) X.A) {y : Str} (hv : PE X (.Name y p) tv) (ha : PA X (e :: es) t)
    (he : starEach (e :: es) X.env = (false, eval e X.env) :: starEach es X.env := by rfl) (hpl : (backTo pos (starEach es X.env)).any (·.1) = false := by rfl) :
    PE X (.Call (.Name y p) (e :: es) [] pos) (tMakeV C sp dvs E tv t) := by
  obtain ⟨f, fd, ds, M, F, hm, hb, hd⟩ := M.ex
  refine ⟨fun pins s σ H Q I h => ?_⟩
  refine wpAny_Call_Name_kw (thn (hv.run pins s σ H _ I h) fun u s1 ⟨v, H1, I1, rv, ev, q⟩ => ?_)
  subst ev
  cases rv
  refine PySem.W.callWith_K (h₀ := X.base) I1.ok.mod.kin M.kp (thn (ha.run pos pins s1 σ H1 _ I1 q) fun us s2 ⟨vs, H2, I2, r, q2⟩ => ⟨I2.kIn, ?_⟩) he hpl
  exact run_makeS (E := E) M F hr hb hd (hx σ) I2 r q2
/-- a classmethod of C by the name m -/
structure CalCM (P : Program) (w : World) (K : PySem.W.Frag) (mg : Str → Option Value) (base : Heap) (k : Nat) (C : Addr) (m : Str) (ps : List Str) (sp : Sp) : Prop where
  ex : ∃ (mc : Value) (p g : Addr) (fd : FuncData), ClX.CRead K C mc ∧ ClX.CMet K C mc m p g ∧ FnOk P w K mg base (L2.CX P w) k g fd ps sp ∧ Binds K fd ps []
def tCMethS (C : Addr) (sp : Sp) (E : L2.St → XK) (ta : TE) (t : TA) : TE := fun σ H Q => ta σ H fun x H1 => x = .ref C ∧ t σ H1 fun vs H2 => sp (.ref C :: vs) H2 Q (E σ)
theorem pe_cm {pl : Sem Bool} (M : CalCM X.prog X.w X.K X.mg X.base k C m ps sp) (hx : ∀ σ, PassesAt (L2.CX X.prog X.w) X σ (E σ)) (hr : Room k X.A) (he : PE X o ta) (ha : PA X (e :: es) t)
    (hst : starEach (e :: es) X.env = (false, eval e X.env) :: starEach es X.env := by rfl) (hpl : (backTo pos (starEach es X.env)).any (·.1) = false := by rfl)
    (ht : eval (.Call (.Attribute o m apos) (e :: es) [] pos) X.env = (do
      let ov ← eval o X.env
      standAt apos.atName
      let (f, first) ← holding [ov] (getMethod ov m pl)
      callWith pos f first (backTo pos (starEach (e :: es) X.env)) (backToKw pos (keywordEach [] X.env))) := by rfl) :
    PE X (.Call (.Attribute o m apos) (e :: es) [] pos) (tCMethS C sp E ta t) := by
  obtain ⟨mc, pp, g, fd, r, c, F, b⟩ := M.ex
  refine ⟨fun pins s σ H Q I h => ?_⟩
  refine PySem.W.methodCall_KW (pl := pl) (thn (he.run pins s σ H _ I h) fun u s1 ⟨x, H1, I1, rx, ex, q⟩ => ?_) ht
  subst ex
  obtain rfl : u = Value.ref C := rx
  refine ClX.getmethcm_ok I1 r c fun s2 I2 => ?_
  refine ClX.callwith_cm I2 (ClX.base_none I1 (Nat.le_refl _)) c.fi (thn (ha.run pos _ s2 σ H1 _ I2 q) fun us s3 ⟨vs, H2, I3, rv, q2⟩ => ⟨⟨ClX.pin_at I3, I3.kIn⟩, ?_⟩) hst hpl
  have hl := F.len _ _ _ _ q2
  have r2 : Vals (V.ref C :: vs) (Value.ref C :: us) := .cons (show RelV (.ref C) (.ref C) from rfl) rv
  have bb := b s3 (Value.ref C :: us) I3.kIn (by rw [List.append_nil, ← r2.length]; exact hl)
  rw [List.append_nil] at bb
  have z : wpAny (model X.prog X.w) X.A (call (.ref s1.heap.objs.size) us) (EP X ((s1.heap.objs.size, PySem.W.methodObj (.ref g) (.ref C)) :: pins) σ Q) X.xe s3 := by
    refine wpAny_call (PySem.W.method_call (ClX.pin_at I3) (codeAny_mono (F.run X.A X.stack s3 H2 ⟨Value.ref C :: us, []⟩ (Value.ref C :: us) (V.ref C :: vs) Q (E σ) hr I3.env0 bb r2 q2) fun r s' hq => ?_))
    cases r with
    | error e => exact hx σ _ H2 s3 e s' I3 hq
    | ok fl =>
      cases fl with
      | ret u => exact I3.after hq
      | next => exact False.elim hq
      | brk => exact False.elim hq
      | cont => exact False.elim hq
  exact thn z fun _ _ y => ClX.unpinE y
end
end Bx

set_option Elab.async false
set_option linter.all false
set_option maxRecDepth 100000
set_option maxHeartbeats 4000000
namespace Fl
open PySem PySem.Spec PyProof.Rows L2
/-! ### what stands in a heap, as a list of places and objects -/
def Al (fs : List (Addr × HO)) (H : Hp) : Prop := ∀ a o, (a, o) ∈ fs → H a = some o
theorem Al.nil {H : Hp} : Al [] H := fun _ _ h => nomatch h
theorem Al.at {fs : List (Addr × HO)} {H : Hp} {a : Addr} {o : HO} (W : Al fs H) (h : (a, o) ∈ fs) : H a = some o := W a o h
theorem Al.same {fs : List (Addr × HO)} {H H' : Hp} (W : Al fs H) (s : Same H H') : Al fs H' := fun a o h => s a o (W a o h)
theorem Al.got {fs : List (Addr × HO)} {H : Hp} {a : Addr} {o : HO} (W : Al fs H) (h : H a = some o) : Al ((a, o) :: fs) H := fun b u hm => by
  rcases List.mem_cons.mp hm with e | e
  · cases e
    exact h
  · exact W b u e
theorem Al.new {fs : List (Addr × HO)} {H : Hp} {a : Addr} {o : HO} (W : Al fs H) (h : H a = none) : Al ((a, o) :: fs) (upd H a o) := (W.same (same_upd h)).got upd_same
structure Wd (p : Pla) (fs : List (Addr × HO)) (H : Hp) : Prop where
  P : Pool H p
  W : Al fs H
  n : ∀ a o, (a, o) ∈ fs → a ≠ p.p
theorem Wd.nil {p : Pla} {H : Hp} (h : Pool H p) : Wd p [] H := ⟨h, Al.nil, fun _ _ h => nomatch h⟩
theorem Wd.at {p : Pla} {fs : List (Addr × HO)} {H : Hp} {a : Addr} {o : HO} (W : Wd p fs H) (h : (a, o) ∈ fs) : H a = some o := W.W a o h
theorem Wd.same {p : Pla} {fs : List (Addr × HO)} {H H' : Hp} (W : Wd p fs H) (s : Same H H') : Wd p fs H' := ⟨W.P.same s, W.W.same s, W.n⟩
theorem Wd.keep {p : Pla} {fs : List (Addr × HO)} {H H' : Hp} (W : Wd p fs H) (hP : Pool H' p) (k : Keeps H H' p.p) : Wd p fs H' := ⟨hP, fun a o h => k a o (W.W a o h) (W.n a o h), W.n⟩
theorem Wd.got {p : Pla} {fs : List (Addr × HO)} {H : Hp} {a : Addr} {o : HO} (W : Wd p fs H) (h : H a = some o) (ne : ∀ xs, o ≠ .lst xs) : Wd p ((a, o) :: fs) H := ⟨W.P, W.W.got h, fun b u hm => by
  rcases List.mem_cons.mp hm with e | e
  · cases e
    obtain ⟨ns, i, b, c, d, h1, _⟩ := W.P
    exact ne_of h h1 (ne _)
  · exact W.n b u e⟩
theorem Wd.new {p : Pla} {fs : List (Addr × HO)} {H : Hp} {a : Addr} {o : HO} (W : Wd p fs H) (h : H a = none) : Wd p ((a, o) :: fs) (upd H a o) := ⟨W.P.upd h, W.W.new h, fun b u hm => by
  rcases List.mem_cons.mp hm with e | e
  · cases e
    exact (W.P.apart h).1
  · exact W.n b u e⟩
/-! ### tests whose answer is known -/
theorem itT {p : Prop} [Decidable p] {A B : Prop} (h : p) (a : A) : if decide p = true then A else B := by rw [decide_eq_true h]; exact iteT a
theorem itF {p : Prop} [Decidable p] {A B : Prop} (h : ¬ p) (b : B) : if decide p = true then A else B := by rw [decide_eq_false h]; exact iteF b
theorem niT {p : Prop} [Decidable p] {A B : Prop} (h : p) (b : B) : if (!decide p) = true then A else B := by rw [decide_eq_true h]; exact iteF b
theorem niF {p : Prop} [Decidable p] {A B : Prop} (h : ¬ p) (a : A) : if (!decide p) = true then A else B := by rw [decide_eq_false h]; exact iteT a
theorem ieT {a b : Int} {A B : Prop} (h : a = b) (x : A) : if decide (V.int a = V.int b) = true then A else B := itT (by rw [h]) x
theorem ieF {a b : Int} {A B : Prop} (h : a ≠ b) (x : B) : if decide (V.int a = V.int b) = true then A else B := itF (fun e => h (V.int.inj e)) x
theorem jeT {a b : Int} {A B : Prop} (h : a = b) (x : B) : if (!decide (V.int a = V.int b)) = true then A else B := niT (by rw [h]) x
theorem jeF {a b : Int} {A B : Prop} (h : a ≠ b) (x : A) : if (!decide (V.int a = V.int b)) = true then A else B := niF (fun e => h (V.int.inj e)) x
/-! ### values that are known -/
theorem vT {Q : VK} {H : Hp} {p : Prop} [Decidable p] (h : p) (q : Q (.bl true) H) : Q (.bl (decide p)) H := by rw [decide_eq_true h]; exact q
theorem vF {Q : VK} {H : Hp} {p : Prop} [Decidable p] (h : ¬ p) (q : Q (.bl false) H) : Q (.bl (decide p)) H := by rw [decide_eq_false h]; exact q
theorem veT {Q : VK} {H : Hp} {a b : Int} (h : a = b) (q : Q (.bl true) H) : Q (.bl (decide (V.int a = V.int b))) H := vT (by rw [h]) q
theorem veF {Q : VK} {H : Hp} {a b : Int} (h : a ≠ b) (q : Q (.bl false) H) : Q (.bl (decide (V.int a = V.int b))) H := vF (fun e => h (V.int.inj e)) q
/-! ### bounds -/
theorem ba {i j : Int} {a : Nat} (h1 : i.natAbs < 2 ^ a) (h2 : j.natAbs < 2 ^ a) : (i + j).natAbs < 2 ^ (a + 1) := by
  rw [Nat.pow_succ]
  generalize 2 ^ a = z at *
  omega
theorem bs {i j : Int} {a : Nat} (h1 : i.natAbs < 2 ^ a) (h2 : j.natAbs < 2 ^ a) : (i - j).natAbs < 2 ^ (a + 1) := by
  rw [Nat.pow_succ]
  generalize 2 ^ a = z at *
  omega
theorem bn {i : Int} {a : Nat} (h1 : i.natAbs < 2 ^ a) : (-i).natAbs < 2 ^ a := by
  rw [Int.natAbs_neg]
  exact h1
theorem ub {n : Int} {a b : Nat} (h : n.natAbs < 2 ^ a) (k : a ≤ b) : n.natAbs < 2 ^ b := Nat.lt_of_lt_of_le h (Nat.pow_le_pow_right (by decide) k)
end Fl
namespace Fl
open PySem PySem.Spec PyProof.Rows L2
theorem Al.drop {x : Addr × HO} {fs : List (Addr × HO)} {H : Hp} (W : Al (x :: fs) H) : Al fs H := fun a o h => W a o (List.mem_cons_of_mem _ h)
theorem Wd.drop {p : Pla} {x : Addr × HO} {fs : List (Addr × HO)} {H : Hp} (W : Wd p (x :: fs) H) : Wd p fs H := ⟨W.P, W.W.drop, fun a o h => W.n a o (List.mem_cons_of_mem _ h)⟩
end Fl

set_option Elab.async false
set_option linter.all false
set_option maxRecDepth 100000
set_option maxHeartbeats 4000000
namespace Bx
open PySem PySem.Spec PyProof.Rows L2 Fl
section
open PySem.W PySem.Calls
variable {prog : Program} {w : World} {A : Around} {E : Value → Shared → Prop} {s : Shared} {K : Frag} {x C L f dx : Addr} {h₀ : Heap} {m : Str → Option Value} {od : Option Obj} {ox : Obj} {b tb : Value}
open Builtin in
theorem obj_ne {Q : Value → Shared → Prop} (hu : A.in1.units < cLine) (X : K.In s.heap) (I : PySem.W.InstAt s.heap x ox C od) (hm : mroIn K C (.type "object") = some true) (hs : findIn K (.ref C) "__eq__" = some (some (.ref f))) (hf : isFn K (.ref f) = true)
    (h : wpAny (model prog w) A.in1 (call (.ref f) [.ref x, b]) (fun v s' => ∃ c, v = .bool c ∧ Q (.bool (!c)) s') E s) : wpAny (model prog w) A (call (.builtin "object.__ne__") [.ref x, b]) Q E s := by
  refine wpAny_call (codeAny_call_builtin PySem.F.slot_object_ne.plain PySem.F.entry_object_ne (check_slot (i := "object.__ne__") (owner := "object") (n := "__ne__") (by decide +kernel) (by decide +kernel) (I.type.andThen (looks_mroIn X hm)) (PySem.F.args_object_ne_2 _ _) ?_))
  unfold Builtin.«object.__ne__»
  refine wpAny_bind (m := slotArgs "__ne__" 1 _) (wpAny_pure ?_)
  refine wpAny_bind (m := cRoomFor _ _) (wpAny_cRoomFor hu ?_)
  refine wpAny_bind (m := callSpecialIfBound? (.ref x) (Str.ofString "__eq__") _) (ifBound_K X I hs hf (wpAny_mono h (fun r s' hq => ?_) fun _ _ y => y))
  obtain ⟨c, rfl, hq⟩ := hq
  exact wpAny_bind (m := truthy (.bool _)) (wpAny_truthy_bool (wpAny_pure hq))
theorem try_ne {Q : Value → Shared → Prop} (hu : A.in1.units < cLine) (X : K.In s.heap) (I : PySem.W.InstAt s.heap x ox C od) (hm : mroIn K C (.type "object") = some true) (hN : findIn K (.ref C) "__ne__" = some (some (.builtin "object.__ne__"))) (hs : findIn K (.ref C) "__eq__" = some (some (.ref f))) (hf : isFn K (.ref f) = true)
    (h : wpAny (model prog w) A.in1 (call (.ref f) [.ref x, b]) (fun v s' => ∃ c, v = .bool c ∧ Q (.bool (!c)) s') E s) : wpAny (model prog w) A (tryCompare (.ref x) "__ne__" b) (fun r s' => ∃ v, r = some v ∧ Q v s') E s := by
  have fin : wpAny (model prog w) A (call (.builtin "object.__ne__") [.ref x, b] >>= fun v => pure (some v)) (fun r s' => ∃ c, r = some (.bool c) ∧ Q (.bool c) s') E s :=
    wpAny_bind (wpAny_mono (obj_ne (Q := fun v s' => ∃ c, v = .bool c ∧ Q (.bool c) s') hu X I hm hs hf (wpAny_mono h (fun v s' ⟨c, e, q⟩ => ⟨c, e, _, rfl, q⟩) fun _ _ e => e)) (fun v s' ⟨c, e, q⟩ => wpAny_pure ⟨c, by rw [e], q⟩) fun _ _ e => e)
  unfold tryCompare
  refine wpAny_bind (wpAny_mono (Q := fun r s' => ∃ c, r = some (.bool c) ∧ Q (.bool c) s') ?_ (fun r s' ⟨c, e, q⟩ => ?_) fun _ _ e => e)
  · simp only [callSpecialIfBound?, bindSpecialIfBound?]
    refine wpAny_holding (wpAny_bind (wpAny_bind (wpAny_bind (I.type.here ((looks_findIn X hN).here ?_)))))
    refine wpAny_bind (wpAny_askSetting (wpAny_ite ?_))
    split
    · exact wpAny_bind ((Looks.of_pure (PySem.F.slot_object_ne.bind _)).here (wpAny_pure (by exact fin)))
    · exact wpAny_tryCatch (wpAny_bind ((Looks.of_pure (PySem.F.slot_object_ne.bind _)).here (wpAny_pure (by exact fin))))
  · subst e
    exact wpAny_pure ⟨_, rfl, q⟩
theorem ne_K {Q : Value → Shared → Prop} (hu : A.in1.units < cLine) (hu0 : A.units < cLine) (F : Fr h₀ L s.heap m) (X₀ : K.In h₀) (I : PySem.W.InstAt s.heap x ox C od) (hb : Looks (model prog w) s.heap (typeOf b) tb) (hn : notFirst K C tb = true) (hm : mroIn K C (.type "object") = some true)
    (hN : findIn K (.ref C) "__ne__" = some (some (.builtin "object.__ne__"))) (hs : findIn K (.ref C) "__eq__" = some (some (.ref f))) (hf : isFn K (.ref f) = true)
    (h : wpAny (model prog w) A.in1 (call (.ref f) [.ref x, b]) (fun v s' => ∃ c, v = .bool c ∧ Q (.bool (!c)) s') E s) : wpAny (model prog w) A (richCompare .NotEq (.ref x) b) Q E s := by
  have X := X₀.keeps F.keep
  have one := try_ne (Q := Q) hu X I hm hN hs hf h
  unfold richCompare
  simp only [oneThing_ref]
  refine wpAny_holding (wpAny_bind (wpAny_cRoomFor hu0 ?_))
  refine wpAny_bind (I.type.here (wpAny_bind (hb.here ?_)))
  unfold notFirst at hn
  by_cases hne : (Value.ref C != tb) = true
  · simp only [hne, if_true]
    by_cases h0 : subIn K tb (.ref C) = some false
    · refine wpAny_bind ((looks_subIn X h0).here ?_)
      simp only [Bool.false_eq_true, if_false]
      refine wpAny_bind (wpAny_mono one (fun r s' hr' => ?_) fun _ _ e => e)
      obtain ⟨v, rfl, hq⟩ := hr'
      exact wpAny_pure hq
    · exfalso
      have e : (tb == Value.ref C) = false := by
        rw [beq_eq_false_iff_ne]
        intro q
        rw [q] at hne
        simp at hne
      simp [e, h0] at hn
  · simp only [hne, Bool.false_eq_true, if_false]
    refine wpAny_bind (wpAny_pure ?_)
    simp only [Bool.false_eq_true, if_false]
    refine wpAny_bind (wpAny_mono one (fun r s' hr' => ?_) fun _ _ e => e)
    obtain ⟨v, rfl, hq⟩ := hr'
    exact wpAny_pure hq
theorem ne_refl {n : Int} {t : Tok} {Q : Value → Shared → Prop} (hu : A.in1.units < cLine) (hu0 : A.units < cLine) (F : Fr h₀ L s.heap m) (X₀ : K.In h₀) (I : PySem.W.InstAt s.heap x (PySem.W.instObj C dx) C od) (hm : mroIn K C (.type "object") = some true)
    (hN : findIn K (.ref C) "__ne__" = some (some (.builtin "object.__ne__"))) (hs : findIn K (.ref C) "__eq__" = some (some (.ref f))) (hf : isFn K (.ref f) = true) (hsub : subIn K (.ref C) (.type "int") = some false)
    (h : wpAny (model prog w) A.in1 (call (.ref f) [.ref x, .int n t]) (fun v s' => ∃ c, v = .bool c ∧ Q (.bool (!c)) s') E s) : wpAny (model prog w) A (richCompare .NotEq (.int n t) (.ref x)) Q E s := by
  have X := X₀.keeps F.keep
  have one := try_ne (Q := Q) hu X I hm hN hs hf h
  have ot : oneThing? .NotEq (.int n t) (.ref x) = none := rfl
  unfold richCompare
  simp only [ot]
  refine wpAny_holding (wpAny_bind (wpAny_cRoomFor hu0 ?_))
  refine wpAny_bind (wpAny_typeOf (typeIs_int s n t) (wpAny_bind (I.type.here ?_)))
  have hne : (Value.type "int" != Value.ref C) = true := by
    rw [bne_iff_ne]
    intro q
    cases q
  simp only [hne, if_true]
  refine wpAny_bind ((looks_subIn X hsub).here ?_)
  simp only [Bool.false_eq_true, if_false, Bool.not_false, if_true]
  refine wpAny_bind (wpAny_tryCompare_declines (typeIs_int s n t) PySem.F.slot_int_ne (call_meets PySem.F.slot_int_ne (typeIs_int s n t) PySem.F.entry_int_ne (PySem.F.args_int_ne_2 _ _) (int_ne_own n t x C dx) ⟨I.at_, ?_⟩))
  refine ⟨rfl, ?_⟩
  refine wpAny_bind (wpAny_mono one (fun r s' hr' => ?_) fun _ _ e => e)
  obtain ⟨v, rfl, hq⟩ := hr'
  exact wpAny_pure hq
end
end Bx

set_option Elab.async false
set_option linter.all false
set_option maxRecDepth 100000
set_option maxHeartbeats 4000000
namespace Bx
open PySem PySem.Spec PyProof.Rows L2 Fl
section
open PySem.W PySem.Calls
variable {prog : Program} {w : World} {A : Around} {E : Value → Shared → Prop} {s : Shared}
theorem bool_in (x : Value) : MeetsIn prog w (Builtin.«bool.__new__» ⟨[.type "bool", x], []⟩) (fun A R s => wpAny (model prog w) A.in1 (truthy x) (fun c s' => R (.ok (.ret (.bool c))) s') (fun e s' => R (.error e) s') s) :=
  .of_wp fun A R s h => by
    have f1 := F.conv_sub_bool
    obtain ⟨hp, g, d, tk, os⟩ := s
    repeat (any_goals (first | assumption | (with_reducible refine wpAny_mono h (fun c s' q => ?_) fun _ _ z => z) | wp_step))
    all_goals first | exact ⟨_, rfl, q⟩ | exact q | skip
theorem call_bool_own {x : Value} {Q : Value → Shared → Prop} (h : wpAny (model prog w) A.in1.in1 (truthy x) (fun c s' => Q (.bool c) s') E s) : wpAny (model prog w) A (call (.type "bool") [x]) Q E s :=
  callType_newIn F.called_bool F.newNe_bool (F.typeCall_bool_1 x) (F.newCall_bool_1 x) (fun obj => F.args_object_init_2 obj x) F.entry_bool_new (bool_in x) (wpAny_mono h (fun c s' q => ⟨rfl, q⟩) fun _ _ z => z)
end
end Bx
namespace Bx
open PySem PySem.Spec PyProof.Rows L2 Fl
section
variable {X : Cx} {k : Nat} {C : Addr} {ps : List Str} {sp : Sp}
/-- a def of one's own run one frame in -/
theorem run_in1 {pins : List (Addr × Obj)} {s : Shared} {σ : L2.St} {H : Hp} {f : Addr} {fd : FuncData} {us : List Value} {vs : List V} {Q : VK} (F : FnOk X.prog X.w X.K X.mg X.base CX0 k f fd ps sp) (bd : Binds X.K fd ps []) (hr : Room (k + 1) X.A) (I : Inv X pins σ H s) (r : Vals vs us) (q : sp vs H Q E0) :
    wpAny (model X.prog X.w) X.A.in1 (call (.ref f) us) (EP X pins σ Q) X.xe s := by
  have hl := F.len _ _ _ _ q
  have bb := bd s us I.kIn (by rw [List.append_nil]; rw [← r.length]; exact hl)
  rw [List.append_nil] at bb
  refine wpAny_call (codeAny_mono (F.run X.A.in1 X.stack s H ⟨us, []⟩ us vs Q E0 hr.in1 I.env0.in1 bb r q) fun r s' hq => ?_)
  cases r with
  | error e => exact pass0 pins σ H s e s' I hq
  | ok fl =>
    cases fl with
    | ret z => exact I.after hq
    | next => exact False.elim hq
    | brk => exact False.elim hq
    | cont => exact False.elim hq
theorem run_in2 {pins : List (Addr × Obj)} {s : Shared} {σ : L2.St} {H : Hp} {f : Addr} {fd : FuncData} {us : List Value} {vs : List V} {Q : VK} (F : FnOk X.prog X.w X.K X.mg X.base CX0 k f fd ps sp) (bd : Binds X.K fd ps []) (hr : Room (k + 2) X.A) (I : Inv X pins σ H s) (r : Vals vs us) (q : sp vs H Q E0) :
    wpAny (model X.prog X.w) X.A.in1.in1 (call (.ref f) us) (EP X pins σ Q) X.xe s := by
  have hl := F.len _ _ _ _ q
  have bb := bd s us I.kIn (by rw [List.append_nil]; rw [← r.length]; exact hl)
  rw [List.append_nil] at bb
  refine wpAny_call (codeAny_mono (F.run X.A.in1.in1 X.stack s H ⟨us, []⟩ us vs Q E0 hr.in1.in1 I.env0.in1.in1 bb r q) fun r s' hq => ?_)
  cases r with
  | error e => exact pass0 pins σ H s e s' I hq
  | ok fl =>
    cases fl with
    | ret z => exact I.after hq
    | next => exact False.elim hq
    | brk => exact False.elim hq
    | cont => exact False.elim hq
def oN (Q : VK) : VK := fun v H2 => ∃ c, v = .bl c ∧ Q (.bl (!c)) H2
theorem backN {pins : List (Addr × Obj)} {σ : L2.St} {Q : VK} {r : Value} {s' : Shared} (h : EP X pins σ (oN Q) r s') : ∃ c, r = .bool c ∧ EP X pins σ Q (.bool (!c)) s' := by
  obtain ⟨z, H2, I2, rz, c, rfl, q2⟩ := h
  cases rz
  exact ⟨c, rfl, V.bl (!c), H2, I2, rfl, q2⟩
structure NeC (K : PySem.W.Frag) (C : Addr) : Prop where
  hm : PySem.W.mroIn K C (.type "object") = some true
  hN : PySem.W.findIn K (.ref C) "__ne__" = some (some (.builtin "object.__ne__"))
  si : PySem.W.subIn K (.type "int") (.ref C) = some false
  sc : PySem.W.subIn K (.ref C) (.type "int") = some false
def nOX (C : Addr) (sp : Sp) : R2 := fun x y H Q => ∃ (a dx : Addr) (gs : List (Str × V)), x = .ref a ∧ H a = some (.ins C dx gs) ∧ ((∃ n : Int, y = .int n) ∨ ∃ (b dy : Addr) (hs : List (Str × V)), y = .ref b ∧ H b = some (.ins C dy hs)) ∧ sp [.ref a, y] H (oN Q) E0
def nIO (C : Addr) (sp : Sp) : R2 := fun x y H Q => ∃ (a dx : Addr) (gs : List (Str × V)) (n : Int), y = .ref a ∧ H a = some (.ins C dx gs) ∧ x = .int n ∧ sp [.ref a, .int n] H (oN Q) E0
theorem op_ne_ox (N : NeC X.K C) (M : OpOwn X.prog X.w X.K X.mg X.base k C "__eq__" ps sp) (hr : Room (k + 1) X.A) : OpR X (compareOp .NotEq) (nOX C sp) := by
  obtain ⟨f, fd, hs, hf, F, b⟩ := M.ex
  intro pins s σ H x y v u Q I rx ry h
  obtain ⟨a, dx, gs, rfl, ea, hy, q⟩ := h
  cases rx
  obtain ⟨mA, J, _⟩ := ins_get I.hok ea
  obtain ⟨od, J, _⟩ := J.look
  obtain ⟨m, hF⟩ := I.fr
  have run := run_in1 F b hr I (.cons (show RelV (.ref a) (.ref a) from rfl) (.cons ry .nil)) q
  have fin := wpAny_mono run (fun r s' z => backN z) fun _ _ z => z
  rcases hy with ⟨n, rfl⟩ | ⟨b', dy, gs', rfl, eb⟩
  · obtain ⟨t, rfl⟩ := ry
    exact ne_K (tb := .type "int") hr.in1.units0 hr.units0 hF I.ok.mod.kin J (PySem.W.Looks.of_pure rfl) (by unfold PySem.W.notFirst; rw [N.si]; simp) N.hm N.hN hs hf fin
  · cases ry
    obtain ⟨mB, J', _⟩ := ins_get I.hok eb
    obtain ⟨od', J', _⟩ := J'.look
    exact ne_K hr.in1.units0 hr.units0 hF I.ok.mod.kin J J'.type (by unfold PySem.W.notFirst; simp) N.hm N.hN hs hf fin
theorem op_ne_io (N : NeC X.K C) (M : OpOwn X.prog X.w X.K X.mg X.base k C "__eq__" ps sp) (hr : Room (k + 1) X.A) : OpR X (compareOp .NotEq) (nIO C sp) := by
  obtain ⟨f, fd, hs, hf, F, b⟩ := M.ex
  intro pins s σ H x y v u Q I rx ry h
  obtain ⟨a, dx, gs, n, rfl, ea, rfl, q⟩ := h
  cases ry
  obtain ⟨t, rfl⟩ := rx
  obtain ⟨mA, J, _⟩ := ins_get I.hok ea
  obtain ⟨od, J, _⟩ := J.look
  obtain ⟨m, hF⟩ := I.fr
  have run := run_in1 F b hr I (.cons (show RelV (.ref a) (.ref a) from rfl) (.cons (show RelV (.int n) (.int n t) from ⟨_, rfl⟩) .nil)) q
  exact ne_refl hr.in1.units0 hr.units0 hF I.ok.mod.kin J N.hm N.hN hs hf N.sc (wpAny_mono run (fun r s' z => backN z) fun _ _ z => z)
/-- own == y, y of a built-in type -/
def cOX (K : PySem.W.Frag) (C : Addr) (sp : Sp) : R2 := fun x y H Q => ∃ (a dx : Addr) (gs : List (Str × V)) (T : String), x = .ref a ∧ H a = some (.ins C dx gs) ∧ TyX K H y (.type T) ∧ PySem.W.subIn K (.type T) (.ref C) = some false ∧ sp [.ref a, y] H (oB Q) E0
theorem cmp_ox (M : OpOwn X.prog X.w X.K X.mg X.base k C "__eq__" ps sp) (hr : Room (k + 1) X.A) : OpR X (compareOp .Eq) (cOX X.K C sp) := by
  obtain ⟨f, fd, hs, hf, F, b⟩ := M.ex
  intro pins s σ H x y v u Q I rx ry h
  obtain ⟨a, dx, gs, T, rfl, ea, ty, hsub, q⟩ := h
  cases rx
  obtain ⟨mA, J, _⟩ := ins_get I.hok ea
  obtain ⟨od, J, _⟩ := J.look
  obtain ⟨m, hF⟩ := I.fr
  obtain ⟨P, kx, hp, _⟩ := kit_of I ry ty
  refine PySem.W.cmp_K (op := .Eq) hr.units0 hF I.ok.mod.kin J (kx.ty _ _ I.kIn hp) (by unfold PySem.W.notFirst; rw [hsub]; simp) hs hf ?_
  exact wpAny_mono (run_fn F (hr.mono (Nat.le_succ _)) b (dvs := []) .nil pass0 I (.cons (show RelV (.ref a) (.ref a) from rfl) (.cons ry .nil)) q) (fun r s' hr => backB hr) fun _ _ z => z
def rBoolO (C : Addr) (sp : Sp) : List V → Hp → VK → Prop := fun xs H Q => ∃ (a dx : Addr) (gs : List (Str × V)), xs = [.ref a] ∧ H a = some (.ins C dx gs) ∧ sp [.ref a] H (oB Q) E0
theorem call_boolO (M : OpOwn X.prog X.w X.K X.mg X.base k C "__bool__" ps sp) (hr : Room (k + 2) X.A) : CallR X (.type "bool") (rBoolO C sp) := by
  obtain ⟨f, fd, hs, hf, F, b⟩ := M.ex
  intro pins s σ H xs us Q I r h
  obtain ⟨a, dx, gs, rfl, ea, q⟩ := h
  obtain ⟨u, rfl, rx⟩ := vals1 r
  cases rx
  obtain ⟨mA, J, _⟩ := ins_get I.hok ea
  obtain ⟨od, J, _⟩ := J.look
  obtain ⟨m, hF⟩ := I.fr
  refine call_bool_own (PySem.W.truthy_K hF I.ok.mod.kin J hs hf (wpAny_mono (run_in2 F b hr I r q) (fun v s' hv => ?_) fun _ _ z => z))
  obtain ⟨z, H2, I2, rz, c, rfl, q2⟩ := hv
  cases rz
  exact ⟨V.bl c, H2, I2, rfl, q2⟩
def oS (Q : VK) : VK := fun v H2 => ∃ z, v = .str z ∧ Q (.str z) H2
def rStrO (C : Addr) (sp : Sp) : List V → Hp → VK → Prop := fun xs H Q => ∃ (a dx : Addr) (gs : List (Str × V)), xs = [.ref a] ∧ H a = some (.ins C dx gs) ∧ sp [.ref a] H (oS Q) E0
theorem call_strO (M : OpOwn X.prog X.w X.K X.mg X.base k C "__str__" ps sp) (hr : Room (k + 2) X.A) : CallR X (.type "str") (rStrO C sp) := by
  obtain ⟨f, fd, hs, hf, F, b⟩ := M.ex
  intro pins s σ H xs us Q I r h
  obtain ⟨a, dx, gs, rfl, ea, q⟩ := h
  obtain ⟨u, rfl, rx⟩ := vals1 r
  cases rx
  obtain ⟨mA, J, _⟩ := ins_get I.hok ea
  obtain ⟨od, J, _⟩ := J.look
  refine PySem.W.kso_call hr.in1.in1.units0 I.kIn J hs hf (wpAny_mono (run_in2 F b hr I r q) (fun v s' hv => ?_) fun _ _ z => z)
  obtain ⟨z, H2, I2, rz, c, rfl, q2⟩ := hv
  obtain ⟨t, rfl⟩ := rz
  exact ⟨V.str c, H2, I2, ⟨t, rfl⟩, q2⟩
def CPowW (i j : Int) : Prop := 0 ≤ j ∧ (Builtin.Int.intBits i : Int) * j ≤ 2 ^ 27
theorem op_powW : OpR X (binaryOp .Pow) (rI CPowW fun i j => .int (i ^ j.toNat)) := opI fun _ _ _ _ _ _ _ hc q => PyProof.Rows.pow_int hc.1 hc.2 q
end
end Bx

set_option Elab.async false
set_option linter.all false
set_option maxRecDepth 100000
set_option maxHeartbeats 4000000
namespace Fl
open PySem PySem.Spec PyProof.Rows L2
/-! ### a heap without one place -/
def wo (H : Hp) (d : Addr) : Hp := fun a => if a = d then none else H a
theorem wo_sub (H : Hp) (d : Addr) : Same (wo H d) H := fun a o h => by
  unfold wo at h
  split at h
  · cases h
  · exact h
theorem wo_same {H H' : Hp} (d : Addr) (s : Same H H') : Same (wo H d) (wo H' d) := fun a o h => by
  unfold wo at *
  split at h
  · cases h
  · rename_i n
    rw [if_neg n]
    exact s a o h
theorem wo_keep {H H' : Hp} {d : Addr} (s : Keeps H H' d) : Same (wo H d) (wo H' d) := fun a o h => by
  unfold wo at *
  split at h
  · cases h
  · rename_i n
    rw [if_neg n]
    exact s a o h n
theorem wo_upd {H : Hp} {d : Addr} {o : HO} : Same (wo H d) (wo (upd H d o) d) := fun a u h => by
  unfold wo at *
  split at h
  · cases h
  · rename_i n
    rw [if_neg n, upd_ne n]
    exact h
theorem wo_of {H : Hp} {d : Addr} (h : H d = none) : Same H (wo H d) := fun a o e => by
  unfold wo
  rw [if_neg (ne_of_none e h)]
  exact e
theorem wo_at {H : Hp} {d a : Addr} {o : HO} (h : H a = some o) (n : a ≠ d) : wo H d a = some o := by
  unfold wo
  rw [if_neg n]
  exact h
theorem same_late {H0 H : Hp} {D : Addr} {o : HO} (s : Same H0 H) (h : H0 D = none) : Same H0 (upd H D o) := fun b u e => by
  rw [upd_ne (ne_of_none e h)]
  exact s b u e
/-! ### lists whose items are told one by one -/
def LAt {α : Type} (R : Hp → V → α → Prop) (H : Hp) (a : Addr) (xs : List α) : Prop := ∃ vs : List V, H a = some (.lst vs) ∧ vs.length = xs.length ∧ ∀ (i : Nat) (x : α), xs[i]? = some x → ∃ v, vs[i]? = some v ∧ R H v x
def Mono {α : Type} (R : Hp → V → α → Prop) : Prop := ∀ (H H' : Hp) (v : V) (x : α), Same H H' → R H v x → R H' v x
theorem LAt.same {α : Type} {R : Hp → V → α → Prop} (m : Mono R) {H H' : Hp} {a : Addr} {xs : List α} (h : LAt R H a xs) (k : Same H H') : LAt R H' a xs := by
  obtain ⟨vs, h1, h2, h3⟩ := h
  refine ⟨vs, k _ _ h1, h2, fun i x hx => ?_⟩
  obtain ⟨v, hv, r⟩ := h3 i x hx
  exact ⟨v, hv, m _ _ _ _ k r⟩
theorem LAt.imp {α β : Type} {R : Hp → V → α → Prop} {S : Hp → V → β → Prop} {f : α → β} {H : Hp} {a : Addr} {xs : List α} (h : LAt R H a xs) (k : ∀ v x, R H v x → S H v (f x)) : LAt S H a (xs.map f) := by
  obtain ⟨vs, h1, h2, h3⟩ := h
  refine ⟨vs, h1, by rw [List.length_map]; exact h2, fun i y hy => ?_⟩
  rw [List.getElem?_map] at hy
  cases hx : xs[i]? with
  | none => rw [hx] at hy; cases hy
  | some x =>
    rw [hx] at hy
    cases hy
    obtain ⟨v, hv, r⟩ := h3 i x hx
    exact ⟨v, hv, k v x r⟩
theorem LAt.map {α : Type} {R : Hp → V → α → Prop} {H : Hp} {a : Addr} {xs : List α} {f : α → V} (h : LAt R H a xs) (k : ∀ v x, R H v x → v = f x) : H a = some (.lst (xs.map f)) := by
  obtain ⟨vs, h1, h2, h3⟩ := h
  rw [h1]
  congr 2
  refine List.ext_getElem? fun i => ?_
  rw [List.getElem?_map]
  cases hx : xs[i]? with
  | none =>
    rw [List.getElem?_eq_none_iff] at hx
    exact List.getElem?_eq_none (by omega)
  | some x =>
    obtain ⟨v, hv, r⟩ := h3 i x hx
    rw [hv, k v x r]
    rfl
theorem item {vs : List V} {α : Type} {xs : List α} {i : Nat} {v : V} (hl : vs.length = xs.length) (hv : vs[i]? = some v) : ∃ x, xs[i]? = some x := by
  have h : i < vs.length := (List.getElem?_eq_some_iff.mp hv).1
  exact ⟨_, List.getElem?_eq_getElem (by omega)⟩
/-- a comprehension over a list, one new item for each -/
theorem lc_build {K : PySem.W.Frag} {a : Addr} {xs : List V} {g : TG} {tt : TT} {te : TE} {vs : List Nat} {σ : L2.St} {Hc : Hp} {D : Addr} {Qd : Hp → Prop} {β : Type} (S : Hp → V → β → Prop) (ys : List β) (mono : Mono S)
    (hD : Hc D = none) (hlen : xs.length = ys.length) (hl : SqL K Hc a xs) (small : ys.length ≤ 1000)
    (hs : ∀ (i : Nat) (x : V) (y : β) (H : Hp) (Kc : VK) (Ke : Hp → Prop), xs[i]? = some x → ys[i]? = some y → Same Hc H → (∃ acc, H D = some (.lst acc)) → (∀ v H4, Same H H4 → S (wo H4 D) v y → Kc v H4) →
      g x (wipe σ vs) H fun σ2 H2 => wipe σ2 vs = wipe σ vs ∧ tt σ2 H2 fun b H3 => if b = true then te σ2 H3 Kc else Ke H3)
    (hd : ∀ H', Same Hc H' → LAt S H' D ys → Qd H') :
    ∃ W : Nat → Nat → Hp → Prop, (∃ m, W 0 m (upd Hc D (.lst []))) ∧ ∀ i m H, W i m H →
      ((Itl K a).stop i H ∧ Qd H) ∨ ((Itl K a).go i H ∧ ∃ Nx : Hp → Prop, (∀ H', Nx H' → ∃ m', m' < m ∧ W (i + 1) m' H') ∧ ∀ x H', (Itl K a).yld i H x H' → g x (wipe σ vs) H' fun σ2 H2 => wipe σ2 vs = wipe σ vs ∧ tt σ2 H2 fun b H3 =>
        if b = true then te σ2 H3 fun y H4 => ∃ acc, H4 D = some (.lst acc) ∧ acc.length < sizeLine ∧ Nx (upd H4 D (.lst (acc ++ [y]))) else Nx H3) := by
  refine lc_list (xs := xs) (fun i H' => Same Hc H' ∧ ∃ acc : List V, H' D = some (.lst acc) ∧ acc.length = i ∧ ∀ (j : Nat) (y : β), j < i → ys[j]? = some y → ∃ v, acc[j]? = some v ∧ S (wo H' D) v y)
    ⟨same_upd hD, [], upd_same, rfl, fun j y hj => absurd hj (by omega)⟩ (fun i H' _ h => h.1.seq hl) ?_ ?_
  · rintro i x H hx ⟨s, acc, hacc, hlen2, hall⟩
    have hi : i < xs.length := (List.getElem?_eq_some_iff.mp hx).1
    have hy : ys[i]? = some ys[i] := List.getElem?_eq_getElem (by omega)
    refine hs i x ys[i] H _ _ hx hy s ⟨acc, hacc⟩ fun v H4 s4 hS => ?_
    have hacc4 := s4 _ _ hacc
    refine ⟨acc, hacc4, by rw [hlen2]; exact small1000 (by omega), same_late (s.trans s4) hD, acc ++ [v], upd_same, by rw [List.length_append, hlen2]; rfl, fun j y hj hyj => ?_⟩
    by_cases hji : j < i
    · obtain ⟨u, hu, hSu⟩ := hall j y hji hyj
      refine ⟨u, by rw [List.getElem?_append_left (by omega)]; exact hu, ?_⟩
      exact mono _ _ _ _ ((wo_same D s4).trans wo_upd) hSu
    · have e : j = i := by omega
      subst e
      rw [hy] at hyj
      cases hyj
      refine ⟨v, by rw [List.getElem?_append_right (by omega), hlen2, Nat.sub_self]; rfl, mono _ _ _ _ wo_upd hS⟩
  · rintro H' ⟨s, acc, hacc, hlen2, hall⟩
    refine hd H' s ⟨acc, hacc, by omega, fun j y hy => ?_⟩
    have hj : j < ys.length := (List.getElem?_eq_some_iff.mp hy).1
    obtain ⟨v, hv, hS⟩ := hall j y (by omega) hy
    exact ⟨v, hv, mono _ _ _ _ (wo_sub H' D) hS⟩
end Fl

set_option Elab.async false
set_option linter.all false
set_option maxRecDepth 100000
set_option maxHeartbeats 4000000
namespace L2
open PySem PySem.Spec PyProof.Rows
/-- a def's promise that is told the size of the heap at its entry -/
structure FnOkN (P : Program) (w : World) (K : PySem.W.Frag) (mg : Str → Option Value) (base : Heap) (CX : CXT) (k : Nat) (f : Addr) (fd : FuncData) (ps : List Str) (sp : Nat → Sp) : Prop where
  len : ∀ n vs H Q E, sp n vs H Q E → vs.length = ps.length
  run : ∀ (A : Around) (outer : List Env) (s : Shared) (H : Hp) (args : Args) (us : List Value) (vs : List V) (Q : VK) (E : XK), Room k A → Env0 P w K mg base A outer s H → BindsTo s fd args (ps.zip us) → Vals vs us → sp s.heap.objs.size vs H Q E →
    codeAny (model P w) A (.call (.ref f) args) (CR CX outer P w H s Q E) s
/-- a def that is told of one state alone -/
theorem fn_at {CX : CXT} {P : Program} {w : World} {K : PySem.W.Frag} {mg : Str → Option Value} {base : Heap} {k : Nat} {f : Addr} {x qual : Str} {st : Stmt} {fd : FuncData} {N ps : List Str} {sp : Nat → Sp}
    (F : Fun K x qual st f fd) (S : FnScope N ps (defScope st)) (len : ∀ n vs H Q E, sp n vs H Q E → vs.length = ps.length)
    (hbody : ∀ (cdv : Value) (A : Around) (outer : List Env) (s : Shared) (H : Hp) (vs : List V) (Q : VK) (E : XK), Room k (A.deeper (envOfC qual (defScope st) s.heap.objs.size f cdv)) → sp s.heap.objs.size vs H Q E →
      ∃ t, PSs (cxOf CX P w K mg base N qual (defScope st) f cdv A outer s H E) (defBody st) t ∧ t { nx := fun _ H' => Q .non H', rt := Q } (start N vs) H) : FnOkN P w K mg base CX (k + 1) f fd ps sp := by
  obtain ⟨oc, od, kV, doc, pm, an, cdv, ct, osl, rfl, lk, hcd⟩ := F.ex
  refine ⟨len, fun A outer s H args us vs Q E hr e0 hb r hsp => ?_⟩
  have hl := len _ _ _ _ _ hsp
  have KX : K.In s.heap := e0.mod.kin.keeps fun b o e => (e0.bs b o e).1
  have lim : s.heap.NoLimit := e0.mod.nolimit.keeps fun b o e => (e0.bs b o e).1
  have hkind : ∀ y ∈ ps.zip us, (defScope st).names.lookup y.1 = some .local ∨ ((defScope st).names.lookup y.1 = some .cell ∧ ((cellsFrom (s.heap.objs.size + 1) (defScope st).names []).lookup y.1).isSome = true) := fun ⟨n, v⟩ hy => by
    rcases S.par n (List.of_mem_zip hy).1 with q | q
    · exact .inl q
    · exact .inr ⟨q, PySem.W.cellsFrom_some _ _ _ (.inl q)⟩
  refine codeAny_call_function hr.depth (KX _ _ lk) rfl S.co S.gen rfl (PySem.W.codeRec_of KX hcd) (hb _ _ _ _ ?_)
  refine wpAny_newFunctionEnv_cells S.kind hkind fun env he s1 x => ?_
  subst he
  refine ⟨lim.keeps x.toInCall.keep, codeAny_func ?_⟩
  obtain ⟨t, ht, hq⟩ := hbody cdv A outer s H vs Q E (hr.deeper _) hsp
  have I : Inv (cxOf CX P w K mg base N qual (defScope st) f cdv A outer s H E) [] (start N vs) H s1 := inv_start S hr.hd e0 hl r x
  refine wpAny_mono (ht.run [] s1 (start N vs) H _ I hq) (fun fl s' hs => ?_) fun e s' hs => hs
  have fin : ∀ {σ' : L2.St} {H' : Hp} {v : V} {u : Value}, Inv (cxOf CX P w K mg base N qual (defScope st) f cdv A outer s H E) [] σ' H' s' → RelV v u → Q v H' → CE outer P w H s Q u s' :=
    fun {σ' H' v u} J rv q => ⟨v, H', J.os, J.bare, J.base, J.hok, rv, q⟩
  cases fl with
  | ret u =>
    obtain ⟨v, σ', H', J, rv, q⟩ := hs
    exact fin J rv q
  | next =>
    obtain ⟨σ', H', J, q⟩ := hs
    exact fin (v := V.non) (u := Value.none) J rfl q
  | brk =>
    obtain ⟨_, _, _, q⟩ := hs
    exact False.elim q
  | cont =>
    obtain ⟨_, _, _, q⟩ := hs
    exact False.elim q

/-! ### for over an own instance whose __iter__ answers the iterator of one of its lists -/
/-- __iter__ answers iter of the list in the field x -/
def spIterF (C : Addr) (x : Str) : Nat → Sp := fun n vs H Q _ => ∃ (a dx : Addr) (fs : List (Str × V)) (L : Addr) (zs : List V), vs = [.ref a] ∧ H a = some (.ins C dx fs) ∧ fs.lookup x = some (.ref L) ∧ H L = some (.lst zs) ∧
  ∀ it, H it = none → n ≤ it → Q (.ref it) (upd H it (ItO L it 0))
structure OwnIt (P : Program) (w : World) (K : PySem.W.Frag) (mg : Str → Option Value) (base : Heap) (k : Nat) (C : Addr) (x : Str) : Prop where
  ex : ∃ (f : Addr) (fd : FuncData), PySem.W.findIn K (.ref C) "__iter__" = some (some (.ref f)) ∧ PySem.W.isFn K (.ref f) = true ∧ FnOkN P w K mg base CX0 k f fd ["self"] (spIterF C x) ∧ Binds K fd ["self"] []
def iOwn (C : Addr) (x : Str) (K : PySem.W.Frag) (te : TE) : TI := fun σ H R => te σ H fun v H1 => ∃ (a dx : Addr) (fs : List (Str × V)) (L : Addr) (zs : List V), v = .ref a ∧ H1 a = some (.ins C dx fs) ∧ fs.lookup x = some (.ref L) ∧ H1 L = some (.lst zs) ∧ R (Itl K L) H1
theorem upd_drop {H : Hp} {a : Addr} {o : HO} (h : H a = none) : ItX.dropH (upd H a o) a = H := ItX.dropH_upd h
theorem pi_own {X : Cx} {k : Nat} {C : Addr} {x : Str} {tg e : Expr} {te : TE} (M : OwnIt X.prog X.w X.K X.mg X.base k C x) (hr : Room k X.A) (he : PE X e te) : PI X tg e (iOwn C x X.K te) := by
  obtain ⟨f, fd, hs, hf, F, b⟩ := M.ex
  refine ⟨fun pins s σ H R I h => ?_⟩
  refine thn (he.run pins s σ H _ I h) fun v s1 ⟨y, H1, I1, r1, a, dx, fs, L, zs, ey, ea, el, eL, q⟩ => ?_
  subst ey
  cases r1
  obtain ⟨mA, J, _⟩ := ins_get I1.hok ea
  obtain ⟨od, J, _⟩ := J.look
  obtain ⟨m, hF⟩ := I1.fr
  refine PySem.W.owit_iter hF I1.ok.mod.kin J hs hf ?_
  have hsp : spIterF C x s1.heap.objs.size [V.ref a] H1 (fun v H' => ∃ it, v = .ref it ∧ H1 it = none ∧ s1.heap.objs.size ≤ it ∧ H' = upd H1 it (ItO L it 0)) E0 := ⟨a, dx, fs, L, zs, rfl, ea, el, eL, fun it h1 h2 => ⟨it, rfl, h1, h2, rfl⟩⟩
  have hl := F.len _ _ _ _ _ hsp
  have bb := b s1 [.ref a] I1.kIn (by simpa using hl)
  rw [List.append_nil] at bb
  have r2 : Vals [V.ref a] [Value.ref a] := .cons (show RelV (.ref a) (.ref a) from rfl) .nil
  refine wpAny_call (codeAny_mono (F.run X.A X.stack s1 H1 ⟨[.ref a], []⟩ [.ref a] [.ref a] _ E0 hr I1.env0 bb r2 hsp) fun r s' hq => ?_)
  cases r with
  | error e => exact pass0 pins σ H1 s1 e s' I1 hq
  | ok fl =>
    cases fl with
    | next => exact False.elim hq
    | brk => exact False.elim hq
    | cont => exact False.elim hq
    | ret u =>
      obtain ⟨v, H', I2, rv, it, rfl, hn, hsz, rfl⟩ := I1.after hq
      cases rv
      have eo := itO_get I2 (show upd H1 it (ItO L it 0) it = some (ItO L it 0) from upd_same)
      have hT : s'.TypeIs (.ref it) "list_iterator" := ⟨_, eo, rfl⟩
      have hi' : upd H1 it (ItO L it 0) it = some (ItO L it 0) := upd_same
      unfold ItO at hi'
      have I3 := ItX.inv_drop I2 hi'
      have e3 : ItX.dropH (upd H1 it (ItO L it 0)) it = H1 := ItX.dropH_upd hn
      have fp : FpOk X pins H1 it := by
        have z := ItX.inv_fp I2 (show upd H1 it (ItO L it 0) it = some (ItO L it 0) from upd_same) (Nat.le_trans I1.sz hsz)
        rw [e3] at z
        exact z
      rw [e3] at I3
      unfold PySem.W.OwitIt
      refine wpAny_specialOf (name := Str.ofString "__next__") hT slot_listiter_next.lookup ?_
      refine ⟨it, [it], _, _, H1, rfl, I3, turn_list L it, ⟨_, eo, rfl, rfl⟩, fun b hb => ?_, q⟩
      have e : b = it := by simpa using hb
      rw [e]
      exact fp
end L2

set_option Elab.async false
set_option linter.all false
set_option maxRecDepth 100000
set_option maxHeartbeats 4000000
namespace L2
open PySem PySem.Spec PyProof.Rows
/-! ### a field as a target inside a tuple: a.x, a.y = t -/
def gFld (K : PySem.W.Frag) (ta : TE) (f : Str) : TG := fun v σ H Q => ta σ H fun x H1 => ∃ a C dx fs, x = .ref a ∧ H1 a = some (.ins C dx fs) ∧ Cls K C ∧ NoAttr K C f ∧ fs.length < 1000 ∧ Q σ (upd H1 a (.ins C dx (putF f v fs)))
theorem pg_fld {X : Cx} {o : Expr} {f : Str} {ta : TE} {pos : Pos} (ho : PE X o ta) : PG X (.Attribute o f pos) (gFld X.K ta f) := by
  refine ⟨fun pins s σ H v u Q I r h => ?_⟩
  rw [show assign (.Attribute o f pos) X.env u = (do
      let ov ← holding [u] (eval o X.env)
      standAt pos.atName
      holding [u, ov] (setAttr ov f u)
      release [u, ov] []) from rfl]
  refine wpAny_bind (wpAny_holding (thn (ho.run pins s σ H _ I h) fun ov s1 ⟨x, H1, I1, rx, a, C, dx, fs, ex, ea, c, n, l, q⟩ => ?_))
  subst ex
  obtain rfl : ov = Value.ref a := rx
  refine wpAny_bind (wpAny_standAt (wpAny_bind (wpAny_holding (setattr_ok I1 ea c n l r fun s3 I3 => ?_))))
  exact wpAny_release ⟨σ, _, I3, q⟩
end L2

set_option Elab.async false
set_option linter.all false
set_option maxRecDepth 100000
set_option maxHeartbeats 4000000
/-! math.lcm of two and of three numbers of up to 2^6000 -/
namespace PySem.W
open PySem PySem.Spec PyProof.Rows
theorem La.log {n : Nat} (h : n < 2 ^ 13000) : ¬ (n.log2 / 30 + 1 > 450) := by
  have := mg_log (k := 12999) h
  omega
theorem La.max1 {n : Nat} {k : Nat} (h : n < 2 ^ k) : max 1 n < 2 ^ (k + 1) := by
  have := Nat.two_pow_pos k
  rw [Nat.pow_succ]
  omega
theorem La.le {m n a b : Nat} (h1 : m < 2 ^ a) (h2 : n < 2 ^ b) : m.lcm n < 2 ^ (a + b) := by
  rw [Nat.pow_add]
  exact Nat.lt_of_le_of_lt (mc_lcm_le m n) (Nat.mul_lt_mul'' h1 h2)
theorem La.args3 (a b c : Value) : argsOk "math.lcm" ⟨[a, b, c], []⟩ := by unfold argsOk; kernel_rfl
theorem La.run3 (a : Int) (t : Tok) (b : Int) (u : Tok) (c : Int) (v : Tok) (hc0 : ¬(max 1 a.natAbs).log2 / 30 + 1 > 450) (hc1 : ¬(max ((Nat.lcm 1 a.natAbs)) b.natAbs).log2 / 30 + 1 > 450) (hc2 : ¬(max (((Nat.lcm 1 a.natAbs).lcm b.natAbs)) c.natAbs).log2 / 30 + 1 > 450) (hc3 : ¬(max a.natAbs b.natAbs).log2 / 30 + 1 > 450) (hc4 : ¬(max (a.natAbs.lcm b.natAbs) c.natAbs).log2 / 30 + 1 > 450)
    (hsz : (((((Nat.lcm 1 a.natAbs).lcm b.natAbs).lcm c.natAbs : Nat) : Int)).natAbs.log2 < bitsLine) :
    Gives (Builtin.«math.lcm» ⟨[.int a t, .int b u, .int c v], []⟩) (.int (((((Nat.lcm 1 a.natAbs).lcm b.natAbs).lcm c.natAbs : Nat) : Int))) :=
  .of_wp fun M A E s Q h => by obtain ⟨hp, g, d, tk, os⟩ := s; wp_walk; (try (refine wpAny_ite_false (decide_eq_false (Nat.not_le.mpr hsz)) ?_; wp_walk)); exact ⟨_, rfl, h⟩
section
variable {prog : Program} {w : World} {A : Around} {E : Value → Shared → Prop} {s : Shared} {Q : Value → Shared → Prop} {a b c : Int} {t u v : Tok}
theorem La.lcm2 (ha : a.natAbs < 2 ^ 6000) (hb : b.natAbs < 2 ^ 6000) (h : Q (.int ((a.natAbs.lcm b.natAbs : Nat) : Int) s.toks) { s with toks := s.toks + 1 }) :
    wpAny (model prog w) A (call (.builtin "math.lcm") [.int a t, .int b u]) Q E s := by
  have g := mg_run_lcm a t b u (La.log (Nat.lt_of_lt_of_le (La.max1 ha) (Nat.pow_le_pow_right (by decide) (by decide)))) (La.log (by rw [Nat.max_def]; split <;> exact Nat.lt_of_lt_of_le (by assumption) (Nat.pow_le_pow_right (by decide) (by decide)))) (by
    rw [mc_lcm_one]
    have l := La.le ha hb
    show (a.natAbs.lcm b.natAbs).log2 < bitsLine
    exact Nat.lt_of_le_of_lt (mg_log (k := 11999) l) (by decide))
  rw [mc_lcm_one] at g
  exact call_function_meets MGF.kind_lcm MGF.plain_lcm MGF.entry_lcm (MGF.args_lcm _ _) g.meets h
theorem La.lcm3 (ha : a.natAbs < 2 ^ 6000) (hb : b.natAbs < 2 ^ 6000) (hc : c.natAbs < 2 ^ 6000) (h : Q (.int (((a.natAbs.lcm b.natAbs).lcm c.natAbs : Nat) : Int) s.toks) { s with toks := s.toks + 1 }) :
    wpAny (model prog w) A (call (.builtin "math.lcm") [.int a t, .int b u, .int c v]) Q E s := by
  have up : ∀ {n k : Nat}, n < 2 ^ k → k ≤ 13000 → n < 2 ^ 13000 := fun h l => Nat.lt_of_lt_of_le h (Nat.pow_le_pow_right (by decide) l)
  have mx : ∀ {m n : Nat}, m < 2 ^ 13000 → n < 2 ^ 13000 → max m n < 2 ^ 13000 := fun h1 h2 => by rw [Nat.max_def]; split <;> assumption
  have l2 := La.le ha hb
  have g := La.run3 a t b u c v (La.log (up (La.max1 ha) (by decide))) (La.log (by rw [mc_lcm_one]; exact mx (up ha (by decide)) (up hb (by decide)))) (La.log (by rw [mc_lcm_one]; exact mx (up l2 (by decide)) (up hc (by decide)))) (La.log (mx (up ha (by decide)) (up hb (by decide)))) (La.log (mx (up l2 (by decide)) (up hc (by decide)))) (by
    rw [mc_lcm_one]
    have l := La.le l2 hc
    show ((a.natAbs.lcm b.natAbs).lcm c.natAbs).log2 < bitsLine
    exact Nat.lt_of_le_of_lt (mg_log (k := 17999) l) (by decide))
  rw [mc_lcm_one] at g
  exact call_function_meets MGF.kind_lcm MGF.plain_lcm MGF.entry_lcm (La.args3 _ _ _) g.meets h
end
end PySem.W
namespace L2
open PySem PySem.Spec PyProof.Rows
variable {X : Cx}
def rLcm : List V → Hp → VK → Prop := fun vs H Q => ∃ a b : Int, vs = [.int a, .int b] ∧ a.natAbs < 2 ^ 6000 ∧ b.natAbs < 2 ^ 6000 ∧ Q (.int ((Nat.lcm a.natAbs b.natAbs : Nat) : Int)) H
theorem cr_lcm : CallR X (.builtin "math.lcm") rLcm := by
  intro pins s σ H vs us Q I r h
  obtain ⟨a, b, rfl, ha, hb, q⟩ := h
  obtain ⟨t, u, rfl⟩ := Vals.int2 r
  exact PySem.W.La.lcm2 ha hb ⟨.int _, H, I.tok _, ⟨_, rfl⟩, q⟩
theorem La.int3 {a b c : Int} {us : List Value} (r : Vals [V.int a, V.int b, V.int c] us) : ∃ t u v, us = [.int a t, .int b u, .int c v] := by
  cases r with
  | cons r t =>
    cases t with
    | cons r2 t2 =>
      cases t2 with
      | cons r3 t3 =>
        cases t3
        obtain ⟨t, rfl⟩ := r
        obtain ⟨u, rfl⟩ := r2
        obtain ⟨v, rfl⟩ := r3
        exact ⟨t, u, v, rfl⟩
def rLcm3 : List V → Hp → VK → Prop := fun vs H Q => ∃ a b c : Int, vs = [.int a, .int b, .int c] ∧ a.natAbs < 2 ^ 6000 ∧ b.natAbs < 2 ^ 6000 ∧ c.natAbs < 2 ^ 6000 ∧ Q (.int (((Nat.lcm a.natAbs b.natAbs).lcm c.natAbs : Nat) : Int)) H
theorem cr_lcm3 : CallR X (.builtin "math.lcm") rLcm3 := by
  intro pins s σ H vs us Q I r h
  obtain ⟨a, b, c, rfl, ha, hb, hc, q⟩ := h
  obtain ⟨t, u, v, rfl⟩ := La.int3 r
  exact PySem.W.La.lcm3 ha hb hc ⟨.int _, H, I.tok _, ⟨_, rfl⟩, q⟩
end L2

set_option Elab.async false
set_option linter.all false
set_option maxRecDepth 100000
set_option maxHeartbeats 4000000
/-! range of two numbers of any size -/
namespace L2
open PySem PySem.Spec PyProof.Rows
theorem turn_rangeL {P : Program} {w : World} {K : PySem.W.Frag} {tg : Expr} (it : Addr) (lo : Int) (n : Nat) : Turn P w K tg (Itr lo n) [it] it (fun i h => IsLongIter h it (lo + (i : Nat) * 1) ((n : Int) - (i : Nat)) 1) where
  mem := by simp
  obj := fun i h st b hb => by
    have e : b = it := by simpa using hb
    subst e
    exact ⟨_, st, fun v z => by
      have z' : Data.fields _ = Data.cell v := z
      cases z'⟩
  keep := fun i h h' st k => k it (by simp) _ st
  item := by
    intro X hP hw hK hc i pins s σ H E I hf st hg
    subst hP hw hK
    obtain ⟨f0, f1, f2, f3, f4, f5⟩ := hf it (by simp)
    refine wpAny_pyNext_long_item st (by have : i < n := hg; omega) fun h' st' sb => ?_
    have I1 : Inv X pins σ H { s with heap := h', toks := s.toks + 1 } := I.turned (fun b o hb e => (sb.2 b hb).trans e) f0 f1 f3 f4 f5
    have st2 : IsLongIter h' it (lo + ((i + 1 : Nat) : Int) * 1) ((n : Int) - ((i + 1 : Nat) : Int)) 1 := by
      have e1 : lo + ((i + 1 : Nat) : Int) * 1 = lo + (i : Int) * 1 + 1 := by omega
      have e2 : (n : Int) - ((i + 1 : Nat) : Int) = (n : Int) - (i : Int) - 1 := by omega
      rw [e1, e2]
      exact st'
    refine ⟨_, rfl, go_of (s := { s with heap := h', toks := s.toks + 1 }) (n := "longrange_iterator") st2 rfl rfl (by decide) ⟨.int (lo + i), H, I1, ⟨s.toks, ?_⟩, ⟨rfl, rfl⟩, st2, fun b hb => (hf b hb).1⟩⟩
    rw [Int.mul_one]
  done := by
    intro X hP hw hK hc i pins s σ H E I hf st hg
    subst hP hw hK
    obtain ⟨f0, f1, f2, f3, f4, f5⟩ := hf it (by simp)
    exact wpAny_pyNext_long_end (I.ok.hd hc) st (by have : n ≤ i := hg; omega) fun h' eb => ⟨rfl, I.turned (t' := s.toks) (fun b o hb e => eb b o hb e) f0 f1 f3 f4 f5⟩
  self := fun _ _ _ _ _ st h => wpAny_pyIter_longiter st h
section
variable {X : Cx} {tg : Expr}
theorem range_itL {pins : List (Addr × Obj)} {σ : St} {H : Hp} {s : Shared} {R : It → Hp → Prop} {E : Value → Shared → Prop} {lo hi : Int} {t u v : Tok} {tk : Nat} (I : Inv X pins σ H s)
    (q : R (Itr lo (hi - lo).toNat) H) : wpAny (model X.prog X.w) X.A (pyIter (.ref s.heap.objs.size)) (PIE X pins σ tg R) E { s with heap := s.heap.push { cls := .type "range", data := .fields #[.int lo t, .int hi u, .int 1 v] }, toks := tk } := by
  have I1 : Inv X pins σ H { s with heap := s.heap.push { cls := .type "range", data := .fields #[.int lo t, .int hi u, .int 1 v] }, toks := tk } := I.kept fun b o e => Heap.get?_push_of_some _ e
  have e1 : lo + ((0 : Nat) : Int) * 1 = lo := by simp
  have e2 : (((hi - lo).toNat : Nat) : Int) - ((0 : Nat) : Int) = Builtin.Range.rangeSize lo hi 1 := by rw [rangeSize_one]; split <;> omega
  cases hb : Builtin.Range.small lo hi 1 with
  | true =>
    refine wpAny_pyIter_range (IsRange.new ..) hb ?_
    refine ⟨(s.heap.push { cls := .type "range", data := .fields #[.int lo t, .int hi u, .int 1 v] }).objs.size, [(s.heap.push { cls := .type "range", data := .fields #[.int lo t, .int hi u, .int 1 v] }).objs.size], _, _, H, rfl,
      I1.kept (t' := tk) fun b o e => Heap.get?_push_of_some _ e, turn_range _ lo (hi - lo).toNat, ?_, fun b hb => ?_, q⟩
    · show IsRangeIter _ _ (lo + ((0 : Nat) : Int) * 1) ((((hi - lo).toNat : Nat) : Int) - ((0 : Nat) : Int)) 1
      rw [e1, e2]
      exact Heap.get?_push_size _ rfl
    · have e : b = (s.heap.push { cls := .type "range", data := .fields #[.int lo t, .int hi u, .int 1 v] }).objs.size := by simpa using hb
      subst e
      exact I1.fpOk (Nat.le_refl _) (I1.hok.fresh (Nat.le_refl _))
  | false =>
    refine wpAny_pyIter_longrange (IsRange.new ..) hb ?_
    refine ⟨(s.heap.push { cls := .type "range", data := .fields #[.int lo t, .int hi u, .int 1 v] }).objs.size, [(s.heap.push { cls := .type "range", data := .fields #[.int lo t, .int hi u, .int 1 v] }).objs.size], _, _, H, rfl,
      I1.kept (t' := tk) fun b o e => Heap.get?_push_of_some _ e, turn_rangeL _ lo (hi - lo).toNat, ?_, fun b hb => ?_, q⟩
    · show IsLongIter _ _ (lo + ((0 : Nat) : Int) * 1) ((((hi - lo).toNat : Nat) : Int) - ((0 : Nat) : Int)) 1
      rw [e1, e2]
      exact Heap.get?_push_size _ rfl
    · have e : b = (s.heap.push { cls := .type "range", data := .fields #[.int lo t, .int hi u, .int 1 v] }).objs.size := by simpa using hb
      subst e
      exact I1.fpOk (Nat.le_refl _) (I1.hok.fresh (Nat.le_refl _))
def iRng2L (ta : TA) : TI := fun σ H R => ta σ H fun vs H1 => ∃ i j : Int, vs = [.int i, .int j] ∧ R (Itr i (j - i).toNat) H1
theorem pi_range2L {a b : Expr} {ta : TA} {p pos : Pos} (hg : Gl X "range") (hm : X.mg "range" = none) (ha : PA X [a, b] ta) (hs : starEach [a, b] X.env = [(false, eval a X.env), (false, eval b X.env)] := by rfl) (hs2 : starEach [b] X.env = [(false, eval b X.env)] := by rfl) :
    PI X tg (.Call (.Name "range" p) [a, b] [] pos) (iRng2L ta) := by
  refine ⟨fun pins s σ H R I h => ?_⟩
  refine Call_ (ld_blt I hg hm boot_range (PyProof.Rows.callWith_type1 (thn (ha.run pos pins s σ H _ I h) fun us s1 ⟨vs, H1, I1, r1, q1⟩ => ?_) (by rw [hs, hs2]) (by rw [hs2]; rfl)))
  obtain ⟨i, j, e, q⟩ := q1
  subst e
  cases r1 with
  | cons r rr =>
    cases rr with
    | cons r' rr =>
      cases rr
      obtain ⟨t, rfl⟩ := r
      obtain ⟨t', rfl⟩ := r'
      exact call_range_2 (range_itL I1 q)
end
end L2

set_option Elab.async false
set_option linter.all false
set_option maxRecDepth 100000
set_option maxHeartbeats 4000000
/-! fractions of two whole numbers -/
namespace L
open PySem PySem.Spec PyProof.Rows L2 Fl
/-- the number that a pair tells -/
def rq (a : Int × Int) : Rat := (a.1 : Rat) / (a.2 : Rat)
theorem rq_mul {a : Int × Int} (h : 0 < a.2) : rq a * (a.2 : Rat) = (a.1 : Rat) := by
  unfold rq
  have n : (a.2 : Rat) ≠ 0 := by exact_mod_cast (Int.ne_of_gt h)
  exact Rat.div_mul_cancel n
theorem rq_le {a b : Int × Int} (ha : 0 < a.2) (hb : 0 < b.2) : rq a ≤ rq b ↔ a.1 * b.2 ≤ b.1 * a.2 := by
  have e1 := rq_mul ha
  have e2 := rq_mul hb
  have pa : (0 : Rat) < (a.2 : Rat) := by exact_mod_cast ha
  have pb : (0 : Rat) < (b.2 : Rat) := by exact_mod_cast hb
  have pp : (0 : Rat) < (a.2 : Rat) * (b.2 : Rat) := Rat.mul_pos pa pb
  constructor
  · intro h
    have x := Rat.mul_le_mul_of_nonneg_right h (Rat.le_of_lt pp)
    have y : (a.1 : Rat) * (b.2 : Rat) ≤ (b.1 : Rat) * (a.2 : Rat) := by
      rw [← e1, ← e2]
      grind
    exact_mod_cast y
  · intro h
    have y : (a.1 : Rat) * (b.2 : Rat) ≤ (b.1 : Rat) * (a.2 : Rat) := by exact_mod_cast h
    rw [← e1, ← e2] at y
    refine Rat.le_of_mul_le_mul_right ?_ pp
    grind
theorem rq_eq {a b : Int × Int} (ha : 0 < a.2) (hb : 0 < b.2) : rq a = rq b ↔ a.1 * b.2 = b.1 * a.2 := by
  have l := rq_le ha hb
  have r := rq_le hb ha
  constructor
  · intro h
    have x := l.1 (by rw [h]; exact Rat.le_refl)
    have y := r.1 (by rw [h]; exact Rat.le_refl)
    omega
  · intro h
    exact Rat.le_antisymm (l.2 (by omega)) (r.2 (by omega))
theorem rq_div {a : Int × Int} : rq a = Rat.divInt a.1 a.2 := (Rat.divInt_eq_div _ _).symm
theorem rq_add {a b : Int × Int} (ha : 0 < a.2) (hb : 0 < b.2) : rq a + rq b = rq (a.1 * b.2 + b.1 * a.2, a.2 * b.2) := by
  rw [rq_div, rq_div, rq_div, Rat.divInt_add_divInt _ _ (Int.ne_of_gt ha) (Int.ne_of_gt hb)]
theorem rq_sub {a b : Int × Int} (ha : 0 < a.2) (hb : 0 < b.2) : rq a - rq b = rq (a.1 * b.2 - b.1 * a.2, a.2 * b.2) := by
  rw [rq_div, rq_div, rq_div, Rat.divInt_sub_divInt _ _ (Int.ne_of_gt ha) (Int.ne_of_gt hb)]
theorem rq_times {a b : Int × Int} : rq a * rq b = rq (a.1 * b.1, a.2 * b.2) := by
  rw [rq_div, rq_div, rq_div, Rat.divInt_mul_divInt]
theorem rq_lt {a b : Int × Int} (ha : 0 < a.2) (hb : 0 < b.2) : rq a < rq b ↔ a.1 * b.2 < b.1 * a.2 := by
  rw [← Rat.not_le, rq_le hb ha]
  omega
theorem rq_neg (a b : Int) : rq (-a, b) = -rq (a, b) := by
  unfold rq
  dsimp only
  rw [Rat.intCast_neg]
  grind
theorem rq_int (a : Int) : rq (a, 1) = (a : Rat) := by
  unfold rq
  show (a : Rat) / ((1 : Int) : Rat) = a
  rw [show ((1 : Int) : Rat) = 1 from rfl]
  grind
theorem rq_zero (b : Int) : rq (0, b) = 0 := by
  unfold rq
  show ((0 : Int) : Rat) / (b : Rat) = 0
  rw [show ((0 : Int) : Rat) = 0 from rfl]
  grind
end L

set_option Elab.async false
set_option linter.all false
set_option maxRecDepth 100000
set_option maxHeartbeats 4000000
set_option pp.maxSteps 160
set_option pp.deepTerms false
namespace L
open PySem PySem.Spec PyProof.Rows L2 Fl
local macro_rules | `(tactic| walk_at "side") => `(tactic| first | (exact .inl ⟨by omega, by omega⟩) | (exact .inr ⟨by omega, by omega⟩) | (exact .inr ⟨by decide, by decide⟩) | (show (_ : Int) ≠ _; omega) | (exact ⟨by omega, by decide⟩) | (exact ⟨by decide, by decide, by decide⟩))
local macro_rules | `(tactic| walk_at "go") => `(tactic| repeat (first | refine ⟨_, rfl, ?_⟩ | refine ⟨_, _, rfl, rfl, ?_⟩ | refine .inl ⟨_, rfl, ?_⟩ | refine ⟨rfl, ?_⟩ | refine ⟨(by walk_at "side"), ?_⟩))
local macro_rules | `(tactic| walk_at "see") => `(tactic| (set_option pp.maxSteps 110 in set_option pp.deepTerms false in trace_state))
local macro_rules | `(tactic| walk_at "if") => `(tactic| first | refine ifE ?_ ?_ | refine ifNE ?_ ?_ | refine ifD ?_ ?_ | refine ifN ?_ ?_ | refine ifB ?_ ?_)
section
variable {P : Program} {w : World} {K : PySem.W.Frag} {mg : Str → Option Value} {base : Heap}

def spMix : Sp := fun vs H Q _ => ∃ (s t m : Int), vs = [.int s, .int t, .int m] ∧ 2 ≤ m ∧ m < 1073741824 ∧ ∀ r : Int, 0 ≤ r → r < m → Q (.int r) H
abbrev CalMix (P : Program) (w : World) (K : PySem.W.Frag) (mg : Str → Option Value) (base : Heap) := Cal P w K mg base 1 "_law_mix" ["_law_state", "_law_turn", "_law_many"] spMix
theorem ok_mix (B : Blt mg) (D : Dfn K mg "_law_mix" "_law_mix" s_mix ["_law_state", "_law_turn", "_law_many"]) : CalMix P w K mg base := by
  refine D.cal sc_mix (fun vs H Q E h => ?_) (fun f cdv A outer st H vs Q E hr h => ?_)
  · obtain ⟨s, t, m, rfl, _⟩ := h
    rfl
  · obtain ⟨s, t, m, rfl, h2, h3, q⟩ := h
    refine ⟨_, (pss_cons (ps_set (i := 3) sc_mix.nd rfl (Or.inl rfl) (pe_op op_modN (pe_callTy call_int1 (by rfl) B.int (by decide +kernel) (pa_cons (pe_op op_add (pe_op op_add (pe_op op_mul (pv 0) (pe_int)) (pe_op op_mul (pv 1) (pe_int))) (pe_int)) pa_nil)) (pe_int)))
      (pss_cons (ps_set (i := 4) sc_mix.nd rfl (Or.inl rfl) (pe_op op_modN (pe_callTy call_int1 (by rfl) B.int (by decide +kernel) (pa_cons (pe_op op_add (pe_op op_add (pe_op op_mul (pv 3) (pv 3)) (pe_op op_mul (pv 1) (pe_int))) (pv 0)) pa_nil)) (pe_int)))
      (pss_one (ps_ret (pe_op op_modN (pe_callTy call_int1 (by rfl) B.int (by decide +kernel) (pa_cons (pe_op op_fdivA (pv 4) (pe_int)) pa_nil)) (pv 2)))))), ?_⟩
    walk_at "go"
    have b1 := fm (s * 16807 + t * 7919 + 101) (show (0 : Int) < 2147483629 by decide)
    refine ⟨.inl ⟨by omega, by omega⟩, ?_⟩
    walk_at "go"
    have b2 := fm (((((s * 16807 + t * 7919 + 101).fmod 2147483629 * (s * 16807 + t * 7919 + 101).fmod 2147483629) + t * 104729 + s).fmod 2147483587).fdiv 11) (show (0 : Int) < m by omega)
    exact q _ b2.1 b2.2
def spDraw : Sp := fun vs H Q _ => ∃ (p : Pla) (m : Int), vs = [.ref p, .int m] ∧ Pool H p ∧ 2 ≤ m ∧ m < 1073741824 ∧ ∀ (r : Int) (H' : Hp), 0 ≤ r → r < m → Pool H' p → Keeps H H' p → Q (.int r) H'
abbrev CalDraw (P : Program) (w : World) (K : PySem.W.Frag) (mg : Str → Option Value) (base : Heap) := Cal P w K mg base 2 "_law_draw" ["_law_pool_here", "_law_many"] spDraw
theorem ok_draw (B : Blt mg) (D : Dfn K mg "_law_draw" "_law_draw" s_draw ["_law_pool_here", "_law_many"]) (C_mix : CalMix P w K mg base) : CalDraw P w K mg base := by
  refine D.cal sc_draw (fun vs H Q E h => ?_) (fun f cdv A outer st H vs Q E hr h => ?_)
  · obtain ⟨p, m, rfl, _⟩ := h
    rfl
  · obtain ⟨p, m, rfl, ⟨ns, i, b, c, d, hp, hq, hi, hqp⟩, h2, h3, k⟩ := h
    refine ⟨_, (pss_cons (ps_if (PW.pt (pw_or (pt_cmpR op_lt (pv 1) (pe_int) (nomark _)) (pw_or1 (pt_cmpR op_eq (pe_callB call_len_seq (by rfl) B.len PySem.boot_len (pa_cons (pe_ix ix_list (pv 0) (pe_int) (fun _ _ => rfl)) pa_nil)) (pe_int) (nomark _))))) (pss_one (ps_ret (pe_int))) pss_nil)
      (pss_cons (ps_asg (pe_op op_add (pe_ix ix_list (pv 0) (pe_int) (fun _ _ => rfl)) (pe_int)) (pg_sub (pv 0) (pe_int) set_list))
      (pss_cons (ps_for PassesOwn.never rfl (pi_range1 (by rfl) B.range (pa_cons (pe_int) pa_nil)) (pg_name (i := 2) sc_draw.nd rfl (Or.inl rfl)) (pss_cons (ps_if (pt_cmpR op_gt (pe_ix ix_list (pv 0) (pe_int) (fun _ _ => rfl)) (pe_int) (nomark _)) (pss_cons (ps_set (i := 3) sc_draw.nd rfl (Or.inl rfl) (pe_op op_modN (pe_callTy call_int1 (by rfl) B.int (by decide +kernel) (pa_cons (pe_ix ix_list (pv 0) (pe_int) (fun _ _ => rfl)) pa_nil)) (pv 1)))
      (pss_cons (ps_asg (pe_op op_fdivA (pe_ix ix_list (pv 0) (pe_int) (fun _ _ => rfl)) (pv 1)) (pg_sub (pv 0) (pe_int) set_list))
      (pss_one (ps_ret (pv 3))))) pss_nil)
      (pss_cons (ps_if (pt_cmpR op_ge (pe_ix ix_list (pv 0) (pe_int) (fun _ _ => rfl)) (pe_callB call_len_seq (by rfl) B.len PySem.boot_len (pa_cons (pe_ix ix_list (pv 0) (pe_int) (fun _ _ => rfl)) pa_nil)) (nomark _)) (pss_one (ps_ret (pe_cal C_mix (hr.mono (by decide)) (pa_cons (pe_ix ix_list (pv 0) (pe_int) (fun _ _ => rfl)) (pa_cons (pe_ix ix_list (pv 0) (pe_int) (fun _ _ => rfl)) (pa_cons (pv 1) pa_nil)))))) pss_nil)
      (pss_cons (ps_set (i := 4) sc_draw.nd rfl (Or.inl rfl) (pe_ix ix_list (pe_ix ix_list (pv 0) (pe_int) (fun _ _ => rfl)) (pe_ix ix_list (pv 0) (pe_int) (fun _ _ => rfl)) (fun _ _ => rfl)))
      (pss_cons (ps_asg (pe_op op_add (pe_ix ix_list (pv 0) (pe_int) (fun _ _ => rfl)) (pe_int)) (pg_sub (pv 0) (pe_int) set_list))
      (pss_cons (ps_asg (pe_op op_modN (pe_callTy call_int1 (by rfl) B.int (by decide +kernel) (pa_cons (pe_op op_add (pe_op op_add (pe_op op_mul (pe_ix ix_list (pv 0) (pe_int) (fun _ _ => rfl)) (pe_int)) (pe_op op_mul (pv 4) (pe_int))) (pe_int)) pa_nil)) (pe_int)) (pg_sub (pv 0) (pe_int) set_list))
      (pss_cons (ps_if (pt_cmpR op_lt (pv 4) (pe_op op_pow (pe_int) (pe_int)) (nomark _)) (pss_one (ps_ret (pe_cal C_mix (hr.mono (by decide)) (pa_cons (pe_ix ix_list (pv 0) (pe_int) (fun _ _ => rfl)) (pa_cons (pe_ix ix_list (pv 0) (pe_int) (fun _ _ => rfl)) (pa_cons (pv 1) pa_nil)))))) pss_nil)
      (pss_one (ps_asg (pe_op op_sub (pv 4) (pe_op op_pow (pe_int) (pe_int))) (pg_sub (pv 0) (pe_int) set_list))))))))))
      (pss_one (ps_ret (pe_cal C_mix (hr.mono (by decide)) (pa_cons (pe_ix ix_list (pv 0) (pe_int) (fun _ _ => rfl)) (pa_cons (pe_ix ix_list (pv 0) (pe_int) (fun _ _ => rfl)) (pa_cons (pv 1) pa_nil))))))))), ?_⟩
    walk_at "go"
    rw [decide_eq_false (by omega)]
    refine iteF ?_
    walk_at "go"
    refine ⟨_, _, _, _, rfl, rfl, SqL.of hp, rfl, ?_⟩
    refine ⟨_, _, rfl, .inl (SqL.of hq), ?_⟩
    walk_at "go"
    walk_at "if"
    · intro _
      walk_at "go"
      exact k 0 H (by omega) (by omega) ⟨ns, i, b, c, d, hp, hq, hi, hqp⟩ (Keeps.refl _ _)
    intro hlen
    refine ⟨_, rfl, _, _, _, _, rfl, rfl, SqL.of hp, rfl, ?_⟩
    walk_at "go"
    refine ⟨_, _, _, _, rfl, rfl, hp, rfl, ?_⟩
    refine ⟨64, rfl, by decide, by decide, for_range (n := 64) (fun _ σ H' => ∃ v2 v3 v4 : Option V, σ = [some (.ref (p : Addr)), some (.int m), v2, v3, v4] ∧ ∃ i b c d : Int, H' p = some (.lst [.ref p.q, .int i, .int b, .int c, .int d]) ∧ H' p.q = some (.lst (ns.map V.int)) ∧ 0 ≤ i ∧ Keeps H H' p)
      ⟨none, none, none, rfl, i, b, c, d + 1, upd_same, by rw [upd_ne hqp]; exact hq, hi, Keeps.upd⟩ ?_ ?_⟩
    · rintro j σ H1 hj ⟨v2, v3, v4, rfl, i, b, c, d, hp, hq, hi, hk⟩
      refine ⟨_, rfl, _, _, _, _, rfl, rfl, SqL.of hp, rfl, ?_⟩
      walk_at "go"
      walk_at "if"
      · intro hb
        refine ⟨_, rfl, _, _, _, _, rfl, rfl, SqL.of hp, rfl, ?_⟩
        walk_at "go"
        refine ⟨_, _, _, _, rfl, rfl, SqL.of hp, rfl, ?_⟩
        walk_at "go"
        refine ⟨divA (b := 30) (by omega) (by omega) (by decide) (by decide), ?_⟩
        walk_at "go"
        refine ⟨_, _, _, _, rfl, rfl, hp, rfl, ?_⟩
        walk_at "go"
        have b2 := fm b (show (0 : Int) < m by omega)
        exact k _ _ b2.1 b2.2 ⟨ns, i, _, c, d, upd_same, by rw [upd_ne hqp]; exact hq, hi, hqp⟩ (hk.trans Keeps.upd)
      · intro hb
        refine ⟨_, rfl, _, _, _, _, rfl, rfl, SqL.of hp, rfl, ?_⟩
        walk_at "go"
        refine ⟨_, _, _, _, rfl, rfl, SqL.of hp, rfl, ?_⟩
        refine ⟨_, _, rfl, .inl (SqL.of hq), ?_⟩
        walk_at "go"
        walk_at "if"
        · intro hl
          refine ⟨_, rfl, _, _, _, _, rfl, rfl, SqL.of hp, rfl, ?_⟩
          refine ⟨_, rfl, _, _, _, _, rfl, rfl, SqL.of hp, rfl, ?_⟩
          walk_at "go"
          refine ⟨_, _, _, rfl, h2, h3, fun r r0 r1 => ?_⟩
          exact k _ _ r0 r1 ⟨ns, i, b, c, d, hp, hq, hi, hqp⟩ hk
        · intro hl
          have hl2 : i < (ns.length : Int) := by
            have hl' : ¬ ((ns.map V.int).length : Int) ≤ i := hl
            rw [List.length_map] at hl'
            omega
          obtain ⟨n, rfl⟩ : ∃ n : Nat, i = (n : Int) := ⟨i.toNat, by omega⟩
          have hn : n < ns.length := by omega
          refine ⟨_, rfl, _, _, _, _, rfl, rfl, SqL.of hp, rfl, ?_⟩
          refine ⟨_, rfl, _, _, _, _, rfl, rfl, SqL.of hp, rfl, ?_⟩
          refine ⟨_, _, _, _, rfl, rfl, SqL.of hq, atI_nat (ints_at hn), ?_⟩
          refine ⟨_, rfl, _, _, _, _, rfl, rfl, SqL.of hp, rfl, ?_⟩
          walk_at "go"
          refine ⟨_, _, _, _, rfl, rfl, hp, rfl, ?_⟩
          refine ⟨_, rfl, _, _, _, _, rfl, rfl, SqL.of upd_same, rfl, ?_⟩
          walk_at "go"
          refine ⟨_, _, _, _, rfl, rfl, upd_same, rfl, ?_⟩
          walk_at "go"
          walk_at "if"
          · intro hcell
            refine ⟨_, rfl, _, _, _, _, rfl, rfl, SqL.of upd_same, rfl, ?_⟩
            refine ⟨_, rfl, _, _, _, _, rfl, rfl, SqL.of upd_same, rfl, ?_⟩
            walk_at "go"
            refine ⟨_, _, _, rfl, h2, h3, fun r r0 r1 => ?_⟩
            exact k _ _ r0 r1 ⟨ns, _, b, _, d, upd_same, by rw [upd_ne hqp, upd_ne hqp]; exact hq, by omega, hqp⟩ ((hk.trans Keeps.upd).trans Keeps.upd)
          · intro hcell
            walk_at "go"
            refine ⟨_, _, _, _, rfl, rfl, upd_same, rfl, ?_⟩
            exact ⟨_, _, _, rfl, _, _, _, d, upd_same, by rw [upd_ne hqp, upd_ne hqp, upd_ne hqp]; exact hq, by omega, ((hk.trans Keeps.upd).trans Keeps.upd).trans Keeps.upd⟩
    · rintro σ H1 ⟨v2, v3, v4, rfl, i, b, c, d, hp, hq, hi, hk⟩
      refine ⟨_, rfl, _, _, _, _, rfl, rfl, SqL.of hp, rfl, ?_⟩
      refine ⟨_, rfl, _, _, _, _, rfl, rfl, SqL.of hp, rfl, ?_⟩
      walk_at "go"
      refine ⟨_, _, _, rfl, h2, h3, fun r r0 r1 => ?_⟩
      exact k _ _ r0 r1 ⟨ns, i, b, c, d, hp, hq, hi, hqp⟩ hk

theorem wide_ix {s : Int} (h0 : 3 ≤ s) (h1 : s < 6) : ∃ M : Int, atI [V.int 1, V.int 2, V.int 5] (s - 3) = some (V.int M) ∧ (M = 1 ∨ M = 2 ∨ M = 5) := by
  have : s = 3 ∨ s = 4 ∨ s = 5 := by omega
  rcases this with rfl | rfl | rfl
  · exact ⟨1, rfl, by omega⟩
  · exact ⟨2, rfl, by omega⟩
  · exact ⟨5, rfl, by omega⟩
def spWide : Sp := fun vs H Q _ => ∃ (p : Pla), vs = [.ref p] ∧ Pool H p ∧ ∀ (r : Int) (H' : Hp), 0 ≤ r → r < 10 ^ 30 → Pool H' p → Keeps H H' p → Q (.int r) H'
abbrev CalWide (P : Program) (w : World) (K : PySem.W.Frag) (mg : Str → Option Value) (base : Heap) := Cal P w K mg base 3 "_law_wide" ["_law_pool_here"] spWide
theorem ok_wide (B : Blt mg) (D : Dfn K mg "_law_wide" "_law_wide" s_wide ["_law_pool_here"]) (C_draw : CalDraw P w K mg base) : CalWide P w K mg base := by
  refine D.cal sc_wide (fun vs H Q E h => ?_) (fun f cdv A outer st H vs Q E hr h => ?_)
  · obtain ⟨p, rfl, _⟩ := h
    rfl
  · obtain ⟨p, rfl, hP, k⟩ := h
    refine ⟨_, (pss_cons (ps_set (i := 1) sc_wide.nd rfl (Or.inl rfl) (pe_cal C_draw (hr.mono (by decide)) (pa_cons (pv 0) (pa_cons (pe_int) pa_nil))))
      (pss_cons (ps_if (pt_cmpR op_eq (pv 1) (pe_int) (nomark _)) (pss_one (ps_ret (pe_cal C_draw (hr.mono (by decide)) (pa_cons (pv 0) (pa_cons (pe_int) pa_nil))))) pss_nil)
      (pss_cons (ps_if (pt_cmpR op_lt (pv 1) (pe_int) (nomark _)) (pss_one (ps_ret (pe_cal C_draw (hr.mono (by decide)) (pa_cons (pv 0) (pa_cons (pe_int) pa_nil))))) pss_nil)
      (pss_cons (ps_set (i := 2) sc_wide.nd rfl (Or.inl rfl) (pe_ix ix_tup (pe_tup (pa_cons (pe_int) (pa_cons (pe_int) (pa_cons (pe_int) pa_nil)))) (pe_op op_sub (pv 1) (pe_int)) (fun _ _ => rfl)))
      (pss_cons (ps_set (i := 3) sc_wide.nd rfl (Or.inl rfl) (pe_int))
      (pss_cons (ps_for PassesOwn.never rfl (pi_range1 (by rfl) B.range (pa_cons (pv 2) pa_nil)) (pg_name (i := 4) sc_wide.nd rfl (Or.inl rfl)) (pss_one (ps_set (i := 3) sc_wide.nd rfl (Or.inl rfl) (pe_op op_add (pe_op op_mul (pv 3) (pe_op op_pow (pe_int) (pe_int))) (pe_cal C_draw (hr.mono (by decide)) (pa_cons (pv 0) (pa_cons (pe_op op_pow (pe_int) (pe_int)) pa_nil)))))))
      (pss_one (ps_ret (pv 3))))))))), ?_⟩
    refine ⟨_, rfl, p, 6, rfl, hP, by decide, by decide, fun s H1 s0 s1 hP1 hk1 => ?_⟩
    walk_at "go"
    walk_at "if"
    · intro _
      refine ⟨_, rfl, p, 4, rfl, hP1, by decide, by decide, fun r H2 r0 r1 hP2 hk2 => ?_⟩
      exact k r H2 r0 (by omega) hP2 (hk1.trans hk2)
    intro n0
    walk_at "go"
    walk_at "if"
    · intro _
      refine ⟨_, rfl, p, 30, rfl, hP1, by decide, by decide, fun r H2 r0 r1 hP2 hk2 => ?_⟩
      exact k r H2 r0 (by omega) hP2 (hk1.trans hk2)
    intro n3
    obtain ⟨M, eM, hM⟩ := wide_ix (s := s) (by omega) s1
    refine ⟨(by show 3 ≤ sizeLine; decide), fun t ht => ?_⟩
    walk_at "go"
    refine ⟨_, _, _, _, rfl, rfl, SqT.of upd_same, eM, ?_⟩
    refine ⟨_, rfl, _, rfl, (by omega), (by omega), for_range (n := M.toNat) (fun i σ H' => ∃ (f : Int) (v4 : Option V), σ = [some (.ref (p : Addr)), some (.int s), some (.int M), some (.int f), v4] ∧ 0 ≤ f ∧ f < 1000000 ^ i ∧ Pool H' p ∧ Keeps H H' p)
      ⟨0, none, rfl, by omega, by decide, hP1.upd ht, hk1.trans (same_keeps (same_upd ht))⟩ ?_ ?_⟩
    · rintro i σ H2 hi ⟨f, v4, rfl, f0, f1, hP2, hk2⟩
      walk_at "go"
      refine ⟨_, _, rfl, hP2, by decide, by decide, fun r H3 r0 r1 hP3 hk3 => ?_⟩
      walk_at "go"
      have r1' : r < 1000000 := r1
      refine ⟨f * 1000000 + r, _, rfl, by omega, ?_, hP3, hk2.trans hk3⟩
      rw [Int.pow_succ]
      omega
    · rintro σ H2 ⟨f, v4, rfl, f0, f1, hP2, hk2⟩
      refine ⟨_, rfl, k f H2 f0 ?_ hP2 hk2⟩
      rcases hM with rfl | rfl | rfl
      · exact Int.lt_of_lt_of_le f1 (by decide)
      · exact Int.lt_of_lt_of_le f1 (by decide)
      · exact Int.lt_of_lt_of_le f1 (by decide)

def spGcd : Sp := fun vs H Q _ => ∃ (a b : Int), vs = [.int a, .int b] ∧ b.natAbs < 10 ^ 124 ∧ Q (.int ((max 1 (Nat.gcd a.natAbs b.natAbs) : Nat) : Int)) H
abbrev CalGcd (P : Program) (w : World) (K : PySem.W.Frag) (mg : Str → Option Value) (base : Heap) := Cal P w K mg base 1 "_law_gcd" ["_law_one", "_law_other"] spGcd
theorem abs_if (a : Int) : (if a < 0 then -a else a) = (a.natAbs : Int) := by split <;> omega
theorem ok_gcd (B : Blt mg) (D : Dfn K mg "_law_gcd" "_law_gcd" s_gcd ["_law_one", "_law_other"]) : CalGcd P w K mg base := by
  refine D.cal sc_gcd (fun vs H Q E h => ?_) (fun f cdv A outer st H vs Q E hr h => ?_)
  · obtain ⟨a, b, rfl, _⟩ := h
    rfl
  · obtain ⟨a, b, rfl, hb, q⟩ := h
    refine ⟨_, (pss_cons (ps_set (i := 0) sc_gcd.nd rfl (Or.inl rfl) (pe_callB call_abs (by rfl) B.abs (by decide +kernel) (pa_cons (pv 0) pa_nil)))
      (pss_cons (ps_set (i := 1) sc_gcd.nd rfl (Or.inl rfl) (pe_callB call_abs (by rfl) B.abs (by decide +kernel) (pa_cons (pv 1) pa_nil)))
      (pss_cons (ps_for PassesOwn.never rfl (pi_range1 (by rfl) B.range (pa_cons (pe_int) pa_nil)) (pg_name (i := 2) sc_gcd.nd rfl (Or.inl rfl)) (pss_cons (ps_if (pt_cmpR op_eq (pv 1) (pe_int) (nomark _)) (pss_one (ps_ret (pe_callB (call_max2 rfl) (by rfl) B.max (by decide +kernel) (pa_cons (pe_int) (pa_cons (pv 0) pa_nil))))) pss_nil)
      (pss_one (ps_par (i := 0) (j := 1) (by rfl) sc_gcd.nd rfl rfl (by decide) rfl rfl (pa_cons (pv 1) (pa_cons (pe_op op_modN (pe_callTy call_int1 (by rfl) B.int (by decide +kernel) (pa_cons (pv 0) pa_nil)) (pv 1)) pa_nil)) (by rfl)))))
      (pss_one (ps_ret (pe_int)))))), ?_⟩
    walk_at "go"
    refine ⟨by decide, by decide, for_range (n := 600) (fun i σ H' => ∃ (n x y : Nat) (v : Option V), σ = [some (.int x), some (.int y), v] ∧ n + i = 599 ∧ Eu n x y ∧ Nat.gcd x y = Nat.gcd a.natAbs b.natAbs ∧ H' = H)
      ⟨599, a.natAbs, b.natAbs, none, ?_, rfl, eu_all hb, rfl, rfl⟩ ?_ ?_⟩
    · rw [← abs_if, ← abs_if]
      rfl
    · rintro i σ H1 hi ⟨n, x, y, v, rfl, hn, hE, hg, rfl⟩
      walk_at "go"
      walk_at "if"
      · intro hy
        have hy' : y = 0 := by omega
        subst hy'
        walk_at "go"
        rw [Nat.gcd_zero_right] at hg
        rw [← hg] at q
        have e : (if (x : Int) > 1 then (x : Int) else 1) = ((max 1 x : Nat) : Int) := by
          rw [Nat.max_def]
          split <;> split <;> omega
        rw [← e] at q
        exact ⟨_, _, rfl, q⟩
      · intro hy
        have hy' : 0 < y := by omega
        cases n with
        | zero => exact absurd (show y = 0 from hE) (by omega)
        | succ n =>
          rcases hE with h | hE
          · omega
          walk_at "go"
          refine ⟨_, _, rfl, n, y, x % y, some (V.int (0 + (i : Int))), ?_, by omega, hE, ?_, rfl⟩
          · have e : (x : Int).fmod (y : Int) = ((x % y : Nat) : Int) := by
              rw [Int.fmod_eq_emod_of_nonneg _ (by omega)]
              rfl
            rw [← e]
            rfl
          · rw [← hg, Nat.gcd_comm x y, Nat.gcd_rec y x, Nat.gcd_comm]
    · rintro σ H1 ⟨n, x, y, v, rfl, hn, _⟩
      omega

def spPool (K : PySem.W.Frag) : Sp := fun vs H Q _ => ∃ (a : Addr) (ns : List Int), vs = [.ref a] ∧ SqL K H a (ns.map V.int) ∧ ns.length ≤ 63 ∧ ∀ (p : Pla) (H' : Hp), Same H H' → H p = none → H p.q = none → Pool H' p → Q (.ref p) H'
abbrev CalPool (P : Program) (w : World) (K : PySem.W.Frag) (mg : Str → Option Value) (base : Heap) := Cal P w K mg base 1 "_law_pool" ["_law_script"] (spPool K)
theorem ok_pool (B : Blt mg) (D : Dfn K mg "_law_pool" "_law_pool" s_pool ["_law_script"]) : CalPool P w K mg base := by
  refine D.cal sc_pool (fun vs H Q E h => ?_) (fun f cdv A outer st H vs Q E hr h => ?_)
  · obtain ⟨a, ns, rfl, _⟩ := h
    rfl
  · obtain ⟨a, ns, rfl, hS, hl, k⟩ := h
    refine ⟨_, (pss_one (ps_ret (pe_lst (pa_cons (pe_lc (own := [("_law_cell", 1)]) (g := gName 1) rfl sc_pool.nd (pi_list (pv 0)) (blkOk_by (N := ["_law_script", "_law_cell"]) (sc := defScope s_pool) (by decide +kernel)) (fun _ _ _ _ _ => pg_name (i := 1) sc_pool.nd rfl (Or.inl rfl)) (fun _ _ _ _ _ => pts_nil) (fun _ _ _ _ _ => (pe_callTy call_int1 (by rfl) B.int (by decide +kernel) (pa_cons (pv 1) pa_nil)))) (pa_cons (pe_int) (pa_cons (pe_int) (pa_cons (pe_int) (pa_cons (pe_int) pa_nil)))))))), ?_⟩
    refine ⟨_, rfl, a, rfl, ⟨_, hS⟩, fun D hD => lc_list (K := K) (a := a) (xs := ns.map V.int) (fun i H' => H' = upd H D (.lst ((ns.take i).map V.int))) rfl (fun i H' _ e => by rw [e]; exact (same_upd hD).seq hS) ?_ ?_⟩
    · rintro i x H' hx rfl
      obtain ⟨z, hz, rfl⟩ := int_of_map hx
      refine ⟨rfl, ?_⟩
      refine ⟨_, rfl, .inl ⟨_, rfl, _, upd_same, ?_, ?_⟩⟩
      · rw [List.length_map, List.length_take]
        exact small1000 (by omega)
      · rw [upd_upd, List.take_add_one, hz, List.map_append]
        rfl
    · rintro H' rfl
      refine ⟨(by show 5 ≤ sizeLine; decide), fun p hp => ?_⟩
      have hne : D ≠ p := ne_of_none upd_same hp
      have hp0 : H p = none := by rw [upd_ne hne.symm] at hp; exact hp
      refine k ⟨p, D⟩ _ ((same_upd hD).trans (same_upd hp)) hp0 hD ⟨ns, 0, 0, 1, 0, upd_same, ?_, by decide, hne⟩
      show upd _ p _ D = _
      rw [upd_ne hne, upd_same, List.length_map, List.take_length]

theorem kit_own {K : PySem.W.Frag} {t : Value} {C : Addr} {b : Bool} (hd : PySem.W.hasDictIn K C = true) (ht : PySem.W.typeIn K (.ref C) = some (.type "type")) (hs : PySem.W.subIn K t (.ref C) = some b) (hself : PySem.W.subIn K t t = some true) : PySem.W.kitOne K t (.ref C) = some b := by
  unfold PySem.W.kitOne
  by_cases h : (t == Value.ref C) = true
  · rw [if_pos h]
    have e := beq_iff_eq.mp h
    subst e
    rw [hs] at hself
    exact hself.symm
  · rw [if_neg h]
    obtain ⟨cd, hc, _⟩ := PySem.W.any_some hd
    have e2 : ((PySem.W.clsIn K C).isSome && PySem.W.typeIn K (.ref C) == some (.type "type")) = true := by rw [hc, ht] <;> rfl
    show (if ((PySem.W.clsIn K C).isSome && PySem.W.typeIn K (.ref C) == some (.type "type")) = true then PySem.W.subIn K t (.ref C) else none) = some b
    rw [if_pos e2]
    exact hs
theorem kit_int {K : PySem.W.Frag} {C : Addr} {b : Bool} (hd : PySem.W.hasDictIn K C = true) (ht : PySem.W.typeIn K (.ref C) = some (.type "type")) (hs : PySem.W.subIn K (.type "int") (.ref C) = some b) : PySem.W.kitOne K (.type "int") (.ref C) = some b := by
  unfold PySem.W.kitOne
  rw [if_neg (by intro h; cases beq_iff_eq.mp h)]
  obtain ⟨cd, hc, _⟩ := PySem.W.any_some hd
  have e2 : ((PySem.W.clsIn K C).isSome && PySem.W.typeIn K (.ref C) == some (.type "type")) = true := by rw [hc, ht] <;> rfl
  show (if ((PySem.W.clsIn K C).isSome && PySem.W.typeIn K (.ref C) == some (.type "type")) = true then PySem.W.subIn K (.type "int") (.ref C) else none) = some b
  rw [if_pos e2]
  exact hs
def spWhole : Sp := fun vs H Q _ => ∃ (i : Int), vs = [.int i] ∧ Q (.bl true) H
abbrev CalWhole (P : Program) (w : World) (K : PySem.W.Frag) (mg : Str → Option Value) (base : Heap) := Cal P w K mg base 1 "_law_whole" ["_law_actual"] spWhole
theorem ok_whole (B : Blt mg) (D : Dfn K mg "_law_whole" "_law_whole" s_whole ["_law_actual"]) : CalWhole P w K mg base := by
  refine D.cal sc_whole (fun vs H Q E h => ?_) (fun f cdv A outer st H vs Q E hr h => ?_)
  · obtain ⟨i, rfl, _⟩ := h
    rfl
  · obtain ⟨i, rfl, q⟩ := h
    refine ⟨_, (pss_one (ps_ret ((pe_and (pe_callB call_isi (by rfl) B.isinstance (by decide +kernel) (pa_cons (pv 0) (pa_cons (pe_bltn (v := .ty "int") (by rfl) B.int (by decide +kernel) rfl) pa_nil))) (pe_one (pe_not (pe_callB call_isi (by rfl) B.isinstance (by decide +kernel) (pa_cons (pv 0) (pa_cons (pe_bltn (v := .ty "bool") (by rfl) B.bool (by decide +kernel) rfl) pa_nil))))))))), ?_⟩
    refine ⟨_, rfl, _, _, _, _, true, rfl, .ty _, .base (.int _), kit_ty (by decide +kernel), _, rfl, iteT ?_⟩
    refine ⟨_, rfl, _, _, _, _, false, rfl, .ty _, .base (.int _), kit_ty (by decide +kernel), _, rfl, ?_⟩
    exact q

theorem ok_bn {C f : Addr} {fd : FuncData} (T : BnC K mg C) (F : Fun K "__init__" "BadNumber.__init__" s_BadNumber_init f fd) : FnOk P w K mg base CX0 1 f fd ["self", "name", "value"] (spBN C) := by
  refine F.ok sc_BadNumber_init (fun vs H Q E h => ?_) (fun cdv A outer st H vs Q E hr h => ?_)
  · obtain ⟨a, n, v, rfl, _⟩ := h
    rfl
  · obtain ⟨a, n, v, rfl, ha, k⟩ := h
    refine ⟨_, pss_cons (ps_ost (pv 0) (pv 1)) (pss_one (ps_ost (pv 0) (pv 2))), ?_⟩
    refine ⟨_, rfl, _, rfl, a, C, rfl, T.o, T.nN, .inl ⟨ha, fun dx hdx hne => ?_⟩⟩
    refine ⟨_, rfl, _, rfl, a, C, rfl, T.o, T.nV, .inr ⟨dx, [("name", n)], upd_same, ?_, (by show 1 ≤ 900; decide), k dx hdx hne⟩⟩
    rw [upd_ne hne, upd_same]
end
end L

set_option Elab.async false
set_option linter.all false
set_option maxRecDepth 100000
set_option maxHeartbeats 4000000
set_option pp.maxSteps 160
set_option pp.deepTerms false
namespace L
open PySem PySem.Spec PyProof.Rows L2 Fl
local macro_rules | `(tactic| walk_at "side") => `(tactic| first | (exact .inl ⟨by omega, by omega⟩) | (exact .inr ⟨by omega, by omega⟩) | (exact .inr ⟨by decide, by decide⟩) | (show (_ : Int) ≠ _; omega) | (exact ⟨by omega, by decide⟩) | (exact ⟨by decide, by decide, by decide⟩))
local macro_rules | `(tactic| walk_at "go") => `(tactic| repeat (first | refine ⟨_, rfl, ?_⟩ | refine ⟨_, _, rfl, rfl, ?_⟩ | refine .inl ⟨_, rfl, ?_⟩ | refine ⟨rfl, ?_⟩ | refine ⟨(by walk_at "side"), ?_⟩))
local macro_rules | `(tactic| walk_at "see") => `(tactic| (set_option pp.maxSteps 110 in set_option pp.deepTerms false in trace_state))
local macro_rules | `(tactic| walk_at "if") => `(tactic| first | refine ifE ?_ ?_ | refine ifNE ?_ ?_ | refine ifD ?_ ?_ | refine ifN ?_ ?_ | refine ifB ?_ ?_)
open Bx
section
variable {P : Program} {w : World} {K : PySem.W.Frag} {mg : Str → Option Value} {base : Heap}

def spInit (C ZU : Addr) : Sp := fun vs H Q E => ∃ (x dx : Addr) (t u : Int), vs = [.ref x, .int t, .int u] ∧ H x = some (.ins C dx []) ∧ u.natAbs < 2 ^ 8999 ∧
  (u ≠ 0 → ∀ H' : Hp, H' x = some (.ins C dx (rf (nT t u) (nU t u))) → Keeps H H' x → Q .non H') ∧ (u = 0 → E (.ref ZU) none H)
abbrev CalRatio (P : Program) (w : World) (K : PySem.W.Frag) (mg : Str → Option Value) (base : Heap) (C ZU : Addr) (dvs : List V) := CalC P w K mg base (L2.CX P w) 1 C "Ratio" ["self", "top", "under"] dvs (spInit C ZU)
theorem ok_init {C ZU f : Addr} {fd : FuncData} (B : Blt mg) (hgcd : mg "gcd" = some (.builtin "math.gcd")) (T : RatC K mg C) (TZ : ExC K mg "ZeroUnder" ZU)
    (F : FunD K "__init__" "Ratio.__init__" (defArgs s_Ratio_init) (defBody s_Ratio_init) (defScope s_Ratio_init) [.int 1] [] f fd) : FnOk P w K mg base (L2.CX P w) 1 f fd ["self", "top", "under"] (spInit C ZU) := by
  refine F.ok sc_Ratio_init (fun vs H Q E h => ?_) (fun cdv A outer st H vs Q E hr h => ?_)
  · obtain ⟨x, dx, t, u, rfl, _⟩ := h
    rfl
  · obtain ⟨x, dx, t, u, rfl, hx, hu, k, k0⟩ := h
    refine ⟨_, (pss_cons (ps_if (pt_cmpR op_eq (pv 2) (pe_int) (nomark _)) (pss_one (ps_raise rfl (takes_of rfl rfl rfl rfl) (pmk_own PySem.F.excBase_ValueError TZ.x TZ.g TZ.k (raises_own TZ.b TZ.t) rfl))) pss_nil)
      (pss_cons (ps_set (i := 3) sc_Ratio_init.nd rfl (Or.inl rfl) (pe_callBfun cr_gcd (by rfl) hgcd (pa_cons (pv 1) (pa_cons (pv 2) pa_nil))))
      (pss_cons (ps_if (pt_cmpR op_lt (pv 2) (pe_int) (nomark _)) (pss_one (ps_set (i := 3) sc_Ratio_init.nd rfl (Or.inl rfl) (pe_un un_neg (pv 3)))) pss_nil)
      (pss_cons (ps_fld (pv 0) (pe_op op_fdivA (pv 1) (pv 3)) rfl)
      (pss_one (ps_fld (pv 0) (pe_op op_fdivA (pv 2) (pv 3)) rfl)))))), ?_⟩
    walk_at "go"
    walk_at "if"
    · intro h0
      exact k0 h0
    intro h0
    refine ⟨_, rfl, _, rfl, _, _, rfl, ?_⟩
    walk_at "go"
    have hsn : sh t u ≠ 0 := sh_ne h0
    have hsb : (sh t u).natAbs < 2 ^ 8999 := by
      rw [sh_abs]
      exact Nat.lt_of_le_of_lt (Nat.le_of_dvd (by omega) (Nat.gcd_dvd_right _ _)) hu
    walk_at "if"
    · intro hn
      have es : sh t u = -((Nat.gcd t.natAbs u.natAbs : Nat) : Int) := if_pos hn
      have hd : CDivA t (-((Nat.gcd t.natAbs u.natAbs : Nat) : Int)) := es ▸ divA (b := 8999) hsn hsb (by decide) (by decide)
      walk_at "go"
      refine ⟨hd, ?_⟩
      refine ⟨_, rfl, x, C, dx, [], rfl, hx, T.cl, T.nT, (by show 0 < 1000; decide), ?_⟩
      refine ⟨_, rfl, _, rfl, _, _, rfl, rfl, hd, ?_⟩
      refine ⟨_, rfl, x, C, dx, _, rfl, upd_same, T.cl, T.nU, (by show 1 < 1000; decide), ?_⟩
      refine k h0 _ ?_ (Keeps.upd.trans Keeps.upd)
      rw [upd_same]
      unfold rf nT nU
      rw [es]
    · intro hn
      have es : sh t u = ((Nat.gcd t.natAbs u.natAbs : Nat) : Int) := if_neg hn
      have hd : CDivA t ((Nat.gcd t.natAbs u.natAbs : Nat) : Int) := es ▸ divA (b := 8999) hsn hsb (by decide) (by decide)
      walk_at "go"
      refine ⟨hd, ?_⟩
      refine ⟨_, rfl, x, C, dx, [], rfl, hx, T.cl, T.nT, (by show 0 < 1000; decide), ?_⟩
      refine ⟨_, rfl, _, rfl, _, _, rfl, rfl, hd, ?_⟩
      refine ⟨_, rfl, x, C, dx, _, rfl, upd_same, T.cl, T.nU, (by show 1 < 1000; decide), ?_⟩
      refine k h0 _ ?_ (Keeps.upd.trans Keeps.upd)
      rw [upd_same]
      unfold rf nT nU
      rw [es]
theorem mk_ratio {C ZU f : Addr} {fd : FuncData} (B : Blt mg) (hgcd : mg "gcd" = some (.builtin "math.gcd")) (T : RatC K mg C) (TZ : ExC K mg "ZeroUnder" ZU) (M : Mk K C f)
    (F : FunD K "__init__" "Ratio.__init__" (defArgs s_Ratio_init) (defBody s_Ratio_init) (defScope s_Ratio_init) [.int 1] [] f fd) : CalRatio P w K mg base C ZU [] ∧ CalRatio P w K mg base C ZU [.int 1] := by
  obtain ⟨d2, r2, b2⟩ := F.binds1 (ps := ["self", "top", "under"]) 3 1 (by intro e; cases e) rfl (fun T kV doc pm an cdv ct us its h1 h2 => match us, its, h1, h2 with | [_, _, _], [_], _, _ => ⟨_, rfl, rfl⟩)
  obtain ⟨d1, r1, b1⟩ := F.binds1 (ps := ["self", "top", "under"]) 2 0 (by intro e; cases e) rfl (fun T kV doc pm an cdv ct us its h1 h2 => match us, its, h1, h2 with | [_, _], [_], _, _ => ⟨_, rfl, rfl⟩)
  exact ⟨⟨f, fd, d2, M, ok_init B hgcd T TZ F, T.g, b2, r2⟩, ⟨f, fd, d1, M, ok_init B hgcd T TZ F, T.g, b1, r1⟩⟩

def spAsRatio (C : Addr) : Sp := fun vs H Q _ => (∃ (x : Addr) (t u : Int), vs = [.ref x] ∧ RatAt C H x t u ∧ Q (.ref x) H) ∨ (∃ i : Int, vs = [.int i] ∧ ∀ (x : Addr) (H' : Hp), H x = none → Same H H' → RatAt C H' x i 1 → Q (.ref x) H')
abbrev CalAsRatio (P : Program) (w : World) (K : PySem.W.Frag) (mg : Str → Option Value) (base : Heap) (C : Addr) := Cal P w K mg base 3 "as_ratio" ["number"] (spAsRatio C)
theorem made {C x dx : Addr} {fs : List (Str × V)} {H H' : Hp} (nx : H x = none) (ndx : H dx = none) (hk : Keeps (upd (upd H dx (.own x)) x (.ins C dx fs)) H' x) : Same H H' := fun b o e =>
  hk b o (by rw [upd_ne (ne_of_none e nx), upd_ne (ne_of_none e ndx)]; exact e) (ne_of_none e nx)
theorem ok_as_ratio {C ZU : Addr} (B : Blt mg) (T : RatC K mg C) (D : Dfn K mg "as_ratio" "as_ratio" s_as_ratio ["number"]) (M1 : CalRatio P w K mg base C ZU [.int 1]) : CalAsRatio P w K mg base C := by
  refine D.cal sc_as_ratio (fun vs H Q E h => ?_) (fun f cdv A outer st H vs Q E hr h => ?_)
  · rcases h with ⟨x, t, u, rfl, _⟩ | ⟨i, rfl, _⟩ <;> rfl
  · have hr0 : Room 2 _ := hr
    refine ⟨_, (pss_cons (ps_if (pt_val (pe_callB call_isi (by rfl) B.isinstance (by decide +kernel) (pa_cons (pv 0) (pa_cons (pe_glob (v := .ref _) (by rfl) T.g rfl) pa_nil)))) (pss_one (ps_ret (pv 0))) pss_nil)
      (pss_one (ps_ret (pe_mk M1 (hr0.mono (by decide)) (pa_cons (pv 0) pa_nil))))), ?_⟩
    rcases h with ⟨x, t, u, rfl, ⟨dx, hx⟩, q⟩ | ⟨i, rfl, k⟩
    · refine ⟨_, rfl, _, _, _, _, true, rfl, .own _, T.tyX hx, kit_self _, _, rfl, iteT ?_⟩
      exact ⟨_, rfl, q⟩
    · refine ⟨_, rfl, _, _, _, _, false, rfl, .own _, .base (.int _), T.ki, _, rfl, iteF ?_⟩
      refine ⟨_, rfl, fun x dx nx ndx ne => ?_⟩
      refine ⟨x, dx, i, 1, rfl, upd_same, by decide, fun _ H' hx hk => ⟨rfl, ?_⟩, fun h => absurd h (by decide)⟩
      refine k x H' nx (made nx ndx hk) ⟨dx, ?_⟩
      rw [(n_one i).1, (n_one i).2] at hx
      exact hx
def spRatio (C : Addr) : Sp := fun vs H Q _ => ∃ (x : Addr) (t u : Int), vs = [.ref x] ∧ RatAt C H x t u ∧ Q (.bl (decide (u > 0))) H
abbrev CalRatioQ (P : Program) (w : World) (K : PySem.W.Frag) (mg : Str → Option Value) (base : Heap) (C : Addr) := Cal P w K mg base 2 "_law_ratio" ["_law_actual"] (spRatio C)
end

/-! ### numbers by their values -/
theorem n_eq {t u n m : Int} (hu : u ≠ 0) (hm : m ≠ 0) (e : t * m = n * u) : nT t u = nT n m ∧ nU t u = nU n m := by
  have c := n_cross t u
  refine n_uniq hm (nU_pos hu) (n_gcd hu) (Int.eq_of_mul_eq_mul_right hu ?_)
  grind
/-- x holds n / m -/
def RatQ (C : Addr) (H : Hp) (x : Addr) (n m : Int) : Prop := RatAt C H x (nT n m) (nU n m)
theorem RatQ.same {C : Addr} {H H' : Hp} {x : Addr} {n m : Int} (h : RatQ C H x n m) (k : Same H H') : RatQ C H' x n m := RatAt.same h k
theorem RatQ.re {C : Addr} {H : Hp} {x : Addr} {n m n' m' : Int} (h : RatQ C H x n m) (hm : m ≠ 0) (hm' : m' ≠ 0) (e : n * m' = n' * m) : RatQ C H x n' m' := by
  unfold RatQ at *
  rw [← (n_eq hm hm' e).1, ← (n_eq hm hm' e).2]
  exact h
theorem RatQ.of {C : Addr} {H : Hp} {x : Addr} {t u n m : Int} (h : RatAt C H x (nT t u) (nU t u)) (hu : u ≠ 0) (hm : m ≠ 0) (e : t * m = n * u) : RatQ C H x n m := RatQ.re (n := t) (m := u) h hu hm e
/-- v is a number of the value n / m -/
def NumQ (C : Addr) (H : Hp) (v : V) (n m : Int) : Prop := (∃ z : Int, v = .int z ∧ z * m = n) ∨ ∃ x, v = .ref x ∧ RatQ C H x n m
theorem NumQ.same {C : Addr} {H H' : Hp} {v : V} {n m : Int} (h : NumQ C H v n m) (k : Same H H') : NumQ C H' v n m := by
  rcases h with h | ⟨x, e, h⟩
  · exact .inl h
  · exact .inr ⟨x, e, h.same k⟩
theorem NumQ.re {C : Addr} {H : Hp} {v : V} {n m n' m' : Int} (h : NumQ C H v n m) (hm : m ≠ 0) (hm' : m' ≠ 0) (e : n * m' = n' * m) : NumQ C H v n' m' := by
  rcases h with ⟨z, ev, ez⟩ | ⟨x, ev, hx⟩
  · refine .inl ⟨z, ev, Int.eq_of_mul_eq_mul_right hm ?_⟩
    rw [← e, ← ez]
    grind
  · exact .inr ⟨x, ev, hx.re hm hm' e⟩
section
variable {P : Program} {w : World} {K : PySem.W.Frag} {mg : Str → Option Value} {base : Heap}

def Num (C : Addr) (H : Hp) (v : V) (t u : Int) : Prop := (v = .int t ∧ u = 1) ∨ ∃ x, v = .ref x ∧ RatAt C H x t u
theorem Num.same {C : Addr} {H H' : Hp} {v : V} {t u : Int} (h : Num C H v t u) (k : Same H H') : Num C H' v t u := by
  rcases h with h | ⟨x, e, h⟩
  · exact .inl h
  · exact .inr ⟨x, e, h.same k⟩
def spIsNum (C : Addr) : Sp := fun vs H Q _ => ∃ (v : V) (t u : Int), vs = [v] ∧ Num C H v t u ∧ Q (.bl true) H
abbrev CalIsNum (P : Program) (w : World) (K : PySem.W.Frag) (mg : Str → Option Value) (base : Heap) (C : Addr) := Cal P w K mg base 1 "is_number" ["value"] (spIsNum C)
theorem ok_is_number {C : Addr} (B : Blt mg) (T : RatC K mg C) (kci : PySem.W.kitOne K (.ref C) (.type "int") = some false) (D : Dfn K mg "is_number" "is_number" s_is_number ["value"]) : CalIsNum P w K mg base C := by
  refine D.cal sc_is_number (fun vs H Q E h => ?_) (fun fA cdv A outer st H vs Q E hr h => ?_)
  · obtain ⟨v, t, u, rfl, _⟩ := h
    rfl
  · obtain ⟨v, t, u, rfl, hv, q⟩ := h
    refine ⟨_, (pss_one (ps_ret ((pe_or (pe_callB call_isi (by rfl) B.isinstance (by decide +kernel) (pa_cons (pv 0) (pa_cons (pe_bltn (v := .ty "int") (by rfl) B.int (by decide +kernel) rfl) pa_nil))) (pe_one (pe_callB call_isi (by rfl) B.isinstance (by decide +kernel) (pa_cons (pv 0) (pa_cons (pe_glob (v := .ref _) (by rfl) T.g rfl) pa_nil)))))))), ?_⟩
    rcases hv with ⟨rfl, _⟩ | ⟨x, rfl, dx, hx⟩
    · refine ⟨_, rfl, _, _, _, _, true, rfl, .ty _, .base (.int _), kit_ty (by decide +kernel), _, rfl, iteT q⟩
    · refine ⟨_, rfl, _, _, _, _, false, rfl, .ty _, T.tyX hx, kci, _, rfl, iteF ?_⟩
      exact ⟨_, rfl, _, _, _, _, true, rfl, .own _, T.tyX hx, kit_self _, q⟩

def spTopOf (C : Addr) : Sp := fun vs H Q _ => ∃ (v : V) (t u : Int), vs = [v] ∧ Num C H v t u ∧ Q (.int t) H
abbrev CalTopOf (P : Program) (w : World) (K : PySem.W.Frag) (mg : Str → Option Value) (base : Heap) (C : Addr) := Cal P w K mg base 1 "_top_of" ["number"] (spTopOf C)
theorem ok_top_of {C : Addr} (B : Blt mg) (T : RatC K mg C) (D : Dfn K mg "_top_of" "_top_of" s_top_of ["number"]) : CalTopOf P w K mg base C := by
  refine D.cal sc_top_of (fun vs H Q E h => ?_) (fun fA cdv A outer st H vs Q E hr h => ?_)
  · obtain ⟨v, t, u, rfl, _⟩ := h
    rfl
  · obtain ⟨v, t, u, rfl, hv, q⟩ := h
    refine ⟨_, (pss_one (ps_ret (pe_ifExp (pt_val (pe_callB call_isi (by rfl) B.isinstance (by decide +kernel) (pa_cons (pv 0) (pa_cons (pe_glob (v := .ref _) (by rfl) T.g rfl) pa_nil)))) (pe_fld (pv 0) rfl) (pv 0)))), ?_⟩
    rcases hv with ⟨rfl, rfl⟩ | ⟨x, rfl, dx, hx⟩
    · refine ⟨_, rfl, _, _, _, _, false, rfl, .own _, .base (.int _), T.ki, _, rfl, iteF ?_⟩
      exact ⟨_, rfl, q⟩
    · refine ⟨_, rfl, _, _, _, _, true, rfl, .own _, T.tyX hx, kit_self _, _, rfl, iteT ?_⟩
      exact ⟨_, rfl, x, C, dx, _, _, rfl, hx, T.cl, T.nT, rf_top _ _, q⟩

def spUnderOf (C : Addr) : Sp := fun vs H Q _ => ∃ (v : V) (t u : Int), vs = [v] ∧ Num C H v t u ∧ Q (.int u) H
abbrev CalUnderOf (P : Program) (w : World) (K : PySem.W.Frag) (mg : Str → Option Value) (base : Heap) (C : Addr) := Cal P w K mg base 1 "_under_of" ["number"] (spUnderOf C)
theorem ok_under_of {C : Addr} (B : Blt mg) (T : RatC K mg C) (D : Dfn K mg "_under_of" "_under_of" s_under_of ["number"]) : CalUnderOf P w K mg base C := by
  refine D.cal sc_under_of (fun vs H Q E h => ?_) (fun fA cdv A outer st H vs Q E hr h => ?_)
  · obtain ⟨v, t, u, rfl, _⟩ := h
    rfl
  · obtain ⟨v, t, u, rfl, hv, q⟩ := h
    refine ⟨_, (pss_one (ps_ret (pe_ifExp (pt_val (pe_callB call_isi (by rfl) B.isinstance (by decide +kernel) (pa_cons (pv 0) (pa_cons (pe_glob (v := .ref _) (by rfl) T.g rfl) pa_nil)))) (pe_fld (pv 0) rfl) (pe_int)))), ?_⟩
    rcases hv with ⟨rfl, rfl⟩ | ⟨x, rfl, dx, hx⟩
    · refine ⟨_, rfl, _, _, _, _, false, rfl, .own _, .base (.int _), T.ki, _, rfl, iteF ?_⟩
      exact q
    · refine ⟨_, rfl, _, _, _, _, true, rfl, .own _, T.tyX hx, kit_self _, _, rfl, iteT ?_⟩
      exact ⟨_, rfl, x, C, dx, _, _, rfl, hx, T.cl, T.nU, rf_under _ _, q⟩

theorem wm {i j : Int} (h1 : i.natAbs < 2 ^ 4400) (h2 : j.natAbs < 2 ^ 4400) : CMulW i j := wide_mul h1 h2 (by decide) (by decide) (by decide)
theorem wu {i j : Int} (h1 : i.natAbs < 2 ^ 4400) (h2 : j.natAbs < 2 ^ 4400) : (i * j).natAbs < 2 ^ 8800 := Nat.lt_of_lt_of_le (wide_lt h1 h2) (Nat.pow_le_pow_right (by decide) (by decide))
structure Sm (a b t u : Int) : Prop where
  sa : a.natAbs < 2 ^ 4400
  sb : b.natAbs < 2 ^ 4400
  st : t.natAbs < 2 ^ 4400
  su : u.natAbs < 2 ^ 4400
  bp : 0 < b
  up : 0 < u
def spAr (C : Addr) (f g : Int → Int → Int → Int → Int) : Sp := fun vs H Q _ => ∃ (x : Addr) (v : V) (a b t u : Int), vs = [.ref x, v] ∧ RatAt C H x a b ∧ Num C H v t u ∧ Sm a b t u ∧ ∀ (z : Addr) (H' : Hp), Same H H' → RatAt C H' z (nT (f a b t u) (g a b t u)) (nU (f a b t u) (g a b t u)) → Q (.ref z) H'
def spArR (C : Addr) (f g : Int → Int → Int → Int) : Sp := fun vs H Q _ => ∃ (x : Addr) (n a b : Int), vs = [.ref x, .int n] ∧ RatAt C H x a b ∧ Sm a b n 1 ∧ ∀ (z : Addr) (H' : Hp), Same H H' → RatAt C H' z (nT (f a b n) (g a b n)) (nU (f a b n) (g a b n)) → Q (.ref z) H'

theorem ok_add {C ZU fA : Addr} {fd : FuncData} (T : RatC K mg C) (C_is_number : CalIsNum P w K mg base C) (C_top_of : CalTopOf P w K mg base C) (C_under_of : CalUnderOf P w K mg base C) (M2 : CalRatio P w K mg base C ZU []) (F : Fun K "__add__" "Ratio.__add__" s_Ratio_add fA fd) : FnOk P w K mg base CX0 3 fA fd ["self", "other"] (spAr C (fun a b t u => a * u + t * b) (fun a b t u => b * u)) := by
  refine F.ok sc_Ratio_add (fun vs H Q E h => ?_) (fun cdv A outer st H vs Q E hr h => ?_)
  · obtain ⟨x, v, a, b, t, u, rfl, _⟩ := h
    rfl
  · obtain ⟨x, v, a, b, t, u, rfl, ⟨dx, hx⟩, hv, sm, k⟩ := h
    have bu : b * u ≠ 0 := Int.ne_of_gt (Int.mul_pos sm.bp sm.up)
    refine ⟨_, (pss_cons (ps_if (pt_not (pt_val (pe_cal C_is_number (hr.mono (by decide)) (pa_cons (pv 1) pa_nil)))) (pss_one (ps_never)) pss_nil)
      (pss_cons (ps_set (i := 2) sc_Ratio_add.nd rfl (Or.inl rfl) (pe_op op_add (pe_op op_mulW (pe_fld (pv 0) rfl) (pe_cal C_under_of (hr.mono (by decide)) (pa_cons (pv 1) pa_nil))) (pe_op op_mulW (pe_cal C_top_of (hr.mono (by decide)) (pa_cons (pv 1) pa_nil)) (pe_fld (pv 0) rfl))))
      (pss_one (ps_ret (pe_mk M2 (hr.mono (by decide)) (pa_cons (pv 2) (pa_cons (pe_op op_mulW (pe_fld (pv 0) rfl) (pe_cal C_under_of (hr.mono (by decide)) (pa_cons (pv 1) pa_nil))) pa_nil))))))), ?_⟩
    refine ⟨_, rfl, v, t, u, rfl, hv, _, rfl, iteF ?_⟩
    refine ⟨_, rfl, x, C, dx, _, _, rfl, hx, T.cl, T.nT, rf_top _ _, ?_⟩
    refine ⟨_, rfl, v, t, u, rfl, hv, _, _, rfl, rfl, wm sm.sa sm.su, ?_⟩
    refine ⟨_, rfl, v, t, u, rfl, hv, ?_⟩
    refine ⟨_, rfl, x, C, dx, _, _, rfl, hx, T.cl, T.nU, rf_under _ _, _, _, rfl, rfl, wm sm.st sm.sb, _, _, rfl, rfl, ?_⟩
    refine ⟨_, rfl, _, rfl, x, C, dx, _, _, rfl, hx, T.cl, T.nU, rf_under _ _, ?_⟩
    refine ⟨_, rfl, v, t, u, rfl, hv, _, _, rfl, rfl, wm sm.sb sm.su, ?_⟩
    refine fun z dz nz ndz ne => ?_
    exact ⟨z, dz, _, b * u, rfl, upd_same, ub (wu sm.sb sm.su) (by decide), fun _ H' hz hk => ⟨rfl, k z H' (made nz ndz hk) ⟨dz, hz⟩⟩, fun h => absurd h bu⟩

theorem ok_sub {C ZU fA : Addr} {fd : FuncData} (T : RatC K mg C) (C_is_number : CalIsNum P w K mg base C) (C_top_of : CalTopOf P w K mg base C) (C_under_of : CalUnderOf P w K mg base C) (M2 : CalRatio P w K mg base C ZU []) (F : Fun K "__sub__" "Ratio.__sub__" s_Ratio_sub fA fd) : FnOk P w K mg base CX0 3 fA fd ["self", "other"] (spAr C (fun a b t u => a * u - t * b) (fun a b t u => b * u)) := by
  refine F.ok sc_Ratio_sub (fun vs H Q E h => ?_) (fun cdv A outer st H vs Q E hr h => ?_)
  · obtain ⟨x, v, a, b, t, u, rfl, _⟩ := h
    rfl
  · obtain ⟨x, v, a, b, t, u, rfl, ⟨dx, hx⟩, hv, sm, k⟩ := h
    have bu : b * u ≠ 0 := Int.ne_of_gt (Int.mul_pos sm.bp sm.up)
    refine ⟨_, (pss_cons (ps_if (pt_not (pt_val (pe_cal C_is_number (hr.mono (by decide)) (pa_cons (pv 1) pa_nil)))) (pss_one (ps_never)) pss_nil)
      (pss_cons (ps_set (i := 2) sc_Ratio_sub.nd rfl (Or.inl rfl) (pe_op op_sub (pe_op op_mulW (pe_fld (pv 0) rfl) (pe_cal C_under_of (hr.mono (by decide)) (pa_cons (pv 1) pa_nil))) (pe_op op_mulW (pe_cal C_top_of (hr.mono (by decide)) (pa_cons (pv 1) pa_nil)) (pe_fld (pv 0) rfl))))
      (pss_one (ps_ret (pe_mk M2 (hr.mono (by decide)) (pa_cons (pv 2) (pa_cons (pe_op op_mulW (pe_fld (pv 0) rfl) (pe_cal C_under_of (hr.mono (by decide)) (pa_cons (pv 1) pa_nil))) pa_nil))))))), ?_⟩
    refine ⟨_, rfl, v, t, u, rfl, hv, _, rfl, iteF ?_⟩
    refine ⟨_, rfl, x, C, dx, _, _, rfl, hx, T.cl, T.nT, rf_top _ _, ?_⟩
    refine ⟨_, rfl, v, t, u, rfl, hv, _, _, rfl, rfl, wm sm.sa sm.su, ?_⟩
    refine ⟨_, rfl, v, t, u, rfl, hv, ?_⟩
    refine ⟨_, rfl, x, C, dx, _, _, rfl, hx, T.cl, T.nU, rf_under _ _, _, _, rfl, rfl, wm sm.st sm.sb, _, _, rfl, rfl, ?_⟩
    refine ⟨_, rfl, _, rfl, x, C, dx, _, _, rfl, hx, T.cl, T.nU, rf_under _ _, ?_⟩
    refine ⟨_, rfl, v, t, u, rfl, hv, _, _, rfl, rfl, wm sm.sb sm.su, ?_⟩
    refine fun z dz nz ndz ne => ?_
    exact ⟨z, dz, _, b * u, rfl, upd_same, ub (wu sm.sb sm.su) (by decide), fun _ H' hz hk => ⟨rfl, k z H' (made nz ndz hk) ⟨dz, hz⟩⟩, fun h => absurd h bu⟩

theorem ok_mul {C ZU fA : Addr} {fd : FuncData} (T : RatC K mg C) (C_is_number : CalIsNum P w K mg base C) (C_top_of : CalTopOf P w K mg base C) (C_under_of : CalUnderOf P w K mg base C) (M2 : CalRatio P w K mg base C ZU []) (F : Fun K "__mul__" "Ratio.__mul__" s_Ratio_mul fA fd) : FnOk P w K mg base CX0 3 fA fd ["self", "other"] (spAr C (fun a b t u => a * t) (fun a b t u => b * u)) := by
  refine F.ok sc_Ratio_mul (fun vs H Q E h => ?_) (fun cdv A outer st H vs Q E hr h => ?_)
  · obtain ⟨x, v, a, b, t, u, rfl, _⟩ := h
    rfl
  · obtain ⟨x, v, a, b, t, u, rfl, ⟨dx, hx⟩, hv, sm, k⟩ := h
    have bu : b * u ≠ 0 := Int.ne_of_gt (Int.mul_pos sm.bp sm.up)
    refine ⟨_, (pss_cons (ps_if (pt_not (pt_val (pe_cal C_is_number (hr.mono (by decide)) (pa_cons (pv 1) pa_nil)))) (pss_one (ps_never)) pss_nil)
      (pss_one (ps_ret (pe_mk M2 (hr.mono (by decide)) (pa_cons (pe_op op_mulW (pe_fld (pv 0) rfl) (pe_cal C_top_of (hr.mono (by decide)) (pa_cons (pv 1) pa_nil))) (pa_cons (pe_op op_mulW (pe_fld (pv 0) rfl) (pe_cal C_under_of (hr.mono (by decide)) (pa_cons (pv 1) pa_nil))) pa_nil)))))), ?_⟩
    refine ⟨_, rfl, v, t, u, rfl, hv, _, rfl, iteF ?_⟩
    refine ⟨_, rfl, x, C, dx, _, _, rfl, hx, T.cl, T.nT, rf_top _ _, ?_⟩
    refine ⟨_, rfl, v, t, u, rfl, hv, _, _, rfl, rfl, wm sm.sa sm.st, ?_⟩
    refine ⟨_, rfl, x, C, dx, _, _, rfl, hx, T.cl, T.nU, rf_under _ _, ?_⟩
    refine ⟨_, rfl, v, t, u, rfl, hv, _, _, rfl, rfl, wm sm.sb sm.su, ?_⟩
    refine fun z dz nz ndz ne => ?_
    exact ⟨z, dz, _, b * u, rfl, upd_same, ub (wu sm.sb sm.su) (by decide), fun _ H' hz hk => ⟨rfl, k z H' (made nz ndz hk) ⟨dz, hz⟩⟩, fun h => absurd h bu⟩

theorem ok_radd {C fA : Addr} {fd : FuncData} (T : RatC K mg C) (hSF : PySem.W.selfFirst K C = true) (C_is_number : CalIsNum P w K mg base C) (C_as_ratio : CalAsRatio P w K mg base C) (OP : OpOwn P w K mg base 3 C (PySem.dunder (Operator.info .Add).2) ["self", "other"] (spAr C (fun a b t u => a * u + t * b) (fun a b t u => b * u))) (F : Fun K "__radd__" "Ratio.__radd__" s_Ratio_radd fA fd) : FnOk P w K mg base CX0 4 fA fd ["self", "other"] (spArR C (fun a b n => n * b + a * 1) (fun a b n => 1 * b)) := by
  refine F.ok sc_Ratio_radd (fun vs H Q E h => ?_) (fun cdv A outer st H vs Q E hr h => ?_)
  · obtain ⟨x, n, a, b, rfl, _⟩ := h
    rfl
  · obtain ⟨x, n, a, b, rfl, ⟨dx, hx⟩, sm, k⟩ := h
    refine ⟨_, (pss_cons (ps_if (pt_not (pt_val (pe_cal C_is_number (hr.mono (by decide)) (pa_cons (pv 1) pa_nil)))) (pss_one (ps_never)) pss_nil)
      (pss_one (ps_ret (pe_op (op_oo (op := .Add) OP hSF (hr.mono (by decide))) (pe_cal C_as_ratio (hr.mono (by decide)) (pa_cons (pv 1) pa_nil)) (pv 0))))), ?_⟩
    refine ⟨_, rfl, .int n, n, 1, rfl, .inl ⟨rfl, rfl⟩, _, rfl, iteF ?_⟩
    refine ⟨_, rfl, .inr ⟨n, rfl, fun y H1 ny s1 hy => ?_⟩⟩
    obtain ⟨dy, hy⟩ := hy
    refine ⟨_, rfl, y, dy, _, x, dx, _, rfl, hy, rfl, s1 _ _ hx, ?_⟩
    exact ⟨y, .ref x, n, 1, a, b, rfl, ⟨dy, hy⟩, .inr ⟨x, rfl, dx, s1 _ _ hx⟩, ⟨sm.st, by decide, sm.sa, sm.sb, by decide, sm.bp⟩, fun z H2 s2 hz => ⟨z, rfl, k z H2 (s1.trans s2) hz⟩⟩

theorem ok_rsub {C fA : Addr} {fd : FuncData} (T : RatC K mg C) (hSF : PySem.W.selfFirst K C = true) (C_is_number : CalIsNum P w K mg base C) (C_as_ratio : CalAsRatio P w K mg base C) (OP : OpOwn P w K mg base 3 C (PySem.dunder (Operator.info .Sub).2) ["self", "other"] (spAr C (fun a b t u => a * u - t * b) (fun a b t u => b * u))) (F : Fun K "__rsub__" "Ratio.__rsub__" s_Ratio_rsub fA fd) : FnOk P w K mg base CX0 4 fA fd ["self", "other"] (spArR C (fun a b n => n * b - a * 1) (fun a b n => 1 * b)) := by
  refine F.ok sc_Ratio_rsub (fun vs H Q E h => ?_) (fun cdv A outer st H vs Q E hr h => ?_)
  · obtain ⟨x, n, a, b, rfl, _⟩ := h
    rfl
  · obtain ⟨x, n, a, b, rfl, ⟨dx, hx⟩, sm, k⟩ := h
    refine ⟨_, (pss_cons (ps_if (pt_not (pt_val (pe_cal C_is_number (hr.mono (by decide)) (pa_cons (pv 1) pa_nil)))) (pss_one (ps_never)) pss_nil)
      (pss_one (ps_ret (pe_op (op_oo (op := .Sub) OP hSF (hr.mono (by decide))) (pe_cal C_as_ratio (hr.mono (by decide)) (pa_cons (pv 1) pa_nil)) (pv 0))))), ?_⟩
    refine ⟨_, rfl, .int n, n, 1, rfl, .inl ⟨rfl, rfl⟩, _, rfl, iteF ?_⟩
    refine ⟨_, rfl, .inr ⟨n, rfl, fun y H1 ny s1 hy => ?_⟩⟩
    obtain ⟨dy, hy⟩ := hy
    refine ⟨_, rfl, y, dy, _, x, dx, _, rfl, hy, rfl, s1 _ _ hx, ?_⟩
    exact ⟨y, .ref x, n, 1, a, b, rfl, ⟨dy, hy⟩, .inr ⟨x, rfl, dx, s1 _ _ hx⟩, ⟨sm.st, by decide, sm.sa, sm.sb, by decide, sm.bp⟩, fun z H2 s2 hz => ⟨z, rfl, k z H2 (s1.trans s2) hz⟩⟩

theorem ok_rmul {C fA : Addr} {fd : FuncData} (T : RatC K mg C) (hSF : PySem.W.selfFirst K C = true) (C_is_number : CalIsNum P w K mg base C) (C_as_ratio : CalAsRatio P w K mg base C) (OP : OpOwn P w K mg base 3 C (PySem.dunder (Operator.info .Mult).2) ["self", "other"] (spAr C (fun a b t u => a * t) (fun a b t u => b * u))) (F : Fun K "__rmul__" "Ratio.__rmul__" s_Ratio_rmul fA fd) : FnOk P w K mg base CX0 4 fA fd ["self", "other"] (spArR C (fun a b n => n * a) (fun a b n => 1 * b)) := by
  refine F.ok sc_Ratio_rmul (fun vs H Q E h => ?_) (fun cdv A outer st H vs Q E hr h => ?_)
  · obtain ⟨x, n, a, b, rfl, _⟩ := h
    rfl
  · obtain ⟨x, n, a, b, rfl, ⟨dx, hx⟩, sm, k⟩ := h
    refine ⟨_, (pss_cons (ps_if (pt_not (pt_val (pe_cal C_is_number (hr.mono (by decide)) (pa_cons (pv 1) pa_nil)))) (pss_one (ps_never)) pss_nil)
      (pss_one (ps_ret (pe_op (op_oo (op := .Mult) OP hSF (hr.mono (by decide))) (pe_cal C_as_ratio (hr.mono (by decide)) (pa_cons (pv 1) pa_nil)) (pv 0))))), ?_⟩
    refine ⟨_, rfl, .int n, n, 1, rfl, .inl ⟨rfl, rfl⟩, _, rfl, iteF ?_⟩
    refine ⟨_, rfl, .inr ⟨n, rfl, fun y H1 ny s1 hy => ?_⟩⟩
    obtain ⟨dy, hy⟩ := hy
    refine ⟨_, rfl, y, dy, _, x, dx, _, rfl, hy, rfl, s1 _ _ hx, ?_⟩
    exact ⟨y, .ref x, n, 1, a, b, rfl, ⟨dy, hy⟩, .inr ⟨x, rfl, dx, s1 _ _ hx⟩, ⟨sm.st, by decide, sm.sa, sm.sb, by decide, sm.bp⟩, fun z H2 s2 hz => ⟨z, rfl, k z H2 (s1.trans s2) hz⟩⟩

def spNeg (C : Addr) : Sp := fun vs H Q _ => ∃ (x : Addr) (a b : Int), vs = [.ref x] ∧ RatAt C H x a b ∧ 0 < b ∧ b.natAbs < 2 ^ 4400 ∧ ∀ (z : Addr) (H' : Hp), Same H H' → RatAt C H' z (nT (-a) b) (nU (-a) b) → Q (.ref z) H'
theorem ok_neg {C ZU fA : Addr} {fd : FuncData} (B : Blt mg) (T : RatC K mg C) (M2 : CalRatio P w K mg base C ZU []) (F : Fun K "__neg__" "Ratio.__neg__" s_Ratio_neg fA fd) : FnOk P w K mg base CX0 3 fA fd ["self"] (spNeg C) := by
  refine F.ok sc_Ratio_neg (fun vs H Q E h => ?_) (fun cdv A outer st H vs Q E hr h => ?_)
  · obtain ⟨x, a, b, rfl, _⟩ := h
    rfl
  · obtain ⟨x, a, b, rfl, ⟨dx, hx⟩, bp, hb, k⟩ := h
    refine ⟨_, (pss_one (ps_ret (pe_mk M2 (hr.mono (by decide)) (pa_cons (pe_un un_neg (pe_fld (pv 0) rfl)) (pa_cons (pe_fld (pv 0) rfl) pa_nil))))), ?_⟩
    refine ⟨_, rfl, x, C, dx, _, _, rfl, hx, T.cl, T.nT, rf_top _ _, _, rfl, ?_⟩
    refine ⟨_, rfl, x, C, dx, _, _, rfl, hx, T.cl, T.nU, rf_under _ _, ?_⟩
    refine fun z dz nz ndz ne => ?_
    exact ⟨z, dz, _, b, rfl, upd_same, ub hb (by decide), fun _ H' hz hk => ⟨rfl, k z H' (made nz ndz hk) ⟨dz, hz⟩⟩, fun h => absurd h (by omega)⟩

def spAbs (C : Addr) : Sp := fun vs H Q _ => ∃ (x : Addr) (a b : Int), vs = [.ref x] ∧ RatAt C H x a b ∧ 0 < b ∧ b.natAbs < 2 ^ 4400 ∧ ∀ (z : Addr) (H' : Hp), Same H H' → RatAt C H' z (nT (if a < 0 then -a else a) b) (nU (if a < 0 then -a else a) b) → Q (.ref z) H'
theorem ok_abs {C ZU fA : Addr} {fd : FuncData} (B : Blt mg) (T : RatC K mg C) (M2 : CalRatio P w K mg base C ZU []) (F : Fun K "__abs__" "Ratio.__abs__" s_Ratio_abs fA fd) : FnOk P w K mg base CX0 3 fA fd ["self"] (spAbs C) := by
  refine F.ok sc_Ratio_abs (fun vs H Q E h => ?_) (fun cdv A outer st H vs Q E hr h => ?_)
  · obtain ⟨x, a, b, rfl, _⟩ := h
    rfl
  · obtain ⟨x, a, b, rfl, ⟨dx, hx⟩, bp, hb, k⟩ := h
    refine ⟨_, (pss_one (ps_ret (pe_mk M2 (hr.mono (by decide)) (pa_cons (pe_callB call_abs (by rfl) B.abs (by decide +kernel) (pa_cons (pe_fld (pv 0) rfl) pa_nil)) (pa_cons (pe_fld (pv 0) rfl) pa_nil))))), ?_⟩
    refine ⟨_, rfl, x, C, dx, _, _, rfl, hx, T.cl, T.nT, rf_top _ _, _, rfl, ?_⟩
    refine ⟨_, rfl, x, C, dx, _, _, rfl, hx, T.cl, T.nU, rf_under _ _, ?_⟩
    refine fun z dz nz ndz ne => ?_
    exact ⟨z, dz, _, b, rfl, upd_same, ub hb (by decide), fun _ H' hz hk => ⟨rfl, k z H' (made nz ndz hk) ⟨dz, hz⟩⟩, fun h => absurd h (by omega)⟩

/-! ### order -/
def spCmp (C : Addr) (f : Int → Int → Bool) : Sp := fun vs H Q _ => ∃ (x : Addr) (v : V) (a b t u : Int), vs = [.ref x, v] ∧ RatAt C H x a b ∧ Num C H v t u ∧ Sm a b t u ∧ Q (.bl (f (a * u) (t * b))) H
theorem ok_lt {C fA : Addr} {fd : FuncData} (T : RatC K mg C) (C_is_number : CalIsNum P w K mg base C) (C_top_of : CalTopOf P w K mg base C) (C_under_of : CalUnderOf P w K mg base C) (F : Fun K "__lt__" "Ratio.__lt__" s_Ratio_lt fA fd) : FnOk P w K mg base CX0 2 fA fd ["self", "other"] (spCmp C fun i j => decide (i < j)) := by
  refine F.ok sc_Ratio_lt (fun vs H Q E h => ?_) (fun cdv A outer st H vs Q E hr h => ?_)
  · obtain ⟨x, v, a, b, t, u, rfl, _⟩ := h
    rfl
  · obtain ⟨x, v, a, b, t, u, rfl, ⟨dx, hx⟩, hv, sm, q⟩ := h
    have W := (Al.nil (H := H)).got hx
    refine ⟨_, (pss_cons (ps_if (pt_not (pt_val (pe_cal C_is_number (hr.mono (by decide)) (pa_cons (pv 1) pa_nil)))) (pss_one (ps_never)) pss_nil)
      (pss_one (ps_ret (pe_cmpR op_lt (pe_op op_mulW (pe_fld (pv 0) rfl) (pe_cal C_under_of (hr.mono (by decide)) (pa_cons (pv 1) pa_nil))) (pe_op op_mulW (pe_cal C_top_of (hr.mono (by decide)) (pa_cons (pv 1) pa_nil)) (pe_fld (pv 0) rfl)) (nomark _))))), ?_⟩
    refine ⟨_, rfl, v, t, u, rfl, hv, _, rfl, iteF ?_⟩
    exact ⟨_, rfl, x, C, dx, _, _, rfl, (W.at (List.Mem.head _)), T.cl, T.nT, rf_top _ _, _, rfl, v, t, u, rfl, hv, _, _, rfl, rfl, wide_mul sm.sa sm.su (by decide) (by decide) (by decide), _, rfl, v, t, u, rfl, hv, _, rfl, x, C, dx, _, _, rfl, (W.at (List.Mem.head _)), T.cl, T.nU, rf_under _ _, _, _, rfl, rfl, wide_mul sm.st sm.sb (by decide) (by decide) (by decide), _, _, rfl, rfl, q⟩
theorem ok_le {C fA : Addr} {fd : FuncData} (T : RatC K mg C) (C_is_number : CalIsNum P w K mg base C) (C_top_of : CalTopOf P w K mg base C) (C_under_of : CalUnderOf P w K mg base C) (F : Fun K "__le__" "Ratio.__le__" s_Ratio_le fA fd) : FnOk P w K mg base CX0 2 fA fd ["self", "other"] (spCmp C fun i j => decide (i ≤ j)) := by
  refine F.ok sc_Ratio_le (fun vs H Q E h => ?_) (fun cdv A outer st H vs Q E hr h => ?_)
  · obtain ⟨x, v, a, b, t, u, rfl, _⟩ := h
    rfl
  · obtain ⟨x, v, a, b, t, u, rfl, ⟨dx, hx⟩, hv, sm, q⟩ := h
    have W := (Al.nil (H := H)).got hx
    refine ⟨_, (pss_cons (ps_if (pt_not (pt_val (pe_cal C_is_number (hr.mono (by decide)) (pa_cons (pv 1) pa_nil)))) (pss_one (ps_never)) pss_nil)
      (pss_one (ps_ret (pe_cmpR op_le (pe_op op_mulW (pe_fld (pv 0) rfl) (pe_cal C_under_of (hr.mono (by decide)) (pa_cons (pv 1) pa_nil))) (pe_op op_mulW (pe_cal C_top_of (hr.mono (by decide)) (pa_cons (pv 1) pa_nil)) (pe_fld (pv 0) rfl)) (nomark _))))), ?_⟩
    refine ⟨_, rfl, v, t, u, rfl, hv, _, rfl, iteF ?_⟩
    exact ⟨_, rfl, x, C, dx, _, _, rfl, (W.at (List.Mem.head _)), T.cl, T.nT, rf_top _ _, _, rfl, v, t, u, rfl, hv, _, _, rfl, rfl, wide_mul sm.sa sm.su (by decide) (by decide) (by decide), _, rfl, v, t, u, rfl, hv, _, rfl, x, C, dx, _, _, rfl, (W.at (List.Mem.head _)), T.cl, T.nU, rf_under _ _, _, _, rfl, rfl, wide_mul sm.st sm.sb (by decide) (by decide) (by decide), _, _, rfl, rfl, q⟩
theorem ok_gt {C fA : Addr} {fd : FuncData} (T : RatC K mg C) (C_is_number : CalIsNum P w K mg base C) (C_top_of : CalTopOf P w K mg base C) (C_under_of : CalUnderOf P w K mg base C) (F : Fun K "__gt__" "Ratio.__gt__" s_Ratio_gt fA fd) : FnOk P w K mg base CX0 2 fA fd ["self", "other"] (spCmp C fun i j => decide (i > j)) := by
  refine F.ok sc_Ratio_gt (fun vs H Q E h => ?_) (fun cdv A outer st H vs Q E hr h => ?_)
  · obtain ⟨x, v, a, b, t, u, rfl, _⟩ := h
    rfl
  · obtain ⟨x, v, a, b, t, u, rfl, ⟨dx, hx⟩, hv, sm, q⟩ := h
    have W := (Al.nil (H := H)).got hx
    refine ⟨_, (pss_cons (ps_if (pt_not (pt_val (pe_cal C_is_number (hr.mono (by decide)) (pa_cons (pv 1) pa_nil)))) (pss_one (ps_never)) pss_nil)
      (pss_one (ps_ret (pe_cmpR op_gt (pe_op op_mulW (pe_fld (pv 0) rfl) (pe_cal C_under_of (hr.mono (by decide)) (pa_cons (pv 1) pa_nil))) (pe_op op_mulW (pe_cal C_top_of (hr.mono (by decide)) (pa_cons (pv 1) pa_nil)) (pe_fld (pv 0) rfl)) (nomark _))))), ?_⟩
    refine ⟨_, rfl, v, t, u, rfl, hv, _, rfl, iteF ?_⟩
    exact ⟨_, rfl, x, C, dx, _, _, rfl, (W.at (List.Mem.head _)), T.cl, T.nT, rf_top _ _, _, rfl, v, t, u, rfl, hv, _, _, rfl, rfl, wide_mul sm.sa sm.su (by decide) (by decide) (by decide), _, rfl, v, t, u, rfl, hv, _, rfl, x, C, dx, _, _, rfl, (W.at (List.Mem.head _)), T.cl, T.nU, rf_under _ _, _, _, rfl, rfl, wide_mul sm.st sm.sb (by decide) (by decide) (by decide), _, _, rfl, rfl, q⟩
theorem ok_ge {C fA : Addr} {fd : FuncData} (T : RatC K mg C) (C_is_number : CalIsNum P w K mg base C) (C_top_of : CalTopOf P w K mg base C) (C_under_of : CalUnderOf P w K mg base C) (F : Fun K "__ge__" "Ratio.__ge__" s_Ratio_ge fA fd) : FnOk P w K mg base CX0 2 fA fd ["self", "other"] (spCmp C fun i j => decide (i ≥ j)) := by
  refine F.ok sc_Ratio_ge (fun vs H Q E h => ?_) (fun cdv A outer st H vs Q E hr h => ?_)
  · obtain ⟨x, v, a, b, t, u, rfl, _⟩ := h
    rfl
  · obtain ⟨x, v, a, b, t, u, rfl, ⟨dx, hx⟩, hv, sm, q⟩ := h
    have W := (Al.nil (H := H)).got hx
    refine ⟨_, (pss_cons (ps_if (pt_not (pt_val (pe_cal C_is_number (hr.mono (by decide)) (pa_cons (pv 1) pa_nil)))) (pss_one (ps_never)) pss_nil)
      (pss_one (ps_ret (pe_cmpR op_ge (pe_op op_mulW (pe_fld (pv 0) rfl) (pe_cal C_under_of (hr.mono (by decide)) (pa_cons (pv 1) pa_nil))) (pe_op op_mulW (pe_cal C_top_of (hr.mono (by decide)) (pa_cons (pv 1) pa_nil)) (pe_fld (pv 0) rfl)) (nomark _))))), ?_⟩
    refine ⟨_, rfl, v, t, u, rfl, hv, _, rfl, iteF ?_⟩
    exact ⟨_, rfl, x, C, dx, _, _, rfl, (W.at (List.Mem.head _)), T.cl, T.nT, rf_top _ _, _, rfl, v, t, u, rfl, hv, _, _, rfl, rfl, wide_mul sm.sa sm.su (by decide) (by decide) (by decide), _, rfl, v, t, u, rfl, hv, _, rfl, x, C, dx, _, _, rfl, (W.at (List.Mem.head _)), T.cl, T.nU, rf_under _ _, _, _, rfl, rfl, wide_mul sm.st sm.sb (by decide) (by decide) (by decide), _, _, rfl, rfl, q⟩

theorem eqv {Q : VK} {H : Hp} {a b : Int} {p : Prop} [Decidable p] (h : p ↔ a = b) (q : Q (.bl (decide p)) H) : Q (.bl (decide (V.int a = V.int b))) H := by
  by_cases e : a = b
  · rw [decide_eq_true (h.2 e)] at q
    rw [decide_eq_true (show V.int a = V.int b by rw [e])]
    exact q
  · rw [decide_eq_false (fun z => e (h.1 z))] at q
    rw [decide_eq_false (show ¬ V.int a = V.int b from fun z => e (V.int.inj z))]
    exact q
def spEqR (K : PySem.W.Frag) (C : Addr) : Sp := fun vs H Q _ => (∃ (x : Addr) (v : V) (a b t u : Int), vs = [.ref x, v] ∧ RatAt C H x a b ∧ Num C H v t u ∧ Q (.bl (decide (a = t ∧ b = u))) H) ∨
  ∃ (x : Addr) (v : V) (a b : Int) (ty : Value), vs = [.ref x, v] ∧ RatAt C H x a b ∧ TyX K H v ty ∧ PySem.W.kitOne K ty (.ref C) = some false ∧ PySem.W.kitOne K ty (.type "int") = some false ∧ Q (.bl false) H
theorem ok_eq {C fA : Addr} {fd : FuncData} (B : Blt mg) (T : RatC K mg C) (F : Fun K "__eq__" "Ratio.__eq__" s_Ratio_eq fA fd) : FnOk P w K mg base CX0 1 fA fd ["self", "other"] (spEqR K C) := by
  refine F.ok sc_Ratio_eq (fun vs H Q E h => ?_) (fun cdv A outer st H vs Q E hr h => ?_)
  · rcases h with ⟨x, v, a, b, t, u, rfl, _⟩ | ⟨x, v, a, b, ty, rfl, _⟩ <;> rfl
  refine ⟨_, (pss_cons (ps_if (pt_val (pe_callB call_isi (by rfl) B.isinstance (by decide +kernel) (pa_cons (pv 1) (pa_cons (pe_glob (v := .ref _) (by rfl) T.g rfl) pa_nil)))) (pss_one (ps_ret ((pe_and (pe_cmpR op_eq (pe_fld (pv 0) rfl) (pe_fld (pv 1) rfl) (nomark _)) (pe_one (pe_cmpR op_eq (pe_fld (pv 0) rfl) (pe_fld (pv 1) rfl) (nomark _))))))) pss_nil)
      (pss_one (ps_ret ((pe_and (pe_callB call_isi (by rfl) B.isinstance (by decide +kernel) (pa_cons (pv 1) (pa_cons (pe_bltn (v := .ty "int") (by rfl) B.int (by decide +kernel) rfl) pa_nil))) (pe_and (pe_cmpR op_eq (pe_fld (pv 0) rfl) (pe_int) (nomark _)) (pe_one (pe_cmpR op_eq (pe_fld (pv 0) rfl) (pv 1) (nomark _))))))))), ?_⟩
  rcases h with ⟨x, v, a, b, t, u, rfl, ⟨dx, hx⟩, hv, q⟩ | ⟨x, v, a, b, tt, rfl, ⟨dx, hx⟩, ty, k1, k2, q⟩
  · rcases hv with ⟨rfl, rfl⟩ | ⟨y, rfl, dy, hy⟩
    · have W := (Al.nil (H := H)).got hx
      refine ⟨_, rfl, _, _, _, _, false, rfl, .own _, .base (.int _), T.ki, _, rfl, iteF ?_⟩
      refine ⟨_, rfl, _, _, _, _, true, rfl, .ty _, .base (.int _), kit_ty (by decide +kernel), _, rfl, iteT ?_⟩
      refine ⟨_, rfl, x, C, dx, _, _, rfl, (W.at (List.Mem.head _)), T.cl, T.nU, rf_under _ _, rfl, _, rfl, ifE (fun h1 => ?_) (fun h1 => ?_)⟩
      · skip
        refine ⟨_, rfl, x, C, dx, _, _, rfl, (W.at (List.Mem.head _)), T.cl, T.nT, rf_top _ _, _, rfl, rfl, ?_⟩
        refine eqv ?_ q
        omega
      · skip
        exact (by have e := q; rw [decide_eq_false (by omega)] at e; exact e)
    · have W := ((Al.nil (H := H)).got hy).got hx
      refine ⟨_, rfl, _, _, _, _, true, rfl, .own _, T.tyX (W.at (List.Mem.tail _ (List.Mem.head _))), kit_self _, _, rfl, iteT ?_⟩
      refine ⟨_, rfl, x, C, dx, _, _, rfl, (W.at (List.Mem.head _)), T.cl, T.nT, rf_top _ _, _, rfl, y, C, dy, _, _, rfl, (W.at (List.Mem.tail _ (List.Mem.head _))), T.cl, T.nT, rf_top _ _, rfl, _, rfl, ifE (fun h1 => ?_) (fun h1 => ?_)⟩
      · skip
        refine ⟨_, rfl, x, C, dx, _, _, rfl, (W.at (List.Mem.head _)), T.cl, T.nU, rf_under _ _, _, rfl, y, C, dy, _, _, rfl, (W.at (List.Mem.tail _ (List.Mem.head _))), T.cl, T.nU, rf_under _ _, rfl, ?_⟩
        refine eqv ?_ q
        omega
      · skip
        exact (by have e := q; rw [decide_eq_false (by omega)] at e; exact e)
  · have W := (Al.nil (H := H)).got hx
    refine ⟨_, rfl, _, _, _, _, false, rfl, .own _, ty, k1, _, rfl, iteF ?_⟩
    refine ⟨_, rfl, _, _, _, _, false, rfl, .ty _, ty, k2, _, rfl, iteF ?_⟩
    exact q
end

/-- .. as a top and an under -/
theorem NumQ.num {C : Addr} {H : Hp} {v : V} {n m : Int} {b : Nat} (h : NumQ C H v n m) (hm : 0 < m) (hn : n.natAbs < 2 ^ b) (hb : m.natAbs < 2 ^ b) :
    ∃ t u, Num C H v t u ∧ t * m = n * u ∧ 0 < u ∧ t.natAbs < 2 ^ b ∧ u.natAbs < 2 ^ b := by
  rcases h with ⟨z, ev, ez⟩ | ⟨x, ev, hx⟩
  · refine ⟨z, 1, .inl ⟨ev, rfl⟩, by rw [ez, Int.mul_one], by decide, Nat.lt_of_le_of_lt ?_ hn, Nat.lt_of_le_of_lt (show (1 : Int).natAbs ≤ m.natAbs by omega) hb⟩
    rw [← ez, Int.natAbs_mul]
    exact Nat.le_mul_of_pos_right _ (by omega)
  · have hm' : m ≠ 0 := by omega
    exact ⟨nT n m, nU n m, .inr ⟨x, ev, hx⟩, n_cross n m, nU_pos hm', Nat.lt_of_le_of_lt (nT_le hm') hn, Nat.lt_of_le_of_lt (nU_le hm') hb⟩
structure Sq (n m : Int) : Prop where
  p : 0 < m
  n : n.natAbs < 2 ^ 4400
  m : m.natAbs < 2 ^ 4400
abbrev spAdd (C : Addr) := spAr C (fun a b t u => a * u + t * b) (fun a b t u => b * u)
abbrev spSub (C : Addr) := spAr C (fun a b t u => a * u - t * b) (fun a b t u => b * u)
abbrev spMul (C : Addr) := spAr C (fun a b t u => a * t) (fun a b t u => b * u)
/-- a Ratio with a number: what the operator's two rules ask -/
theorem ar_q {C : Addr} {f g : Int → Int → Int → Int → Int} {H : Hp} {x : Addr} {v : V} {n m n' m' N M : Int} {Q : VK} (hx : RatQ C H x n m) (hv : NumQ C H v n' m') (s1 : Sq n m) (s2 : Sq n' m') (hM : M ≠ 0)
    (hg : ∀ a b t u : Int, 0 < b → 0 < u → g a b t u ≠ 0) (e : ∀ a b t u : Int, 0 < b → 0 < u → a * m = n * b → t * m' = n' * u → f a b t u * M = N * g a b t u)
    (k : ∀ (z : Addr) (H' : Hp), Same H H' → RatQ C H' z N M → Q (.ref z) H') : rOO C (spAr C f g) (.ref x) v H Q ∨ rOI C (spAr C f g) (.ref x) v H Q := by
  obtain ⟨t, u, hn, et, pu, bt, bu⟩ := hv.num s2.p s2.n s2.m
  have nm : m ≠ 0 := by have := s1.p; omega
  have pm := nU_pos (t := n) nm
  have sm : Sm (nT n m) (nU n m) t u := ⟨Nat.lt_of_le_of_lt (nT_le nm) s1.n, Nat.lt_of_le_of_lt (nU_le nm) s1.m, bt, bu, pm, pu⟩
  have fin : ∀ (z : Addr) (H' : Hp), Same H H' → RatAt C H' z (nT (f (nT n m) (nU n m) t u) (g (nT n m) (nU n m) t u)) (nU (f (nT n m) (nU n m) t u) (g (nT n m) (nU n m) t u)) → ∃ z', V.ref z = .ref z' ∧ Q (.ref z') H' := fun z H' s hz =>
    ⟨z, rfl, k z H' s (RatQ.of hz (hg _ _ _ _ pm pu) hM (e _ _ _ _ pm pu (n_cross n m) et))⟩
  obtain ⟨dx, hx'⟩ := id hx
  rcases id hn with ⟨rfl, rfl⟩ | ⟨y, rfl, dy, hy⟩
  · exact .inr ⟨x, dx, _, t, rfl, hx', rfl, x, .int t, _, _, t, 1, rfl, hx, hn, sm, fin⟩
  · exact .inl ⟨x, dx, _, y, dy, _, rfl, hx', rfl, hy, x, .ref y, _, _, t, u, rfl, hx, hn, sm, fin⟩
theorem add_q {C : Addr} {H : Hp} {x : Addr} {v : V} {n D n' : Int} {Q : VK} (hx : RatQ C H x n D) (hv : NumQ C H v n' D) (s1 : Sq n D) (s2 : Sq n' D) (k : ∀ (z : Addr) (H' : Hp), Same H H' → RatQ C H' z (n + n') D → Q (.ref z) H') :
    rOO C (spAdd C) (.ref x) v H Q ∨ rOI C (spAdd C) (.ref x) v H Q :=
  ar_q hx hv s1 s2 (by have := s1.p; omega) (fun a b t u h1 h2 => Int.ne_of_gt (Int.mul_pos h1 h2)) (fun a b t u h1 h2 e1 e2 => by grind) k
theorem mul_q {C : Addr} {H : Hp} {x : Addr} {v : V} {n m n' m' : Int} {Q : VK} (hx : RatQ C H x n m) (hv : NumQ C H v n' m') (s1 : Sq n m) (s2 : Sq n' m') (k : ∀ (z : Addr) (H' : Hp), Same H H' → RatQ C H' z (n * n') (m * m') → Q (.ref z) H') :
    rOO C (spMul C) (.ref x) v H Q ∨ rOI C (spMul C) (.ref x) v H Q :=
  ar_q hx hv s1 s2 (Int.ne_of_gt (Int.mul_pos s1.p s2.p)) (fun a b t u h1 h2 => Int.ne_of_gt (Int.mul_pos h1 h2)) (fun a b t u h1 h2 e1 e2 => by grind) k
theorem sgn0 {t u n m : Int} (hm : 0 < m) (hu : 0 < u) (e : t * m = n * u) : (t < 0 ↔ n < 0) ∧ (t = 0 ↔ n = 0) := by
  constructor
  · constructor
    · intro h
      rcases (by omega : n < 0 ∨ 0 ≤ n) with h1 | h1
      · exact h1
      · have := Int.mul_neg_of_neg_of_pos h hm
        have := Int.mul_nonneg h1 (show 0 ≤ u by omega)
        omega
    · intro h
      rcases (by omega : t < 0 ∨ 0 ≤ t) with h1 | h1
      · exact h1
      · have := Int.mul_neg_of_neg_of_pos h hu
        have := Int.mul_nonneg h1 (show 0 ≤ m by omega)
        omega
  · constructor
    · rintro rfl
      rw [Int.zero_mul] at e
      rcases Int.mul_eq_zero.mp e.symm with h | h
      · exact h
      · omega
    · rintro rfl
      rw [Int.zero_mul] at e
      rcases Int.mul_eq_zero.mp e with h | h
      · exact h
      · omega
end L

set_option Elab.async false
set_option linter.all false
set_option maxRecDepth 100000
set_option maxHeartbeats 4000000
set_option pp.maxSteps 160
set_option pp.deepTerms false
namespace L
open PySem PySem.Spec PyProof.Rows L2 Fl
local macro_rules | `(tactic| walk_at "side") => `(tactic| first | (exact .inl ⟨by omega, by omega⟩) | (exact .inr ⟨by omega, by omega⟩) | (exact .inr ⟨by decide, by decide⟩) | (show (_ : Int) ≠ _; omega) | (exact ⟨by omega, by decide⟩) | (exact ⟨by decide, by decide, by decide⟩))
local macro_rules | `(tactic| walk_at "go") => `(tactic| repeat (first | refine ⟨_, rfl, ?_⟩ | refine ⟨_, _, rfl, rfl, ?_⟩ | refine .inl ⟨_, rfl, ?_⟩ | refine ⟨rfl, ?_⟩ | refine ⟨(by walk_at "side"), ?_⟩))
local macro_rules | `(tactic| walk_at "see") => `(tactic| (set_option pp.maxSteps 110 in set_option pp.deepTerms false in trace_state))
local macro_rules | `(tactic| walk_at "if") => `(tactic| first | refine ifE ?_ ?_ | refine ifNE ?_ ?_ | refine ifD ?_ ?_ | refine ifN ?_ ?_ | refine ifB ?_ ?_)
open Bx

/-! ### instances of Run -/
def gf (f s c : Int) : List (Str × V) := putF "count" (.int c) (putF "step" (.int s) (putF "first" (.int f) []))
theorem fs_ne : ¬ (("first" : Str) = "step") := by decide +kernel
theorem fc_ne : ¬ (("first" : Str) = "count") := by decide +kernel
theorem sc_ne : ¬ (("step" : Str) = "count") := by decide +kernel
theorem gf_first (f s c : Int) : (gf f s c).lookup ("first" : Str) = some (.int f) := by
  unfold gf
  rw [lookup_putF, if_neg fc_ne, lookup_putF, if_neg fs_ne, lookup_putF, if_pos rfl]
theorem gf_step (f s c : Int) : (gf f s c).lookup ("step" : Str) = some (.int s) := by
  unfold gf
  rw [lookup_putF, if_neg sc_ne, lookup_putF, if_pos rfl]
theorem gf_count (f s c : Int) : (gf f s c).lookup ("count" : Str) = some (.int c) := by
  unfold gf
  rw [lookup_putF, if_pos rfl]
theorem gf_no (f s c : Int) {m : Str} (h1 : ¬ m = "count") (h2 : ¬ m = "step") (h3 : ¬ m = "first") : (gf f s c).lookup m = none := by
  unfold gf
  rw [lookup_putF, if_neg h1, lookup_putF, if_neg h2, lookup_putF, if_neg h3]
  rfl
structure RunOk (f s c : Int) : Prop where
  f0 : 0 ≤ f
  s1 : 1 ≤ s
  s4 : s ≤ 4
  c1 : 1 ≤ c
def RunAt (D : Addr) (H : Hp) (x : Addr) (f s c : Int) : Prop := ∃ dx, H x = some (.ins D dx (gf f s c))
theorem RunAt.same {D : Addr} {H H' : Hp} {x : Addr} {f s c : Int} (h : RunAt D H x f s c) (k : Same H H') : RunAt D H' x f s c := by
  obtain ⟨dx, h⟩ := h
  exact ⟨dx, k _ _ h⟩
theorem RunAt.keep {D p : Addr} {H H' : Hp} {x : Addr} {f s c : Int} (h : RunAt D H x f s c) (k : Keeps H H' p) (n : x ≠ p) : RunAt D H' x f s c := by
  obtain ⟨dx, h⟩ := h
  exact ⟨dx, k _ _ h n⟩
theorem RunAt.ne_pool {D : Addr} {p : Pla} {H : Hp} {x : Addr} {f s c : Int} (h : RunAt D H x f s c) (hp : Pool H p) : x ≠ p := by
  obtain ⟨dx, h⟩ := h
  obtain ⟨ns, i, b, c, d, h1, _⟩ := hp
  exact ne_of h h1 (by intro z; cases z)
structure RunC (K : PySem.W.Frag) (mg : Str → Option Value) (D : Addr) : Prop where
  cl : Cls K D
  nF : NoAttr K D "first"
  nS : NoAttr K D "step"
  nC : NoAttr K D "count"
  g : mg "Run" = some (.ref D)
  ha : PySem.W.findIn K (.ref D) "__class__" = some (some (.builtin "object.__class__"))
  hn : PySem.W.specialIn K (.builtin "object.__class__") "__get__" = some (some (.builtin "getset_descriptor.__get__"))
  htk : PySem.W.takesIn K (.builtin "object.__class__") = some true
  hm : PySem.W.mroIn K D (.type "object") = some true
theorem RunC.tyX {K : PySem.W.Frag} {mg : Str → Option Value} {D : Addr} (T : RunC K mg D) {H : Hp} {x dx : Addr} {fs : List (Str × V)} (h : H x = some (.ins D dx fs)) : TyX K H (.ref x) (.ref D) := .base (.ins h T.cl T.ha T.hn T.htk T.hm)
/-- how many strengths are less than k -/
def bel (f s c k : Int) : Int := if k ≤ f then 0 else if k > f + s * (c - 1) then c else (k - f + s - 1).fdiv s
theorem s_cases {f s c : Int} (h : RunOk f s c) : s = 1 ∨ s = 2 ∨ s = 3 ∨ s = 4 := by
  have := h.s1
  have := h.s4
  omega
theorem bel_ok {f s c k : Int} (h : RunOk f s c) : 0 ≤ bel f s c k ∧ bel f s c k ≤ c ∧ (0 < bel f s c k → f + s * (bel f s c k - 1) < k) ∧ (bel f s c k < c → k ≤ f + s * bel f s c k) := by
  have := h.c1
  have := h.f0
  unfold bel
  split
  · refine ⟨by omega, by omega, fun h => absurd h (by omega), fun _ => by omega⟩
  split
  · rcases s_cases h with rfl | rfl | rfl | rfl <;> refine ⟨by omega, by omega, fun _ => by omega, fun h => absurd h (by omega)⟩
  · rw [Int.fdiv_eq_ediv_of_nonneg _ (by have := h.s1; omega)]
    rcases s_cases h with rfl | rfl | rfl | rfl <;> refine ⟨by omega, by omega, fun _ => by omega, fun _ => by omega⟩
/-- a method of the class C by the name m -/
structure CalM (P : Program) (w : World) (K : PySem.W.Frag) (mg : Str → Option Value) (base : Heap) (k : Nat) (C : Addr) (m : Str) (ps : List Str) (sp : Sp) : Prop where
  ex : ∃ (f : Addr) (fd : FuncData), Meth K C m f ∧ FnOk P w K mg base CX0 k f fd ps sp ∧ Binds K fd ps []
/-- v in a, a of the class C with the def sp for __contains__ -/
def rInOwn (C : Addr) (sp : Sp) : R2 := fun x y H Q => ∃ (a dx : Addr) (gs : List (Str × V)), y = .ref a ∧ H a = some (.ins C dx gs) ∧ sp [.ref a, x] H (fun z H2 => ∃ b, z = .bl b ∧ Q (.bl b) H2) E0
theorem op_inOwn {X : Cx} {k : Nat} {C : Addr} {ps : List Str} {sp : Sp} (M : CalM X.prog X.w X.K X.mg X.base k C "__contains__" ps sp) (hr : Room k X.A) : OpR X (compareOp .In) (rInOwn C sp) := by
  obtain ⟨f, fd, hM, F, b⟩ := M.ex
  intro pins s σ H x y v u Q I rx ry h
  obtain ⟨a, dx, gs, rfl, ea, q⟩ := h
  cases ry
  obtain ⟨mA, J, _⟩ := ins_get I.hok ea
  obtain ⟨od, J, _⟩ := J.look
  obtain ⟨m, hF⟩ := I.fr
  refine PySem.W.in_K hF I.ok.mod.kin J hM.at_ hM.fn (wpAny_mono (run_fn F hr b (dvs := []) .nil pass0 I (.cons (show RelV (.ref a) (.ref a) from rfl) (.cons rx .nil)) q) (fun w s' hw => ?_) fun _ _ z => z)
  obtain ⟨z, H2, I2, rz, c, rfl, q2⟩ := hw
  cases rz
  exact wpAny_truthy_bool ⟨.bl c, H2, I2, rfl, q2⟩

theorem run_st {f s c : Int} (h : RunOk f s c) : RunOk f (if c > 1 then s else 1) c := ⟨h.f0, (by
  split
  · exact h.s1
  · decide), (by
  split
  · exact h.s4
  · decide), h.c1⟩
section
variable {P : Program} {w : World} {K : PySem.W.Frag} {mg : Str → Option Value} {base : Heap}

def spRunInit (D BN : Addr) : Sp := fun vs H Q E => ∃ (x dx : Addr) (f s c : Int), vs = [.ref x, .int f, .int s, .int c] ∧ H x = some (.ins D dx []) ∧ (f < 0 → Ref E BN H "first" f) ∧ (0 ≤ f → (s < 1 ∨ 4 < s) → Ref E BN H "step" s) ∧
  (0 ≤ f → 1 ≤ s → s ≤ 4 → c < 1 → Ref E BN H "count" c) ∧ (0 ≤ f → 1 ≤ s → s ≤ 4 → 1 ≤ c → ∀ H' : Hp, H' x = some (.ins D dx (gf f (if c > 1 then s else 1) c)) → Keeps H H' x → Q .non H')
abbrev CalRun (P : Program) (w : World) (K : PySem.W.Frag) (mg : Str → Option Value) (base : Heap) (D BN : Addr) := CalC P w K mg base (L2.CX P w) 3 D "Run" ["self", "first", "step", "count"] [] (spRunInit D BN)
theorem ok_run_init {D BN fI : Addr} {tk : Tok} {fd : FuncData} (B : Blt mg) (T : RunC K mg D) (TB : BnC K mg BN) (CE : CalE P w K mg base 1 BN) (gMS : mg "MOST_STEP" = some (.int 4 tk)) (F : Fun K "__init__" "Run.__init__" s_Run_init fI fd) : FnOk P w K mg base (L2.CX P w) 3 fI fd ["self", "first", "step", "count"] (spRunInit D BN) := by
  refine F.okX sc_Run_init (fun vs H Q E h => ?_) (fun cdv A outer st H vs Q E hr h => ?_)
  · obtain ⟨x, dx, f, s, c, rfl, _⟩ := h
    rfl
  · obtain ⟨x, dx, f, s, c, rfl, hx, k1, k2, k3, k⟩ := h
    have hr0 : Room 2 _ := hr
    refine ⟨_, (pss_cons (ps_if (pt_cmpR op_lt (pv 1) (pe_int) (nomark _)) (pss_one (ps_raise rfl (takes_of rfl rfl rfl rfl) (pmk_bn TB CE (hr0.mono (by decide)) (pa_cons pe_str (pa_cons (pv 1) pa_nil))))) pss_nil)
      (pss_cons (ps_if (pt_not (pt_chain op_le op_le (pe_int) (pv 2) (pe_glob (v := .int 4) (by rfl) gMS ⟨_, rfl⟩))) (pss_one (ps_raise rfl (takes_of rfl rfl rfl rfl) (pmk_bn TB CE (hr0.mono (by decide)) (pa_cons pe_str (pa_cons (pv 2) pa_nil))))) pss_nil)
      (pss_cons (ps_if (pt_cmpR op_lt (pv 3) (pe_int) (nomark _)) (pss_one (ps_raise rfl (takes_of rfl rfl rfl rfl) (pmk_bn TB CE (hr0.mono (by decide)) (pa_cons pe_str (pa_cons (pv 3) pa_nil))))) pss_nil)
      (pss_cons (ps_fld (pv 0) (pv 1) rfl)
      (pss_cons (ps_fld (pv 0) (pe_ifExp (pt_cmpR op_gt (pv 3) (pe_int) (nomark _)) (pv 2) (pe_int)) rfl)
      (pss_one (ps_fld (pv 0) (pv 3) rfl))))))), ?_⟩
    walk_at "go"
    walk_at "if"
    · intro h1
      exact ⟨_, rfl, bn_made (k1 h1)⟩
    intro h1
    walk_at "go"
    walk_at "if"
    · intro h2
      walk_at "go"
      walk_at "if"
      · intro h3
        exact ⟨_, rfl, bn_made (k2 (by omega) (.inr (by omega)))⟩
      intro h3
      walk_at "go"
      walk_at "if"
      · intro h4
        exact ⟨_, rfl, bn_made (k3 (by omega) h2 h3 h4)⟩
      intro h4
      have fin : ∀ (s' : Int), s' = (if c > 1 then s else 1) → Q .non (upd (upd (upd H x (.ins D dx (putF "first" (.int f) []))) x (.ins D dx (putF "step" (.int s') (putF "first" (.int f) [])))) x (.ins D dx (putF "count" (.int c) (putF "step" (.int s') (putF "first" (.int f) []))))) := fun s' e =>
        k (by omega) h2 h3 (by omega) _ (by rw [upd_same, e]; rfl) ((Keeps.upd.trans Keeps.upd).trans Keeps.upd)
      refine ⟨_, rfl, _, rfl, x, D, dx, [], rfl, hx, T.cl, T.nF, (by show 0 < 1000; decide), ?_⟩
      walk_at "go"
      walk_at "if"
      · intro h5
        refine ⟨_, rfl, _, rfl, x, D, dx, _, rfl, upd_same, T.cl, T.nS, (by show 1 < 1000; decide), ?_⟩
        refine ⟨_, rfl, _, rfl, x, D, dx, _, rfl, upd_same, T.cl, T.nC, (by show 2 < 1000; decide), ?_⟩
        exact fin s (by rw [if_pos h5])
      · intro h5
        refine ⟨_, rfl, x, D, dx, _, rfl, upd_same, T.cl, T.nS, (by show 1 < 1000; decide), ?_⟩
        refine ⟨_, rfl, _, rfl, x, D, dx, _, rfl, upd_same, T.cl, T.nC, (by show 2 < 1000; decide), ?_⟩
        exact fin 1 (by rw [if_neg h5])
    · intro h2
      walk_at "go"
      exact bn_made (k2 (by omega) (.inl (by omega)))
structure CalP (P : Program) (w : World) (K : PySem.W.Frag) (mg : Str → Option Value) (base : Heap) (k : Nat) (C : Addr) (f : Str) (sp : Sp) : Prop where
  ex : ∃ (p g : Addr) (fd : FuncData), PropOf K C f p g ∧ FnOk P w K mg base CX0 k g fd ["self"] sp ∧ Binds K fd ["self"] []
theorem pe_calP {X : Cx} {k : Nat} {C : Addr} {f : Str} {sp : Sp} {e : Expr} {pos : Pos} {ta : TE} (cl : Cls X.K C) (G : CalP X.prog X.w X.K X.mg X.base k C f sp) (hr : Room (k + 1) X.A) (he : PE X e ta) (hab : attributeBase e f X.env (eval e X.env) = eval e X.env := by rfl) :
    PE X (.Attribute e f pos) (tProp C sp [] E0 ta) := by
  obtain ⟨p, g, fd, hp, F, b⟩ := G.ex
  exact pe_prop he cl hp F hr b .nil pass0 hab
def spLast (D : Addr) : Sp := fun vs H Q _ => ∃ (x : Addr) (f s c : Int), vs = [.ref x] ∧ RunAt D H x f s c ∧ RunOk f s c ∧ Q (.int (f + s * (c - 1))) H
theorem ok_last {D fA : Addr} {fd : FuncData} (T : RunC K mg D) (F : Fun K "last" "Run.last" s_Run_last fA fd) : FnOk P w K mg base CX0 1 fA fd ["self"] (spLast D) := by
  refine F.ok sc_Run_last (fun vs H Q E h => ?_) (fun cdv A outer st H vs Q E hr h => ?_)
  · obtain ⟨x, f, s, c, rfl, _⟩ := h
    rfl
  · obtain ⟨x, f, s, c, rfl, ⟨dx, hx⟩, ok, q⟩ := h
    have := ok.s1
    have := ok.s4
    refine ⟨_, (pss_one (ps_ret (pe_op op_add (pe_fld (pv 0) rfl) (pe_op op_mul (pe_fld (pv 0) rfl) (pe_op op_sub (pe_fld (pv 0) rfl) (pe_int)))))), ?_⟩
    refine ⟨_, rfl, x, D, dx, _, _, rfl, hx, T.cl, T.nF, gf_first _ _ _, ?_⟩
    refine ⟨_, rfl, x, D, dx, _, _, rfl, hx, T.cl, T.nS, gf_step _ _ _, ?_⟩
    refine ⟨_, rfl, x, D, dx, _, _, rfl, hx, T.cl, T.nC, gf_count _ _ _, ?_⟩
    refine ⟨_, _, rfl, rfl, ?_⟩
    refine ⟨_, _, rfl, rfl, .inl ⟨by omega, by omega⟩, ?_⟩
    exact ⟨_, _, rfl, rfl, q⟩
def spBelow (D : Addr) : Sp := fun vs H Q _ => ∃ (x : Addr) (f s c k : Int), vs = [.ref x, .int k] ∧ RunAt D H x f s c ∧ RunOk f s c ∧ Q (.int (bel f s c k)) H
theorem ok_below {D fA : Addr} {fd : FuncData} (T : RunC K mg D) (CL : CalP P w K mg base 1 D "last" (spLast D)) (F : Fun K "below" "Run.below" s_Run_below fA fd) : FnOk P w K mg base CX0 3 fA fd ["self", "k"] (spBelow D) := by
  refine F.ok sc_Run_below (fun vs H Q E h => ?_) (fun cdv A outer st H vs Q E hr h => ?_)
  · obtain ⟨x, f, s, c, k, rfl, _⟩ := h
    rfl
  · obtain ⟨x, f, s, c, k, rfl, ⟨dx, hx⟩, ok, q⟩ := h
    have := ok.s1
    have := ok.s4
    unfold bel at q
    refine ⟨_, (pss_cons (ps_if (pt_cmpR op_le (pv 1) (pe_fld (pv 0) rfl) (nomark _)) (pss_one (ps_ret (pe_int))) pss_nil)
      (pss_cons (ps_if (pt_cmpR op_gt (pv 1) (pe_calP T.cl CL (hr.mono (by decide)) (pv 0)) (nomark _)) (pss_one (ps_ret (pe_fld (pv 0) rfl))) pss_nil)
      (pss_one (ps_ret (pe_op op_fdivA (pe_op op_sub (pe_op op_add (pe_op op_sub (pv 1) (pe_fld (pv 0) rfl)) (pe_fld (pv 0) rfl)) (pe_int)) (pe_fld (pv 0) rfl)))))), ?_⟩
    refine ⟨_, rfl, _, rfl, x, D, dx, _, _, rfl, hx, T.cl, T.nF, gf_first _ _ _, ?_⟩
    walk_at "go"
    walk_at "if"
    · intro h1
      rw [if_pos h1] at q
      exact q
    intro h1
    rw [if_neg h1] at q
    refine ⟨_, rfl, _, rfl, x, dx, _, rfl, hx, x, f, s, c, rfl, ⟨dx, hx⟩, ok, ?_⟩
    walk_at "go"
    walk_at "if"
    · intro h2
      rw [if_pos h2] at q
      exact ⟨_, rfl, x, D, dx, _, _, rfl, hx, T.cl, T.nC, gf_count _ _ _, q⟩
    intro h2
    rw [if_neg h2] at q
    refine ⟨_, rfl, _, rfl, x, D, dx, _, _, rfl, hx, T.cl, T.nF, gf_first _ _ _, ?_⟩
    refine ⟨_, _, rfl, rfl, ?_⟩
    refine ⟨_, rfl, x, D, dx, _, _, rfl, hx, T.cl, T.nS, gf_step _ _ _, ?_⟩
    refine ⟨_, _, rfl, rfl, _, _, rfl, rfl, ?_⟩
    refine ⟨_, rfl, x, D, dx, _, _, rfl, hx, T.cl, T.nS, gf_step _ _ _, ?_⟩
    exact ⟨_, _, rfl, rfl, divA (b := 20) (by omega) (by omega) (by decide) (by decide), q⟩
def spAbove (D : Addr) : Sp := fun vs H Q _ => ∃ (x : Addr) (f s c k : Int), vs = [.ref x, .int k] ∧ RunAt D H x f s c ∧ RunOk f s c ∧ Q (.int (c - bel f s c (k + 1))) H
theorem ok_above {D fA : Addr} {fd : FuncData} (T : RunC K mg D) (C_below : CalM P w K mg base 3 D "below" ["self", "k"] (spBelow D)) (F : Fun K "above" "Run.above" s_Run_above fA fd) : FnOk P w K mg base CX0 4 fA fd ["self", "k"] (spAbove D) := by
  obtain ⟨_, _, m_below, F_below, b_below⟩ := C_below.ex
  refine F.ok sc_Run_above (fun vs H Q E h => ?_) (fun cdv A outer st H vs Q E hr h => ?_)
  · obtain ⟨x, f, s, c, k, rfl, _⟩ := h
    rfl
  · obtain ⟨x, f, s, c, k, rfl, ⟨dx, hx⟩, ok, q⟩ := h
    refine ⟨_, (pss_one (ps_ret (pe_op op_sub (pe_fld (pv 0) rfl) (pe_meth (pv 0) T.cl m_below F_below (hr.mono (by decide)) b_below .nil pass0 (pa_cons (pe_op op_add (pv 1) (pe_int)) pa_nil))))), ?_⟩
    refine ⟨_, rfl, x, D, dx, _, _, rfl, hx, T.cl, T.nC, gf_count _ _ _, ?_⟩
    refine ⟨_, rfl, x, dx, _, rfl, hx, gf_no _ _ _ (by decide +kernel) (by decide +kernel) (by decide +kernel), ?_⟩
    refine ⟨_, rfl, _, _, rfl, rfl, x, f, s, c, k + 1, rfl, ⟨dx, hx⟩, ok, ?_⟩
    exact ⟨_, _, rfl, rfl, q⟩
def isin (f s c k : Int) : Bool := decide (f ≤ k) && decide (k ≤ f + s * (c - 1)) && decide ((k - f).fmod s = 0)
def spCont (D : Addr) : Sp := fun vs H Q _ => ∃ (x : Addr) (f s c k : Int), vs = [.ref x, .int k] ∧ RunAt D H x f s c ∧ RunOk f s c ∧ Q (.bl (isin f s c k)) H
theorem ok_cont {D fA : Addr} {fd : FuncData} (T : RunC K mg D) (CL : CalP P w K mg base 1 D "last" (spLast D)) (F : Fun K "__contains__" "Run.__contains__" s_Run_contains fA fd) : FnOk P w K mg base CX0 3 fA fd ["self", "x"] (spCont D) := by
  refine F.ok sc_Run_contains (fun vs H Q E h => ?_) (fun cdv A outer st H vs Q E hr h => ?_)
  · obtain ⟨x, f, s, c, k, rfl, _⟩ := h
    rfl
  · obtain ⟨x, f, s, c, k, rfl, ⟨dx, hx⟩, ok, q⟩ := h
    have := ok.s1
    have := ok.s4
    unfold isin at q
    refine ⟨_, (pss_one (ps_ret ((pe_and (pe_chain op_le op_le (pe_fld (pv 0) rfl) (pv 1) (pe_calP T.cl CL (hr.mono (by decide)) (pv 0))) (pe_one (pe_cmpR op_eq (pe_op op_modN (pe_op op_sub (pv 1) (pe_fld (pv 0) rfl)) (pe_fld (pv 0) rfl)) (pe_int) (nomark _))))))), ?_⟩
    refine ⟨_, rfl, x, D, dx, _, _, rfl, hx, T.cl, T.nF, gf_first _ _ _, ?_⟩
    refine ⟨_, rfl, _, _, rfl, rfl, _, rfl, ?_⟩
    walk_at "if"
    · intro h1
      rw [decide_eq_true h1] at q
      refine ⟨_, rfl, x, dx, _, rfl, hx, x, f, s, c, rfl, ⟨dx, hx⟩, ok, ?_⟩
      refine ⟨_, _, rfl, rfl, _, rfl, ?_⟩
      walk_at "if"
      · intro h2
        rw [decide_eq_true h2] at q
        refine ⟨_, rfl, _, rfl, x, D, dx, _, _, rfl, hx, T.cl, T.nF, gf_first _ _ _, ?_⟩
        refine ⟨_, _, rfl, rfl, ?_⟩
        refine ⟨_, rfl, x, D, dx, _, _, rfl, hx, T.cl, T.nS, gf_step _ _ _, ?_⟩
        refine ⟨_, _, rfl, rfl, (show s ≠ 0 by omega), rfl, ?_⟩
        have e : decide (V.int ((k - f).fmod s) = V.int 0) = decide ((k - f).fmod s = 0) := by
          by_cases h : (k - f).fmod s = 0
          · rw [decide_eq_true h, h]
            rfl
          · rw [decide_eq_false h, decide_eq_false (fun z => h (V.int.inj z))]
        show Q (V.bl (decide (V.int ((k - f).fmod s) = V.int 0))) _
        rw [e]
        exact q
      · intro h2
        rw [decide_eq_false h2] at q
        exact q
    · intro h1
      rw [decide_eq_false h1] at q
      exact ⟨_, rfl, q⟩
end
theorem wide4 {n : Int} {m : Nat} (h : n.natAbs < 2 ^ m) (hm : m ≤ 4000) : n.natAbs < 2 ^ 4000 := Nat.lt_of_lt_of_le h (Nat.pow_le_pow_right (by decide) hm)
theorem wide8 {n : Int} {m : Nat} (h : n.natAbs < 2 ^ m) (hm : m ≤ 8000) : n.natAbs < 2 ^ 8000 := Nat.lt_of_lt_of_le h (Nat.pow_le_pow_right (by decide) hm)

theorem pos_iff {x y : Int} (hy : 0 < y) : (0 < x * y ↔ 0 < x) ∧ (x * y = 0 ↔ x = 0) := by
  rcases (by omega : x < 0 ∨ x = 0 ∨ 0 < x) with h | h | h
  · have := Int.mul_neg_of_neg_of_pos h hy
    omega
  · subst h
    rw [Int.zero_mul]
    omega
  · have := Int.mul_pos h hy
    omega

/-! ### parts of a blend -/
/-- n strengths of a share n / D, in the run f, s, c -/
structure Pt where
  n : Int
  f : Int
  s : Int
  c : Int
def sumI : List Int → Int
  | [] => 0
  | n :: r => n + sumI r
theorem sumI_app (xs ys : List Int) : sumI (xs ++ ys) = sumI xs + sumI ys := by
  induction xs with
  | nil => show sumI ys = 0 + sumI ys; omega
  | cons a r ih => show a + sumI (r ++ ys) = a + sumI r + sumI ys; omega
theorem sumI_bd {b : Nat} : ∀ {ns : List Int}, (∀ n ∈ ns, n.natAbs < 2 ^ b) → (sumI ns).natAbs ≤ ns.length * 2 ^ b
  | [], _ => by show (0 : Int).natAbs ≤ _; omega
  | n :: r, h => by
    have h1 := h n (List.mem_cons_self ..)
    have h2 := sumI_bd (ns := r) fun m hm => h m (List.mem_cons_of_mem _ hm)
    show (n + sumI r).natAbs ≤ (r.length + 1) * 2 ^ b
    rw [Nat.add_mul, Nat.one_mul]
    omega
theorem take_snoc {α : Type} {xs : List α} {i : Nat} {x : α} (h : xs[i]? = some x) : xs.take (i + 1) = xs.take i ++ [x] := by
  rw [List.take_add_one, h]
  rfl
/-- numbers over one denominator, of a size that can be reckoned with -/
structure Bd (ns : List Int) (D : Int) : Prop where
  p : 0 < D
  d : D.natAbs < 2 ^ 4300
  n : ∀ n ∈ ns, n.natAbs < 2 ^ 4300
  l : ns.length ≤ 1000
theorem Bd.sq {ns : List Int} {D : Int} (h : Bd ns D) (i : Nat) : Sq (sumI (ns.take i)) D := by
  refine ⟨h.p, ?_, ub h.d (by decide)⟩
  have e := sumI_bd (ns := ns.take i) fun m hm => h.n m (List.mem_of_mem_take hm)
  have l : (ns.take i).length ≤ 1000 := Nat.le_trans (List.length_take_le' _ _) h.l
  have : (2 : Nat) ^ 4400 = 2 ^ 100 * 2 ^ 4300 := by rw [← Nat.pow_add]
  rw [this]
  refine Nat.lt_of_le_of_lt e (Nat.mul_lt_mul_of_pos_right ?_ (Nat.pow_pos (by decide)))
  exact Nat.lt_of_le_of_lt l (by decide)
theorem Bd.one {ns : List Int} {D : Int} (h : Bd ns D) {n : Int} (hn : n ∈ ns) : Sq n D := ⟨h.p, ub (h.n n hn) (by decide), ub h.d (by decide)⟩
theorem num_mono (C : Addr) (D : Int) : Mono (fun H v n => NumQ C H v n D) := fun _ _ _ _ k h => h.same k
/-- a part handed in: a pair of a number and of something -/
def InS (C : Addr) (Dn : Int) (H : Hp) (v : V) (n : Int) : Prop := ∃ t x y, v = .ref t ∧ H t = some (.tup [x, y]) ∧ NumQ C H x n Dn
/-- .. of a number and a run -/
def InP (C D : Addr) (Dn : Int) (H : Hp) (v : V) (p : Pt) : Prop := ∃ t x r, v = .ref t ∧ H t = some (.tup [x, .ref r]) ∧ NumQ C H x p.n Dn ∧ RunAt D H r p.f p.s p.c
/-- a part of a blend -/
def OutP (C D : Addr) (Dn : Int) (H : Hp) (v : V) (p : Pt) : Prop := ∃ t x r, v = .ref t ∧ H t = some (.tup [.ref x, .ref r]) ∧ RatQ C H x p.n Dn ∧ RunAt D H r p.f p.s p.c
theorem inS_mono (C : Addr) (Dn : Int) : Mono (InS C Dn) := fun _ _ _ _ k ⟨t, x, y, e, h1, h2⟩ => ⟨t, x, y, e, k _ _ h1, h2.same k⟩
theorem inP_mono (C D : Addr) (Dn : Int) : Mono (InP C D Dn) := fun _ _ _ _ k ⟨t, x, r, e, h1, h2, h3⟩ => ⟨t, x, r, e, k _ _ h1, h2.same k, h3.same k⟩
theorem outP_mono (C D : Addr) (Dn : Int) : Mono (OutP C D Dn) := fun _ _ _ _ k ⟨t, x, r, e, h1, h2, h3⟩ => ⟨t, x, r, e, k _ _ h1, h2.same k, h3.same k⟩
theorem inP_inS {C D : Addr} {Dn : Int} {H : Hp} {v : V} {p : Pt} (h : InP C D Dn H v p) : InS C Dn H v p.n := by
  obtain ⟨t, x, r, e, h1, h2, _⟩ := h
  exact ⟨t, x, .ref r, e, h1, h2⟩
theorem outP_inP {C D : Addr} {Dn : Int} {H : Hp} {v : V} {p : Pt} (h : OutP C D Dn H v p) : InP C D Dn H v p := by
  obtain ⟨t, x, r, e, h1, h2, h3⟩ := h
  exact ⟨t, .ref x, r, e, h1, .inr ⟨x, rfl, h2⟩, h3⟩
theorem LAt.to {α : Type} {R S : Hp → V → α → Prop} {H : Hp} {a : Addr} {xs : List α} (h : LAt R H a xs) (k : ∀ v x, R H v x → S H v x) : LAt S H a xs := by
  obtain ⟨vs, h1, h2, h3⟩ := h
  refine ⟨vs, h1, h2, fun i x hx => ?_⟩
  obtain ⟨v, hv, r⟩ := h3 i x hx
  exact ⟨v, hv, k v x r⟩
theorem not_lst {H : Hp} {a D : Addr} {o : HO} {acc : List V} (h : H a = some o) (hd : H D = some (.lst acc)) (n : ∀ xs, o ≠ .lst xs) : a ≠ D := ne_of h hd (n _)
theorem RatQ.wo {C : Addr} {H : Hp} {x D : Addr} {n m : Int} {acc : List V} (h : RatQ C H x n m) (hd : H D = some (.lst acc)) : RatQ C (wo H D) x n m := by
  obtain ⟨dx, h⟩ := h
  exact ⟨dx, wo_at h (not_lst h hd (by intro _ z; cases z))⟩
theorem NumQ.wo {C : Addr} {H : Hp} {v : V} {D : Addr} {n m : Int} {acc : List V} (h : NumQ C H v n m) (hd : H D = some (.lst acc)) : NumQ C (wo H D) v n m := by
  rcases h with h | ⟨x, e, h⟩
  · exact .inl h
  · exact .inr ⟨x, e, h.wo hd⟩
theorem RunAt.wo {C : Addr} {H : Hp} {x D : Addr} {f s c : Int} {acc : List V} (h : RunAt C H x f s c) (hd : H D = some (.lst acc)) : RunAt C (wo H D) x f s c := by
  obtain ⟨dx, h⟩ := h
  exact ⟨dx, wo_at h (not_lst h hd (by intro _ z; cases z))⟩
theorem OutP.wo {C D : Addr} {Dn : Int} {H : Hp} {v : V} {p : Pt} {L : Addr} {acc : List V} (h : OutP C D Dn H v p) (hd : H L = some (.lst acc)) : OutP C D Dn (wo H L) v p := by
  obtain ⟨t, x, r, e, h1, h2, h3⟩ := h
  exact ⟨t, x, r, e, wo_at h1 (not_lst h1 hd (by intro _ z; cases z)), h2.wo hd, h3.wo hd⟩
theorem bl_list {H : Hp} {a : Addr} {bs : List Bool} (h : LAt (fun _ v b => v = V.bl b) H a bs) : H a = some (.lst (bs.map V.bl)) := h.map fun v x e => e
end L

set_option Elab.async false
set_option linter.all false
set_option maxRecDepth 100000
set_option maxHeartbeats 4000000
/-! stretches: a gain over all strengths, in rows (law-free) -/
namespace L
open PySem PySem.Spec PyProof.Rows L2 Fl
def wonV (f s c k v : Int) : Int := (c - bel f s c (k + 1)) - bel f s c k + v * (c - (c - bel f s c (k + 1)) - bel f s c k)
theorem bel_lo {f s c k : Int} (h : k ≤ f) : bel f s c k = 0 := if_pos h
theorem bel_hi {f s c k : Int} (r : RunOk f s c) (h : f + s * (c - 1) < k) : bel f s c k = c := by
  have c1 := r.c1
  have a := Int.mul_nonneg (show 0 ≤ s by have := r.s1; omega) (show 0 ≤ c - 1 by omega)
  unfold bel
  rw [if_neg (by omega), if_pos h]
theorem bel_mid {f s c k : Int} (r : RunOk f s c) (h1 : f ≤ k) (h2 : k ≤ f + s * (c - 1) + 1) : bel f s c k = (k - f + s - 1) / s := by
  have s1 := r.s1
  have s4 := r.s4
  have c1 := r.c1
  unfold bel
  split
  · have e : k = f := by omega
    subst e
    rw [show k - k + s - 1 = s - 1 by omega]
    exact (Int.ediv_eq_zero_of_lt (by omega) (by omega)).symm
  · split
    · have e : k - f + s - 1 = c * s := by
        have : k = f + s * (c - 1) + 1 := by omega
        rw [this, Int.mul_sub, Int.mul_one, Int.mul_comm c s]
        omega
      rw [e, Int.mul_ediv_cancel _ (by omega)]
    · rw [Int.fdiv_eq_ediv_of_nonneg _ (by omega)]
theorem bel_step {f s c k q : Int} (r : RunOk f s c) (q0 : 0 ≤ q) (h1 : f ≤ k) (h2 : k + s * q ≤ f + s * (c - 1) + 1) : bel f s c (k + s * q) = bel f s c k + q := by
  have s1 := r.s1
  have a := Int.mul_nonneg (show 0 ≤ s by omega) q0
  rw [bel_mid r (by omega) h2, bel_mid r h1 (by omega), show k + s * q - f + s - 1 = k - f + s - 1 + s * q by omega, Int.add_mul_ediv_left _ _ (by omega)]
theorem won_lo {f s c k t : Int} (h : k < f) : wonV f s c k t = c := by
  unfold wonV
  rw [bel_lo (show k ≤ f by omega), bel_lo (show k + 1 ≤ f by omega)]
  rw [show c - (c - 0) - 0 = 0 by omega, Int.mul_zero]
  omega
theorem won_hi {f s c k t : Int} (r : RunOk f s c) (h : f + s * (c - 1) < k) : wonV f s c k t = -c := by
  unfold wonV
  rw [bel_hi r h, bel_hi r (show f + s * (c - 1) < k + 1 by omega)]
  rw [show c - (c - c) - c = 0 by omega, Int.mul_zero]
  omega
theorem won_step {f s c k q t : Int} (r : RunOk f s c) (q0 : 0 ≤ q) (h1 : f ≤ k) (h2 : k + s * q ≤ f + s * (c - 1)) : wonV f s c (k + s * q) t = wonV f s c k t - 2 * q := by
  unfold wonV
  rw [bel_step r q0 h1 (by omega), show k + s * q + 1 = (k + 1) + s * q by omega, bel_step r q0 (show f ≤ k + 1 by omega) (by omega)]
  rw [show c - (c - (bel f s c (k + 1) + q)) - (bel f s c k + q) = c - (c - bel f s c (k + 1)) - bel f s c k by omega]
  omega
theorem isin_step {f s c k q : Int} (r : RunOk f s c) (q0 : 0 ≤ q) (h1 : f ≤ k) (h2 : k + s * q ≤ f + s * (c - 1)) : isin f s c (k + s * q) = isin f s c k := by
  have s1 := r.s1
  have a := Int.mul_nonneg (show 0 ≤ s by omega) q0
  unfold isin
  rw [show k + s * q - f = k - f + s * q by omega, Int.fmod_eq_emod_of_nonneg _ (by omega), Int.fmod_eq_emod_of_nonneg _ (by omega), Int.add_mul_emod_self_left]
  rw [decide_eq_true (show f ≤ k + s * q by omega), decide_eq_true h1, decide_eq_true h2, decide_eq_true (show k ≤ f + s * (c - 1) by omega)]
/-! a run beside a stretch from low to high (none: no end), of this period -/
def Beside (f s c : Int) (low : Int) (high : Option Int) (p : Int) : Prop :=
  f + s * (c - 1) < low ∨ (∃ h, high = some h ∧ (h < f ∨ (f ≤ low ∧ h ≤ f + s * (c - 1) ∧ s ∣ p)))
def inS (low : Int) (high : Option Int) (k : Int) : Prop := low ≤ k ∧ ∀ h, high = some h → k ≤ h
theorem beside_won {f s c low p t : Int} {high : Option Int} (r : RunOk f s c) (p1 : 1 ≤ p) (b : Beside f s c low high p) : ∃ d, ∀ k, low ≤ k → inS low high (k + p) → wonV f s c (k + p) t = wonV f s c k t + d := by
  rcases b with h | ⟨h, e, h1 | ⟨h1, h2, q, hq⟩⟩
  · exact ⟨0, fun k hk _ => by rw [won_hi r (by omega), won_hi r (by omega)]; omega⟩
  · exact ⟨0, fun k hk hi => by
      have := hi.2 h e
      rw [won_lo (by omega), won_lo (by omega)]
      omega⟩
  · have q0 : 0 ≤ q := by
      rcases (by omega : 0 ≤ q ∨ q < 0) with z | z
      · exact z
      · have := Int.mul_neg_of_pos_of_neg (show 0 < s by have := r.s1; omega) z
        omega
    refine ⟨-(2 * q), fun k hk hi => ?_⟩
    have := hi.2 h e
    rw [hq] at this ⊢
    rw [won_step r q0 (by omega) (by omega)]
    omega
theorem beside_in {f s c low p : Int} {high : Option Int} (r : RunOk f s c) (p1 : 1 ≤ p) (b : Beside f s c low high p) : ∀ k, low ≤ k → inS low high (k + p) → isin f s c (k + p) = isin f s c k := by
  rcases b with h | ⟨h, e, h1 | ⟨h1, h2, q, hq⟩⟩
  · exact fun k hk _ => by
      unfold isin
      rw [decide_eq_false (show ¬ k + p ≤ f + s * (c - 1) by omega), decide_eq_false (show ¬ k ≤ f + s * (c - 1) by omega)]
      simp
  · exact fun k hk hi => by
      have := hi.2 h e
      unfold isin
      rw [decide_eq_false (show ¬ f ≤ k + p by omega), decide_eq_false (show ¬ f ≤ k by omega)]
      simp
  · have q0 : 0 ≤ q := by
      rcases (by omega : 0 ≤ q ∨ q < 0) with z | z
      · exact z
      · have := Int.mul_neg_of_pos_of_neg (show 0 < s by have := r.s1; omega) z
        omega
    intro k hk hi
    have := hi.2 h e
    rw [hq] at this ⊢
    exact isin_step r q0 (by omega) (by omega)
/-! the stretches between sorted marks -/
def lcmI (a b : Int) : Int := ((Nat.lcm a.natAbs b.natAbs : Nat) : Int)
def perS (k : Int) (a : Int) (p : Pt) : Int := if p.f ≤ k ∧ k ≤ p.f + p.s * (p.c - 1) then lcmI a p.s else a
def perL (ps : List Pt) (k : Int) : Int := ps.foldl (perS k) 1
structure Tri where
  low : Int
  high : Option Int
  p : Int
def stP (ps : List Pt) : List Int → List Tri
  | a :: b :: r => (if a < b then [⟨a, some (b - 1), perL ps a⟩] else []) ++ stP ps (b :: r)
  | _ => []
def marksL (ps : List Pt) : List Int := 0 :: ps.flatMap fun p => [p.f, p.f + p.s * (p.c - 1) + 1]
def Chain : Int → List Tri → Prop
  | lo, [t] => t.low = lo ∧ t.high = none
  | lo, t :: u :: r => t.low = lo ∧ ∃ h, t.high = some h ∧ lo ≤ h ∧ Chain (h + 1) (u :: r)
  | _, [] => False
def stAll (ps : List Pt) (ms : List Int) (last : Int) : List Tri := stP ps ms ++ [⟨last, none, 1⟩]
theorem chain_all {ps : List Pt} : ∀ (r : List Int) (a : Int), (a :: r).Pairwise (· ≤ ·) → Chain a (stAll ps (a :: r) ((a :: r).getLast (by simp)))
  | [], a, _ => ⟨rfl, rfl⟩
  | b :: r, a, h => by
    have ih := chain_all (ps := ps) r b (List.pairwise_cons.mp h).2
    have le := (List.pairwise_cons.mp h).1 b (List.mem_cons_self ..)
    have gl : (a :: b :: r).getLast (by simp) = (b :: r).getLast (by simp) := List.getLast_cons (by simp)
    rw [gl]
    unfold stAll
    rw [show stP ps (a :: b :: r) = (if a < b then [⟨a, some (b - 1), perL ps a⟩] else []) ++ stP ps (b :: r) from rfl]
    by_cases lt : a < b
    · rw [if_pos lt]
      show Chain a (⟨a, some (b - 1), perL ps a⟩ :: (stAll ps (b :: r) ((b :: r).getLast (by simp))))
      generalize hs : stAll ps (b :: r) ((b :: r).getLast (by simp)) = L at *
      cases L with
      | nil => exact ih.elim
      | cons u v => exact ⟨rfl, b - 1, rfl, by omega, by rw [show b - 1 + 1 = b by omega]; exact ih⟩
    · rw [if_neg lt]
      have e : a = b := by omega
      subst e
      exact ih
theorem lcmI_dvd {a b : Int} : a ∣ lcmI a b ∧ b ∣ lcmI a b := ⟨Int.natAbs_dvd_natAbs.mp (Nat.dvd_lcm_left _ _), Int.natAbs_dvd_natAbs.mp (Nat.dvd_lcm_right _ _)⟩
theorem lcmI_of {a b m : Int} (h1 : a ∣ m) (h2 : b ∣ m) : lcmI a b ∣ m := Int.natAbs_dvd_natAbs.mp (Nat.lcm_dvd (Int.natAbs_dvd_natAbs.mpr h1) (Int.natAbs_dvd_natAbs.mpr h2))
theorem lcmI_pos {a b : Int} (h1 : 0 < a) (h2 : 0 < b) : 0 < lcmI a b := by
  have := Nat.lcm_pos (m := a.natAbs) (n := b.natAbs) (by omega) (by omega)
  unfold lcmI
  omega
/-- each period divides 12 -/
theorem per_ok {ps : List Pt} (hr : ∀ p ∈ ps, RunOk p.f p.s p.c) (k : Int) : ∀ a : Int, 0 < a → a ∣ 12 → 0 < ps.foldl (perS k) a ∧ ps.foldl (perS k) a ∣ 12 ∧ a ∣ ps.foldl (perS k) a ∧ ∀ p ∈ ps, p.f ≤ k ∧ k ≤ p.f + p.s * (p.c - 1) → p.s ∣ ps.foldl (perS k) a := by
  induction ps with
  | nil => exact fun a a0 ad => ⟨a0, ad, Int.dvd_refl a, fun p hp => nomatch hp⟩
  | cons q r ih =>
    intro a a0 ad
    have rq := hr q (List.mem_cons_self ..)
    have hr' : ∀ p ∈ r, RunOk p.f p.s p.c := fun p hp => hr p (List.mem_cons_of_mem _ hp)
    have sd : q.s ∣ 12 := by
      have := rq.s1
      have := rq.s4
      rcases s_cases rq with e | e | e | e <;> rw [e] <;> decide
    have st : 0 < perS k a q ∧ perS k a q ∣ 12 ∧ a ∣ perS k a q := by
      unfold perS
      split
      · exact ⟨lcmI_pos a0 (by have := rq.s1; omega), lcmI_of ad sd, lcmI_dvd.1⟩
      · exact ⟨a0, ad, Int.dvd_refl a⟩
    obtain ⟨i1, i2, i3, i4⟩ := ih hr' (perS k a q) st.1 st.2.1
    refine ⟨i1, i2, Int.dvd_trans st.2.2 i3, fun p hp hk => ?_⟩
    rcases List.mem_cons.mp hp with rfl | hp
    · refine Int.dvd_trans ?_ i3
      unfold perS
      rw [if_pos hk]
      exact lcmI_dvd.2
    · exact i4 p hp hk
theorem perL_ok {ps : List Pt} (hr : ∀ p ∈ ps, RunOk p.f p.s p.c) (k : Int) : 1 ≤ perL ps k ∧ perL ps k ≤ 12 := by
  have h := per_ok hr k 1 (by decide) (Int.one_dvd _)
  have := Int.le_of_dvd (by decide) h.2.1
  exact ⟨by unfold perL; omega, this⟩
theorem rel_all {ps : List Pt} (hr : ∀ p ∈ ps, RunOk p.f p.s p.c) : ∀ (post pre : List Int), (pre ++ post).Pairwise (· ≤ ·) → (∀ p ∈ ps, p.f ∈ pre ++ post ∧ p.f + p.s * (p.c - 1) + 1 ∈ pre ++ post) → ∀ t ∈ stP ps post, 1 ≤ t.p ∧ t.p ≤ 12 ∧ (∃ h, t.high = some h ∧ t.low ≤ h) ∧ ∀ p ∈ ps, Beside p.f p.s p.c t.low t.high t.p
  | [], _, _, _ => fun t ht => nomatch ht
  | [_], _, _, _ => fun t ht => nomatch ht
  | a :: b :: r, pre, hs, hm => by
    intro t ht
    rw [show stP ps (a :: b :: r) = (if a < b then [⟨a, some (b - 1), perL ps a⟩] else []) ++ stP ps (b :: r) from rfl] at ht
    rcases List.mem_append.mp ht with ht | ht
    · by_cases lt : a < b
      · rw [if_pos lt] at ht
        rw [List.mem_singleton.mp ht]
        have pk := perL_ok hr a
        refine ⟨pk.1, pk.2, ⟨b - 1, rfl, by show a ≤ b - 1; omega⟩, fun p hp => ?_⟩
        have gap : ∀ m ∈ pre ++ a :: b :: r, m ≤ a ∨ b ≤ m := fun m hm => by
          have hs2 := List.pairwise_append.mp hs
          rcases List.mem_append.mp hm with h | h
          · exact .inl (hs2.2.2 m h a (List.mem_cons_self ..))
          · rcases List.mem_cons.mp h with rfl | h
            · exact .inl (Int.le_refl _)
            · rcases List.mem_cons.mp h with rfl | h
              · exact .inr (Int.le_refl _)
              · exact .inr ((List.pairwise_cons.mp (List.pairwise_cons.mp hs2.2.1).2).1 m h)
        obtain ⟨m1, m2⟩ := hm p hp
        have g1 := gap _ m1
        have g2 := gap _ m2
        rcases g1 with g1 | g1
        · rcases g2 with g2 | g2
          · exact .inl (by show p.f + p.s * (p.c - 1) < a; omega)
          · exact .inr ⟨b - 1, rfl, .inr ⟨g1, by omega, (per_ok hr a 1 (by decide) (Int.one_dvd _)).2.2.2 p hp ⟨g1, by omega⟩⟩⟩
        · exact .inr ⟨b - 1, rfl, .inl (by omega)⟩
      · rw [if_neg lt] at ht
        exact nomatch ht
    · have e : pre ++ a :: b :: r = (pre ++ [a]) ++ b :: r := by simp
      rw [e] at hs hm
      exact rel_all hr (b :: r) (pre ++ [a]) hs hm t ht
/-- all that is asked of the stretches of these runs -/
structure StOk (ps : List Pt) (ts : List Tri) : Prop where
  ch : Chain 0 ts
  rel : ∀ t ∈ ts, 1 ≤ t.p ∧ t.p ≤ 12 ∧ ∀ p ∈ ps, Beside p.f p.s p.c t.low t.high t.p
  lo : ∀ t ∈ ts, t.low ∈ marksL ps
theorem stP_low {ps : List Pt} : ∀ (ms : List Int) (t : Tri), t ∈ stP ps ms → t.low ∈ ms
  | [], _, h => nomatch h
  | [_], _, h => nomatch h
  | a :: b :: r, t, h => by
    rw [show stP ps (a :: b :: r) = (if a < b then [⟨a, some (b - 1), perL ps a⟩] else []) ++ stP ps (b :: r) from rfl] at h
    rcases List.mem_append.mp h with h | h
    · split at h
      · rw [List.mem_singleton.mp h]
        exact List.mem_cons_self ..
      · exact nomatch h
    · exact List.mem_cons_of_mem _ (stP_low (b :: r) t h)
theorem st_ok {ps : List Pt} (hr : ∀ p ∈ ps, RunOk p.f p.s p.c) {ms : List Int} (hs : ms.Pairwise (· ≤ ·)) (hp : ms.Perm (marksL ps)) : ∃ h : ms ≠ [], StOk ps (stAll ps ms (ms.getLast h)) := by
  have mem : ∀ p ∈ ps, p.f ∈ ms ∧ p.f + p.s * (p.c - 1) + 1 ∈ ms := fun p h => by
    have k : ∀ x ∈ [p.f, p.f + p.s * (p.c - 1) + 1], x ∈ ms := fun x hx => hp.mem_iff.mpr (List.mem_cons_of_mem _ (List.mem_flatMap.mpr ⟨p, h, hx⟩))
    exact ⟨k _ (List.mem_cons_self ..), k _ (List.mem_cons_of_mem _ (List.mem_cons_self ..))⟩
  have nn : ∀ m ∈ ms, 0 ≤ m := fun m h => by
    rcases List.mem_cons.mp (hp.mem_iff.mp h) with rfl | h
    · exact Int.le_refl _
    · obtain ⟨p, hq, hx⟩ := List.mem_flatMap.mp h
      have r := hr p hq
      have f0 := r.f0
      have a := Int.mul_nonneg (show 0 ≤ p.s by have := r.s1; omega) (show 0 ≤ p.c - 1 by have := r.c1; omega)
      rcases List.mem_cons.mp hx with rfl | hx
      · exact f0
      · rw [List.mem_singleton.mp hx]
        omega
  have z : (0 : Int) ∈ ms := hp.mem_iff.mpr (List.mem_cons_self ..)
  cases ms with
  | nil => exact nomatch z
  | cons a r =>
    refine ⟨by simp, ?_⟩
    have a0 : a = 0 := by
      have h1 := nn a (List.mem_cons_self ..)
      rcases List.mem_cons.mp z with h | h
      · exact h.symm
      · have := (List.pairwise_cons.mp hs).1 0 h
        omega
    refine ⟨?_, fun t ht => ?_, fun t ht => hp.mem_iff.mp ?_⟩
    · have c := chain_all (ps := ps) r a hs
      rw [a0] at c ⊢
      exact c
    · rcases List.mem_append.mp ht with ht | ht
      · have k := rel_all hr (a :: r) [] (by simpa using hs) (by simpa using mem) t ht
        exact ⟨k.1, k.2.1, k.2.2.2⟩
      · rw [List.mem_singleton.mp ht]
        refine ⟨show (1 : Int) ≤ 1 by decide, show (1 : Int) ≤ 12 by decide, fun p hq => .inl ?_⟩
        have m2 := (mem p hq).2
        have le : ∀ (l : List Int) (h : l ≠ []), l.Pairwise (· ≤ ·) → ∀ m ∈ l, m ≤ l.getLast h := fun l => by
          induction l with
          | nil => exact fun h => absurd rfl h
          | cons x y ih =>
            intro h hs m hm
            cases y with
            | nil =>
              rw [List.mem_singleton.mp hm]
              exact Int.le_refl _
            | cons u v =>
              rw [List.getLast_cons (by simp)]
              rcases List.mem_cons.mp hm with rfl | hm
              · exact Int.le_trans ((List.pairwise_cons.mp hs).1 u (List.mem_cons_self ..)) (ih (by simp) (List.pairwise_cons.mp hs).2 u (List.mem_cons_self ..))
              · exact ih (by simp) (List.pairwise_cons.mp hs).2 m hm
        have := le (a :: r) (by simp) hs _ m2
        show p.f + p.s * (p.c - 1) < (a :: r).getLast _
        omega
    · rcases List.mem_append.mp ht with ht | ht
      · exact stP_low _ t ht
      · rw [List.mem_singleton.mp ht]
        exact List.getLast_mem _
end L

set_option Elab.async false
set_option linter.all false
set_option maxRecDepth 100000
set_option maxHeartbeats 4000000
/-! the least strength of a kind (law-free) -/
namespace L
open PySem PySem.Spec PyProof.Rows L2 Fl
def GV (ws : List Pt) (t k : Int) : Int := sumI (ws.map fun p => p.n * wonV p.f p.s p.c k t)
def CV (ws : List Pt) (k : Int) : Int := sumI (ws.map fun p => if isin p.f p.s p.c k = true then p.n else 0)
theorem gv_step {t low p : Int} {high : Option Int} (p1 : 1 ≤ p) : ∀ ws : List Pt, (∀ q ∈ ws, RunOk q.f q.s q.c) → (∀ q ∈ ws, Beside q.f q.s q.c low high p) → ∃ d, ∀ k, low ≤ k → inS low high (k + p) → GV ws t (k + p) = GV ws t k + d
  | [], _, _ => ⟨0, fun k _ _ => rfl⟩
  | q :: r, hr, hb => by
    obtain ⟨d1, h1⟩ := beside_won (t := t) (hr q (List.mem_cons_self ..)) p1 (hb q (List.mem_cons_self ..))
    obtain ⟨d2, h2⟩ := gv_step p1 (t := t) r (fun x hx => hr x (List.mem_cons_of_mem _ hx)) (fun x hx => hb x (List.mem_cons_of_mem _ hx))
    refine ⟨q.n * d1 + d2, fun k hk hi => ?_⟩
    show q.n * wonV q.f q.s q.c (k + p) t + GV r t (k + p) = q.n * wonV q.f q.s q.c k t + GV r t k + (q.n * d1 + d2)
    rw [h1 k hk hi, h2 k hk hi, Int.mul_add]
    omega
theorem cv_step {low p : Int} {high : Option Int} (p1 : 1 ≤ p) : ∀ ws : List Pt, (∀ q ∈ ws, RunOk q.f q.s q.c) → (∀ q ∈ ws, Beside q.f q.s q.c low high p) → ∀ k, low ≤ k → inS low high (k + p) → CV ws (k + p) = CV ws k
  | [], _, _ => fun k _ _ => rfl
  | q :: r, hr, hb => fun k hk hi => by
    have h1 := beside_in (hr q (List.mem_cons_self ..)) p1 (hb q (List.mem_cons_self ..)) k hk hi
    have h2 := cv_step p1 r (fun x hx => hr x (List.mem_cons_of_mem _ hx)) (fun x hx => hb x (List.mem_cons_of_mem _ hx)) k hk hi
    show (if isin q.f q.s q.c (k + p) = true then q.n else 0) + CV r (k + p) = (if isin q.f q.s q.c k = true then q.n else 0) + CV r k
    rw [h1, h2]
/-- the least of S at which e is below 0 -/
def Least (e : Int → Int) (S : Int → Prop) : Option Int → Prop
  | none => ∀ k, S k → 0 ≤ e k
  | some x => S x ∧ e x < 0 ∧ ∀ k, S k → k < x → 0 ≤ e k
def inRow (low : Int) (high : Option Int) (p k : Int) : Prop := (∃ j : Nat, k = low + p * j) ∧ inS low high k
def rowV (e : Int → Int) (low : Int) (high : Option Int) (p : Int) : Option Int :=
  if e low < 0 then some low else if e low - e (low + p) ≤ 0 then none else
    if ∃ h, high = some h ∧ low + p * ((e low).fdiv (e low - e (low + p)) + 1) > h then none else some (low + p * ((e low).fdiv (e low - e (low + p)) + 1))
theorem inS.down {low k m : Int} {high : Option Int} (h : inS low high m) (h1 : low ≤ k) (h2 : k ≤ m) : inS low high k := ⟨h1, fun x e => by have := h.2 x e; omega⟩
theorem row_val {e : Int → Int} {low p d : Int} {high : Option Int} (p1 : 1 ≤ p) (st : ∀ k, low ≤ k → inS low high (k + p) → e (k + p) = e k + d) : ∀ j : Nat, inS low high (low + p * j) → e (low + p * j) = e low + d * j
  | 0, _ => by
    show e (low + p * 0) = e low + d * 0
    rw [Int.mul_zero, Int.mul_zero, Int.add_zero, Int.add_zero]
  | j + 1, h => by
    have eq : low + p * ((j + 1 : Nat) : Int) = low + p * j + p := by
      rw [Int.natCast_add, Int.mul_add]
      omega
    have a := Int.mul_nonneg (show 0 ≤ p by omega) (Int.natCast_nonneg j)
    rw [eq] at h ⊢
    rw [st _ (by omega) h, row_val p1 st j (h.down (by omega) (by omega)), Int.natCast_add, Int.mul_add]
    omega
theorem row_ok {e : Int → Int} {low p d : Int} {high : Option Int} (p1 : 1 ≤ p) (h0 : inS low high low) (st : ∀ k, low ≤ k → inS low high (k + p) → e (k + p) = e k + d) : Least e (inRow low high p) (rowV e low high p) := by
  have val := row_val p1 st
  have one : ∀ j : Nat, 1 ≤ j → inS low high (low + p * j) → d = -(e low - e (low + p)) := fun j hj h => by
    have a := Int.mul_le_mul_of_nonneg_left (show (1 : Int) ≤ j by omega) (show 0 ≤ p by omega)
    rw [Int.mul_one] at a
    have := st low (Int.le_refl _) (h.down (by omega) (by omega))
    omega
  unfold rowV
  by_cases c1 : e low < 0
  · rw [if_pos c1]
    exact ⟨⟨⟨0, by rw [show ((0 : Nat) : Int) = 0 from rfl, Int.mul_zero, Int.add_zero]⟩, h0⟩, c1, fun k hk lt => absurd hk.2.1 (by omega)⟩
  rw [if_neg c1]
  generalize hf : e low - e (low + p) = fall at *
  by_cases c2 : fall ≤ 0
  · rw [if_pos c2]
    rintro k ⟨⟨j, rfl⟩, hi⟩
    rw [val j hi]
    rcases (by omega : j = 0 ∨ 1 ≤ j) with rfl | hj
    · rw [show ((0 : Nat) : Int) = 0 from rfl, Int.mul_zero]
      omega
    · have := Int.mul_nonneg (show 0 ≤ d by have := one j hj hi; omega) (Int.natCast_nonneg j)
      omega
  rw [if_neg c2]
  have q0 : 0 ≤ (e low).fdiv fall := by rw [Int.fdiv_eq_ediv_of_nonneg _ (by omega)]; exact Int.ediv_nonneg (by omega) (by omega)
  have q1 : (e low).fdiv fall * fall ≤ e low := by rw [Int.fdiv_eq_ediv_of_nonneg _ (by omega)]; exact Int.ediv_mul_le _ (by omega)
  have q2 : e low < ((e low).fdiv fall + 1) * fall := by rw [Int.fdiv_eq_ediv_of_nonneg _ (by omega)]; exact Int.lt_ediv_add_one_mul_self _ (by omega)
  generalize (e low).fdiv fall = q at *
  have below : ∀ j : Nat, (j : Int) ≤ q → inS low high (low + p * j) → 0 ≤ e (low + p * j) := fun j hj hi => by
    rw [val j hi]
    rcases (by omega : j = 0 ∨ 1 ≤ j) with rfl | h1
    · rw [show ((0 : Nat) : Int) = 0 from rfl, Int.mul_zero]
      omega
    · have e1 := one j h1 hi
      have := Int.mul_le_mul_of_nonneg_right hj (show 0 ≤ fall by omega)
      rw [e1, Int.neg_mul, Int.mul_comm fall]
      omega
  have lim : ∀ j : Nat, low + p * j < low + p * (q + 1) → (j : Int) ≤ q := fun j h => by
    rcases (by omega : (j : Int) ≤ q ∨ q + 1 ≤ j) with z | z
    · exact z
    · have := Int.mul_le_mul_of_nonneg_left z (show 0 ≤ p by omega)
      omega
  by_cases c3 : ∃ h, high = some h ∧ low + p * (q + 1) > h
  · rw [if_pos c3]
    rintro k ⟨⟨j, rfl⟩, hi⟩
    obtain ⟨h, eh, lt⟩ := c3
    exact below j (lim j (by have := hi.2 h eh; omega)) hi
  · rw [if_neg c3]
    have eq : low + p * (q + 1) = low + p * (((q + 1).toNat : Nat) : Int) := by rw [Int.toNat_of_nonneg (by omega)]
    have a := Int.mul_nonneg (show 0 ≤ p by omega) (show 0 ≤ q + 1 by omega)
    have hi : inS low high (low + p * (q + 1)) := ⟨by omega, fun h eh => by
      rcases (by omega : low + p * (q + 1) ≤ h ∨ low + p * (q + 1) > h) with z | z
      · exact z
      · exact absurd ⟨h, eh, z⟩ c3⟩
    refine ⟨⟨⟨_, eq⟩, hi⟩, ?_, ?_⟩
    · rw [eq] at hi ⊢
      rw [val _ hi, one _ (by omega) hi, Int.toNat_of_nonneg (by omega), Int.neg_mul, Int.mul_comm fall]
      omega
    · rintro k ⟨⟨j, rfl⟩, hi2⟩ lt
      exact below j (lim j lt) hi2
theorem Least.imp {e : Int → Int} {S T : Int → Prop} {r : Option Int} (h : Least e S r) (k : ∀ x, S x ↔ T x) : Least e T r := by
  cases r with
  | none => exact fun x hx => h x ((k x).2 hx)
  | some x => exact ⟨(k x).1 h.1, h.2.1, fun y hy lt => h.2.2 y ((k y).2 hy) lt⟩
def minO : Option Int → Option Int → Option Int
  | acc, none => acc
  | none, some x => some x
  | some y, some x => if x < y then some x else some y
theorem least_or {e : Int → Int} {S T : Int → Prop} {a b : Option Int} (ha : Least e S a) (hb : Least e T b) : Least e (fun k => S k ∨ T k) (minO a b) := by
  cases b with
  | none =>
    cases a with
    | none => exact fun k h => h.elim (ha k) (hb k)
    | some y => exact ⟨.inl ha.1, ha.2.1, fun k h lt => h.elim (fun h => ha.2.2 k h lt) (hb k)⟩
  | some x =>
    cases a with
    | none => exact ⟨.inr hb.1, hb.2.1, fun k h lt => h.elim (ha k) (fun h => hb.2.2 k h lt)⟩
    | some y =>
      show Least e _ (if x < y then some x else some y)
      split
      · exact ⟨.inr hb.1, hb.2.1, fun k h lt => h.elim (fun h => ha.2.2 k h (by omega)) (fun h => hb.2.2 k h lt)⟩
      · exact ⟨.inl ha.1, ha.2.1, fun k h lt => h.elim (fun h => ha.2.2 k h lt) (fun h => hb.2.2 k h (by omega))⟩
/-- the rows that begin at low, .., low + i - 1 -/
def rowsTo (low : Int) (high : Option Int) (p : Int) (i : Nat) (k : Int) : Prop := ∃ j : Nat, j < i ∧ inS low high (low + j) ∧ inRow (low + j) high p k
theorem rows_all {low p : Int} {high : Option Int} (p1 : 1 ≤ p) (k : Int) : rowsTo low high p p.toNat k ↔ inS low high k := by
  constructor
  · rintro ⟨j, hj, h1, h2⟩
    exact ⟨by have := h2.2.1; have := h1.1; omega, h2.2.2⟩
  · intro h
    have m0 := Int.emod_nonneg (k - low) (show p ≠ 0 by omega)
    have m1 := Int.emod_lt_of_pos (k - low) (show 0 < p by omega)
    have m2 := Int.mul_ediv_add_emod (k - low) p
    have d0 := Int.ediv_nonneg (show 0 ≤ k - low by have := h.1; omega) (show 0 ≤ p by omega)
    have a := Int.mul_nonneg (show 0 ≤ p by omega) d0
    have jj : ((((k - low) % p).toNat : Nat) : Int) = (k - low) % p := Int.toNat_of_nonneg m0
    have dd : ((((k - low) / p).toNat : Nat) : Int) = (k - low) / p := Int.toNat_of_nonneg d0
    refine ⟨((k - low) % p).toNat, by omega, h.down (by omega) (by omega), ⟨((k - low) / p).toNat, by rw [jj, dd]; omega⟩, by omega, h.2⟩
theorem inS.step {low p d : Int} {high : Option Int} {e : Int → Int} (st : ∀ k, low ≤ k → inS low high (k + p) → e (k + p) = e k + d) {s : Int} (h : low ≤ s) : ∀ k, s ≤ k → inS s high (k + p) → e (k + p) = e k + d := fun k hk hi => st k (by omega) ⟨by have := hi.1; omega, hi.2⟩
/-! along a chain -/
theorem chain_find : ∀ (ts : List Tri) (lo : Int), Chain lo ts → ∀ k, lo ≤ k → ∃ (i : Nat) (t : Tri), ts[i]? = some t ∧ inS t.low t.high k
  | [], _, h => h.elim
  | [t], lo, h => fun k hk => ⟨0, t, rfl, by rw [h.1]; exact hk, fun x e => by rw [h.2] at e; cases e⟩
  | t :: u :: r, lo, ⟨h1, x, h2, h3, h4⟩ => fun k hk => by
    rcases (by omega : k ≤ x ∨ x + 1 ≤ k) with z | z
    · exact ⟨0, t, rfl, by rw [h1]; exact hk, fun y e => by rw [h2] at e; cases e; exact z⟩
    · obtain ⟨i, v, hv, hi⟩ := chain_find (u :: r) (x + 1) h4 k z
      exact ⟨i + 1, v, hv, hi⟩
theorem chain_ge : ∀ (ts : List Tri) (lo : Int), Chain lo ts → ∀ (i : Nat) (t : Tri), ts[i]? = some t → lo ≤ t.low
  | [], _, h => h.elim
  | [t], lo, h => fun i u hu => by
    rcases i with _ | i
    · cases hu
      rw [h.1]
      exact Int.le_refl _
    · cases hu
  | t :: u :: r, lo, ⟨h1, x, h2, h3, h4⟩ => fun i v hv => by
    rcases i with _ | i
    · cases hv
      rw [h1]
      exact Int.le_refl _
    · have := chain_ge (u :: r) (x + 1) h4 i v hv
      omega
theorem chain_lt : ∀ (ts : List Tri) (lo : Int), Chain lo ts → ∀ (i j : Nat) (t u : Tri), i < j → ts[i]? = some t → ts[j]? = some u → ∃ x, t.high = some x ∧ x < u.low
  | [], _, h => h.elim
  | [t], lo, h => fun i j v w lt hv hw => by
    rcases j with _ | j
    · omega
    · cases hw
  | t :: u :: r, lo, ⟨h1, x, h2, h3, h4⟩ => fun i j v w lt hv hw => by
    rcases j with _ | j
    · omega
    rcases i with _ | i
    · cases hv
      have := chain_ge (u :: r) (x + 1) h4 j w hw
      exact ⟨x, h2, by omega⟩
    · exact chain_lt (u :: r) (x + 1) h4 i j v w (by omega) hv hw
theorem chain_low {ts : List Tri} (h : Chain 0 ts) {i : Nat} {t : Tri} (ht : ts[i]? = some t) : inS t.low t.high t.low := by
  refine ⟨Int.le_refl _, ?_⟩
  have go : ∀ (ts : List Tri) (lo : Int), Chain lo ts → ∀ (i : Nat) (t : Tri), ts[i]? = some t → ∀ x, t.high = some x → t.low ≤ x := by
    intro ts
    induction ts with
    | nil => exact fun lo h => h.elim
    | cons t r ih =>
      cases r with
      | nil =>
        intro lo h i u hu x hx
        rcases i with _ | i
        · cases hu
          rw [h.2] at hx
          cases hx
        · cases hu
      | cons u v =>
        rintro lo ⟨h1, y, h2, h3, h4⟩ i w hw x hx
        rcases i with _ | i
        · cases hw
          rw [h2] at hx
          cases hx
          omega
        · exact ih (y + 1) h4 i w hw x hx
  exact go ts 0 h i t ht
/-- the least over all strengths, found in the i-th stretch -/
theorem least_at {e : Int → Int} {ts : List Tri} (h : Chain 0 ts) {i : Nat} {t : Tri} {x : Int} (ht : ts[i]? = some t) (old : ∀ (j : Nat) (u : Tri), j < i → ts[j]? = some u → ∀ k, inS u.low u.high k → 0 ≤ e k) (l : Least e (inS t.low t.high) (some x)) : Least e (fun k => 0 ≤ k) (some x) := by
  obtain ⟨l1, l2, l3⟩ := l
  refine ⟨?_, l2, fun k hk lt => ?_⟩
  · have := chain_ge ts 0 h i t ht
    have := l1.1
    omega
  · obtain ⟨j, u, hu, hi⟩ := chain_find ts 0 h k hk
    rcases Nat.lt_trichotomy j i with z | z | z
    · exact old j u z hu k hi
    · subst z
      rw [ht] at hu
      cases hu
      exact l3 k hi lt
    · obtain ⟨y, hy, yl⟩ := chain_lt ts 0 h i j t u z ht hu
      have := l1.2 y hy
      have := hi.1
      omega
theorem least_none {e : Int → Int} {ts : List Tri} (h : Chain 0 ts) (old : ∀ (j : Nat) (u : Tri), ts[j]? = some u → ∀ k, inS u.low u.high k → 0 ≤ e k) : Least e (fun k => 0 ≤ k) none := fun k hk => by
  obtain ⟨j, u, hu, hi⟩ := chain_find ts 0 h k hk
  exact old j u hu k hi
end L

set_option Elab.async false
set_option linter.all false
set_option maxRecDepth 100000
set_option maxHeartbeats 4000000
set_option pp.maxSteps 160
set_option pp.deepTerms false
namespace L
open PySem PySem.Spec PyProof.Rows L2 Fl
local macro_rules | `(tactic| walk_at "side") => `(tactic| first | (exact .inl ⟨by omega, by omega⟩) | (exact .inr ⟨by omega, by omega⟩) | (exact .inr ⟨by decide, by decide⟩) | (show (_ : Int) ≠ _; omega) | (exact ⟨by omega, by decide⟩) | (exact ⟨by decide, by decide, by decide⟩))
local macro_rules | `(tactic| walk_at "go") => `(tactic| repeat (first | refine ⟨_, rfl, ?_⟩ | refine ⟨_, _, rfl, rfl, ?_⟩ | refine .inl ⟨_, rfl, ?_⟩ | refine ⟨rfl, ?_⟩ | refine ⟨(by walk_at "side"), ?_⟩))
local macro_rules | `(tactic| walk_at "see") => `(tactic| (set_option pp.maxSteps 110 in set_option pp.deepTerms false in trace_state))
local macro_rules | `(tactic| walk_at "if") => `(tactic| first | refine ifE ?_ ?_ | refine ifNE ?_ ?_ | refine ifD ?_ ?_ | refine ifN ?_ ?_ | refine ifB ?_ ?_)
open Bx
section
variable {P : Program} {w : World} {K : PySem.W.Frag} {mg : Str → Option Value} {base : Heap}

def spAdded (C : Addr) : Sp := fun vs H Q _ => ∃ (L : Addr) (ns : List Int) (Dn : Int), vs = [.ref L] ∧ LAt (fun H v n => NumQ C H v n Dn) H L ns ∧ Bd ns Dn ∧ ∀ (z : Addr) (H' : Hp), Same H H' → RatQ C H' z (sumI ns) Dn → Q (.ref z) H'
abbrev CalAdded (P : Program) (w : World) (K : PySem.W.Frag) (mg : Str → Option Value) (base : Heap) (C : Addr) := Cal P w K mg base 4 "added" ["numbers"] (spAdded C)
theorem ok_added {C ZU gR : Addr} {fiA riA : Option Value} (B : Blt mg) (M1 : CalRatio P w K mg base C ZU [.int 1]) (hSF : PySem.W.selfFirst K C = true) (OAdd : OpOwn P w K mg base 3 C (PySem.dunder (Operator.info .Add).2) ["self", "other"] (spAdd C)) (hR : PySem.W.findIn K (.ref C) (dunderR (Operator.info .Add).2) = some (some (.ref gR)))
    (iAdd : PySem.W.findIn K (.type "int") (PySem.dunder (Operator.info .Add).2) = some fiA) (jAdd : PySem.W.findIn K (.type "int") (dunderR (Operator.info .Add).2) = some riA) (si : PySem.W.subIn K (.type "int") (.ref C) = some false)
    (Df : Dfn K mg "added" "added" s_added ["numbers"]) : CalAdded P w K mg base C := by
  refine Df.cal sc_added (fun vs H Q E h => ?_) (fun fA cdv A outer st H vs Q E hr h => ?_)
  · obtain ⟨L, ns, Dn, rfl, _⟩ := h
    rfl
  · obtain ⟨L, ns, Dn, rfl, hL, bd, k⟩ := h
    have nD : Dn ≠ 0 := by have := bd.p; omega
    refine ⟨_, (pss_cons (ps_set (i := 1) sc_added.nd rfl (Or.inl rfl) (pe_mk M1 (hr.mono (by decide)) (pa_cons (pe_int) pa_nil)))
      (pss_cons (ps_for PassesOwn.never rfl (pi_list (pv 0)) (pg_name (i := 2) sc_added.nd rfl (Or.inl rfl)) (pss_one (ps_set (i := 1) sc_added.nd rfl (Or.inl rfl) (pe_op (op_or (op_oo (op := .Add) OAdd hSF (hr.mono (by decide))) (op_oi (op := .Add) OAdd hSF hR (.inr ⟨_, rfl⟩) iAdd jAdd si (hr.mono (by decide)))) (pv 1) (pv 2)))))
      (pss_one (ps_ret (pv 1))))), ?_⟩
    refine fun x dx nx ndx ne => ⟨x, dx, 0, 1, rfl, upd_same, by decide +kernel, fun _ H1 hx hk => ⟨rfl, ?_⟩, fun h => absurd h (by decide)⟩
    have s1 := made nx ndx hk
    have hx0 : RatQ C H1 x 0 Dn := RatQ.of (t := 0) (u := 1) ⟨dx, hx⟩ (by decide) nD (by omega)
    obtain ⟨vs, hvs, hlen, hall⟩ := hL
    refine ⟨_, rfl, L, rfl, ⟨_, SqL.of (s1 _ _ hvs)⟩, for_list (K := K) (a := L) (xs := vs) (fun i σ' H' => Same H H' ∧ ∃ (x : Addr) (v : Option V), RatQ C H' x (sumI (ns.take i)) Dn ∧ σ' = [some (.ref L), some (.ref x), v])
      ⟨s1, x, none, hx0, rfl⟩ (fun i σ' H' _ h => SqL.of (h.1 _ _ hvs)) ?_ ?_⟩
    · rintro i y σ' H' hy ⟨s, x, v, hx, rfl⟩
      obtain ⟨n, hn⟩ := item hlen hy
      obtain ⟨y', hy', hq⟩ := hall i n hn
      rw [hy] at hy'
      cases hy'
      refine ⟨_, rfl, _, rfl, add_q hx (hq.same s) (bd.sq i) (bd.one (List.mem_of_getElem? hn)) fun z H2 s2 hz => ?_⟩
      refine ⟨s.trans s2, z, _, ?_, rfl⟩
      rw [take_snoc hn, sumI_app]
      show RatQ C H2 z (sumI (ns.take i) + (n + 0)) Dn
      rw [Int.add_zero]
      exact hz
    · rintro σ' H' ⟨s, x, v, hx, rfl⟩
      rw [hlen, List.take_length] at hx
      exact ⟨_, rfl, k x H' s hx⟩
/-! ### checks -/
def anyNeg (ns : List Int) : Bool := (ns.map fun n => decide (n < 0)).any id
def spCheckP (C BS : Addr) : Sp := fun vs H Q E => ∃ (L : Addr) (ns : List Int) (Dn : Int), vs = [.ref L] ∧ LAt (InS C Dn) H L ns ∧ Bd ns Dn ∧ ns.length ≤ 64 ∧ (anyNeg ns = true → ∀ H', Same H H' → E (.ref BS) none H') ∧ (anyNeg ns = false → sumI ns ≠ Dn → ∀ H', Same H H' → E (.ref BS) none H') ∧ (anyNeg ns = false → sumI ns = Dn → ∀ H', Same H H' → Q .non H')
abbrev CalCheckP (P : Program) (w : World) (K : PySem.W.Frag) (mg : Str → Option Value) (base : Heap) (C BS : Addr) := CalX P w K mg base 5 "check_parts" ["parts"] (spCheckP C BS)
theorem num_neg {C : Addr} {H : Hp} {v : V} {n D : Int} {Q : VK} (h : NumQ C H v n D) (s : Sq n D) (q : Q (.bl (decide (n < 0))) H) : cOI C (spCmp C fun i j => decide (i < j)) v (.int 0) H Q ∨ rI0 (fun i j => .bl (decide (i < j))) v (.int 0) H Q := by
  have p := s.p
  have nD : D ≠ 0 := by omega
  rcases h with ⟨z, rfl, e⟩ | ⟨x, rfl, hx⟩
  · refine .inr ⟨z, 0, rfl, rfl, ?_⟩
    have := (pos_iff (x := -z) p)
    rw [Int.neg_mul] at this
    show Q (V.bl (decide (z < 0))) H
    rw [show decide (z < 0) = decide (n < 0) from decide_eq_decide.mpr (by omega)]
    exact q
  · obtain ⟨dx, hx'⟩ := id hx
    refine .inl ⟨x, dx, _, 0, rfl, hx', rfl, x, .int 0, _, _, 0, 1, rfl, hx, .inl ⟨rfl, rfl⟩, ⟨Nat.lt_of_le_of_lt (nT_le nD) s.n, Nat.lt_of_le_of_lt (nU_le nD) s.m, by decide +kernel, by decide +kernel, nU_pos nD, by decide⟩, _, rfl, ?_⟩
    have sg := (sgn0 p (nU_pos (t := n) nD) (n_cross n D)).1
    show Q (V.bl (decide (nT n D * 1 < 0 * nU n D))) H
    rw [show decide (nT n D * 1 < 0 * nU n D) = decide (n < 0) from decide_eq_decide.mpr (by rw [Int.mul_one, Int.zero_mul]; exact sg)]
    exact q
theorem ok_check_parts {C BS : Addr} {tk : Tok} (B : Blt mg) (hAny : mg "any" = none) (gMP : mg "MOST_PARTS" = some (.int 64 tk)) (TS : ExC K mg "BadShares" BS) (C_added : CalAdded P w K mg base C) (Mlt : OpOwn P w K mg base 2 C "__lt__" ["self", "other"] (spCmp C fun i j => decide (i < j))) (Meq : OpOwn P w K mg base 1 C "__eq__" ["self", "other"] (spEqR K C)) (NE : NeC K C)
    (Df : Dfn K mg "check_parts" "check_parts" s_check_parts ["parts"]) : CalCheckP P w K mg base C BS := by
  refine Df.calX sc_check_parts (fun vs H Q E h => ?_) (fun fA cdv A outer st H vs Q E hr h => ?_)
  · obtain ⟨L, ns, Dn, rfl, _⟩ := h
    rfl
  · obtain ⟨L, ns, Dn, rfl, ⟨vs, hvs, hlen, hall⟩, bd, l64, k1, k2, k3⟩ := h
    refine ⟨_, (pss_cons (ps_if (pt_cmpR op_gt (pe_callB call_len_seq (by rfl) B.len PySem.boot_len (pa_cons (pv 0) pa_nil)) (pe_glob (v := .int 64) (by rfl) gMP ⟨_, rfl⟩) (nomark _)) (pss_one (ps_never)) pss_nil)
      (pss_cons (ps_setLc (i := 1) (own := [("share", 2), ("_", 3)]) (g := (gTup K 2 (gCons (gName 2) (gCons (gName 3) gNil)))) rfl sc_check_parts.nd rfl rfl (sw_true rfl rfl rfl (by decide +kernel)) (pi_list (pv 0)) (blkOk_by (N := ["parts", "shares", "share", "_"]) (sc := defScope s_check_parts) (by decide +kernel)) (fun _ _ _ _ _ => (pg_tup rfl (pgs_cons (pg_name (i := 2) sc_check_parts.nd rfl (Or.inl rfl)) (pgs_cons (pg_name (i := 3) sc_check_parts.nd rfl (Or.inl rfl)) pgs_nil)))) (fun _ _ _ _ _ => pts_nil) (fun _ _ _ _ _ => (pv 2)))
      (pss_cons (ps_if (pt_val (pe_callB (cr_any rfl) (by rfl) hAny (by decide +kernel) (pa_cons (pe_lc (own := [("share", 2)]) (g := gName 2) rfl sc_check_parts.nd (pi_list (pv 1)) (blkOk_by (N := ["parts", "shares", "share", "_"]) (sc := defScope s_check_parts) (by decide +kernel)) (fun _ _ _ _ _ => pg_name (i := 2) sc_check_parts.nd rfl (Or.inl rfl)) (fun _ _ _ _ _ => pts_nil) (fun _ _ _ _ _ => (pe_cmpR (op_or (cmp_oi (op := .Lt) (fun _ _ => rfl) Mlt NE.si hr.units0 (hr.mono (by decide))) op_lt) (pv 2) (pe_int) (nomark _)))) pa_nil))) (pss_one (ps_raise rfl (takes_of rfl rfl rfl rfl) (pmk_own PySem.F.excBase_ValueError TS.x TS.g TS.k (raises_own TS.b TS.t) rfl))) pss_nil)
      (pss_one (ps_if (pt_cmpR (op_ne_ox NE Meq (hr.mono (by decide))) (pe_cal C_added (hr.mono (by decide)) (pa_cons (pv 1) pa_nil)) (pe_int) (nomark _)) (pss_one (ps_raise rfl (takes_of rfl rfl rfl rfl) (pmk_own PySem.F.excBase_ValueError TS.x TS.g TS.k (raises_own TS.b TS.t) rfl))) pss_nil))))), ?_⟩
    have nD : Dn ≠ 0 := by have := bd.p; omega
    refine ⟨_, rfl, L, _, rfl, .inl (SqL.of hvs), _, _, rfl, rfl, _, rfl, itF (by omega) ?_⟩
    refine ⟨_, rfl, L, rfl, ⟨_, SqL.of hvs⟩, fun D1 hD1 => lc_build (xs := vs) (fun H v n => NumQ C H v n Dn) ns (num_mono C Dn) hD1 hlen (SqL.of hvs) (by omega) ?_ ?_⟩
    · rintro i x n H1 Kc Ke hx hn s ⟨acc, hacc⟩ kk
      obtain ⟨x', hx', t, sv, y, rfl, ht, hq⟩ := hall i n hn
      rw [hx] at hx'
      cases hx'
      refine ⟨t, _, rfl, SqT.of (s _ _ ht), rfl, _, _, rfl, _, _, rfl, rfl, rfl, ?_⟩
      exact ⟨_, rfl, kk sv H1 (Same.refl _) ((hq.same s).wo hacc)⟩
    intro H1 s1 hS
    obtain ⟨us, hus, hlen2, hall2⟩ := hS
    refine ⟨_, rfl, D1, rfl, ⟨_, SqL.of hus⟩, fun D2 hD2 => lc_build (xs := us) (fun _ v b => v = V.bl b) (ns.map fun n => decide (n < 0)) (fun _ _ _ _ _ h => h) hD2 (by rw [List.length_map]; exact hlen2) (SqL.of hus) (by rw [List.length_map]; omega) ?_ ?_⟩
    · rintro i x b H2 Kc Ke hx hb s ⟨acc, hacc⟩ kk
      obtain ⟨n, hn⟩ := item hlen2 hx
      rw [List.getElem?_map, hn] at hb
      cases hb
      obtain ⟨x', hx', hq⟩ := hall2 i n hn
      rw [hx] at hx'
      cases hx'
      refine ⟨rfl, ?_⟩
      exact ⟨_, rfl, num_neg (hq.same s) (bd.one (List.mem_of_getElem? hn)) (kk _ H2 (Same.refl _) rfl)⟩
    intro H2 s2 hB
    refine ⟨D2, _, rfl, SqL.of (bl_list hB), _, rfl, ifB (fun hb => ?_) (fun hb => ?_)⟩
    · exact k1 hb _ (s1.trans s2)
    have hb : anyNeg ns = false := hb
    have hS2 := LAt.same (num_mono C Dn) ⟨us, hus, hlen2, hall2⟩ s2
    refine ⟨_, rfl, D1, ns, Dn, rfl, hS2, bd, fun z H3 s3 hz => ?_⟩
    obtain ⟨dz, hz'⟩ := id hz
    refine ⟨z, dz, _, rfl, hz', .inl ⟨1, rfl⟩, .inl ⟨z, .int 1, _, _, 1, 1, rfl, hz, .inl ⟨rfl, rfl⟩, _, rfl, ?_⟩⟩
    have one : (nT (sumI ns) Dn = 1 ∧ nU (sumI ns) Dn = 1) ↔ sumI ns = Dn := by
      constructor
      · rintro ⟨e1, e2⟩
        have c := n_cross (sumI ns) Dn
        rw [e1, e2] at c
        omega
      · intro e
        have := n_eq (t := sumI ns) (u := Dn) (n := 1) (m := 1) nD (by decide) (by omega)
        rw [this.1, this.2]
        exact n_one 1
    refine ⟨_, rfl, ?_⟩
    by_cases he : sumI ns = Dn
    · rw [decide_eq_true (one.2 he)]
      exact k3 hb he _ ((s1.trans s2).trans s3)
    · rw [decide_eq_false (fun h => he (one.1 h))]
      exact k2 hb he _ ((s1.trans s2).trans s3)
end
end L

set_option Elab.async false
set_option linter.all false
set_option maxRecDepth 100000
set_option maxHeartbeats 4000000
set_option pp.maxSteps 160
set_option pp.deepTerms false
namespace L
open PySem PySem.Spec PyProof.Rows L2 Fl
local macro_rules | `(tactic| walk_at "side") => `(tactic| first | (exact .inl ⟨by omega, by omega⟩) | (exact .inr ⟨by omega, by omega⟩) | (exact .inr ⟨by decide, by decide⟩) | (show (_ : Int) ≠ _; omega) | (exact ⟨by omega, by decide⟩) | (exact ⟨by decide, by decide, by decide⟩))
local macro_rules | `(tactic| walk_at "go") => `(tactic| repeat (first | refine ⟨_, rfl, ?_⟩ | refine ⟨_, _, rfl, rfl, ?_⟩ | refine .inl ⟨_, rfl, ?_⟩ | refine ⟨rfl, ?_⟩ | refine ⟨(by walk_at "side"), ?_⟩))
local macro_rules | `(tactic| walk_at "see") => `(tactic| (set_option pp.maxSteps 110 in set_option pp.deepTerms false in trace_state))
local macro_rules | `(tactic| walk_at "if") => `(tactic| first | refine ifE ?_ ?_ | refine ifNE ?_ ?_ | refine ifD ?_ ?_ | refine ifN ?_ ?_ | refine ifB ?_ ?_)
open Bx

/-! ### equal runs put together -/
def sameRun (p q : Pt) : Bool := decide (p.f = q.f) && decide (p.s = q.s) && decide (p.c = q.c)
theorem sameRun_iff {p q : Pt} : sameRun p q = true ↔ p.f = q.f ∧ p.s = q.s ∧ p.c = q.c := by
  unfold sameRun
  rw [Bool.and_eq_true, Bool.and_eq_true, decide_eq_true_iff, decide_eq_true_iff, decide_eq_true_iff, and_assoc]
def mkP (p : Pt) : List L2.Key := [.inl p.f, .inl p.s, .inl p.c]
theorem mkP_eq {p q : Pt} : mkP p = mkP q ↔ sameRun p q = true := by
  rw [sameRun_iff]
  unfold mkP
  constructor
  · intro h
    injection h with h1 h
    injection h with h2 h
    injection h with h3 h
    injection h1 with h1
    injection h2 with h2
    injection h3 with h3
    exact ⟨h1, h2, h3⟩
  · rintro ⟨h1, h2, h3⟩
    rw [h1, h2, h3]
def tog1 (acc : List Pt) (p : Pt) : List Pt := if p.n = 0 then acc else if acc.any (fun q => sameRun q p) = true then acc.map (fun q => if sameRun q p = true then { q with n := q.n + p.n } else q) else acc ++ [p]
def tog (ps : List Pt) : List Pt := ps.foldl tog1 []
theorem tog_snoc {ps : List Pt} {i : Nat} {p : Pt} (h : ps[i]? = some p) : tog (ps.take (i + 1)) = tog1 (tog (ps.take i)) p := by
  unfold tog
  rw [take_snoc h, List.foldl_append]
  rfl
structure KvOk (kvs : List (List L2.Key × V)) (acc : List Pt) : Prop where
  sm : ∀ (j : Nat) (q p : Pt), acc[j]? = some q → sameRun q p = true → valV kvs (mkP p) = some (.int (j : Int))
  nn : ∀ p : Pt, acc.any (fun q => sameRun q p) = false → valV kvs (mkP p) = none
  len : kvs.length = acc.length
theorem any_at {acc : List Pt} {p : Pt} (h : acc.any (fun q => sameRun q p) = true) : ∃ (j : Nat) (q : Pt), acc[j]? = some q ∧ sameRun q p = true := by
  rw [List.any_eq_true] at h
  obtain ⟨q, hq, e⟩ := h
  obtain ⟨j, hj⟩ := List.mem_iff_getElem?.mp hq
  exact ⟨j, q, hj, e⟩
theorem any_of {acc : List Pt} {p q : Pt} {j : Nat} (h : acc[j]? = some q) (e : sameRun q p = true) : acc.any (fun q => sameRun q p) = true := by
  rw [List.any_eq_true]
  exact ⟨q, List.mem_of_getElem? h, e⟩
theorem sr_comm {p q : Pt} (h : sameRun p q = true) : sameRun q p = true := by
  rw [sameRun_iff] at *
  exact ⟨h.1.symm, h.2.1.symm, h.2.2.symm⟩
theorem sr_trans {p q r : Pt} (h : sameRun p q = true) (k : sameRun q r = true) : sameRun p r = true := by
  rw [sameRun_iff] at *
  exact ⟨h.1.trans k.1, h.2.1.trans k.2.1, h.2.2.trans k.2.2⟩
theorem KvOk.uniq {kvs : List (List L2.Key × V)} {acc : List Pt} (k : KvOk kvs acc) {i j : Nat} {p q : Pt} (hi : acc[i]? = some p) (hj : acc[j]? = some q) (e : sameRun p q = true) : i = j := by
  have h1 := k.sm i p q hi e
  have h2 := k.sm j q q hj (sameRun_iff.2 ⟨rfl, rfl, rfl⟩)
  rw [h1] at h2
  injection h2 with h2
  injection h2 with h2
  omega
theorem KvOk.snoc {kvs : List (List L2.Key × V)} {acc : List Pt} (k : KvOk kvs acc) {p : Pt} (hn : acc.any (fun q => sameRun q p) = false) : KvOk (putK kvs (mkP p) (.int (acc.length : Int))) (acc ++ [p]) := by
  have h0 := k.nn p hn
  rw [putK_new _ h0]
  refine ⟨fun j q r hq e => ?_, fun r hr => ?_, by rw [List.length_append, List.length_append, k.len]; rfl⟩
  · rw [valV_snoc _ _ _ _ h0]
    by_cases hj : j < acc.length
    · rw [List.getElem?_append_left hj] at hq
      rw [if_neg, k.sm j q r hq e]
      intro z
      have := sr_trans e (mkP_eq.1 z)
      rw [any_of hq this] at hn
      cases hn
    · rw [List.getElem?_append_right (by omega)] at hq
      have hj0 : j = acc.length := by
        rcases Nat.lt_or_ge (j - acc.length) 1 with h | h
        · omega
        · rw [List.getElem?_eq_none (by simpa using h)] at hq
          cases hq
      subst hj0
      rw [Nat.sub_self] at hq
      cases hq
      rw [if_pos (mkP_eq.2 (sr_comm e))]
  · rw [List.any_append, Bool.or_eq_false_iff] at hr
    rw [valV_snoc _ _ _ _ h0, if_neg, k.nn r hr.1]
    intro z
    have h2 := hr.2
    rw [List.any_cons, Bool.or_eq_false_iff] at h2
    rw [sr_comm (mkP_eq.1 z)] at h2
    cases h2.1
theorem KvOk.merge {kvs : List (List L2.Key × V)} {acc : List Pt} (k : KvOk kvs acc) (p : Pt) : KvOk kvs (acc.map fun q => if sameRun q p = true then { q with n := q.n + p.n } else q) := by
  have sr : ∀ q r : Pt, sameRun (if sameRun q p = true then { q with n := q.n + p.n } else q) r = sameRun q r := fun q r => by split <;> rfl
  refine ⟨fun j q r hq e => ?_, fun r hr => ?_, by rw [List.length_map]; exact k.len⟩
  · rw [List.getElem?_map] at hq
    cases h : acc[j]? with
    | none => rw [h] at hq; cases hq
    | some u =>
      rw [h] at hq
      cases hq
      rw [sr] at e
      exact k.sm j u r h e
  · refine k.nn r ?_
    rw [List.any_map] at hr
    rw [← hr]
    congr 1
    funext q
    exact (sr q r).symm
theorem map_one {kvs : List (List L2.Key × V)} {acc : List Pt} (k : KvOk kvs acc) {p q : Pt} {j : Nat} (hj : acc[j]? = some q) (e : sameRun q p = true) :
    acc.map (fun q => if sameRun q p = true then { q with n := q.n + p.n } else q) = acc.set j { q with n := q.n + p.n } := by
  refine List.ext_getElem? fun i => ?_
  rw [List.getElem?_map, List.getElem?_set]
  by_cases h : j = i
  · subst h
    rw [if_pos rfl, if_pos (List.getElem?_eq_some_iff.mp hj).1, hj]
    show some (if sameRun q p = true then { q with n := q.n + p.n } else q) = _
    rw [if_pos e]
  · rw [if_neg h]
    cases hi : acc[i]? with
    | none => rfl
    | some u =>
      show some (if sameRun u p = true then { u with n := u.n + p.n } else u) = some u
      rw [if_neg]
      intro z
      exact h (k.uniq hj hi (sr_trans e (sr_comm z)))
/-- a mark: the three of a run -/
def MarkP (H : Hp) (v : V) (p : Pt) : Prop := ∃ t, v = .ref t ∧ H t = some (.tup [.int p.f, .int p.s, .int p.c])
theorem markP_mono : Mono MarkP := fun _ _ _ _ k ⟨t, e, h⟩ => ⟨t, e, k _ _ h⟩
def wo2 (H : Hp) (a b : Addr) : Hp := wo (wo H a) b
theorem wo2_sub (H : Hp) (a b : Addr) : Same (wo2 H a b) H := (wo_sub _ b).trans (wo_sub H a)
theorem wo2_same {H H' : Hp} (a b : Addr) (s : Same H H') : Same (wo2 H a b) (wo2 H' a b) := wo_same b (wo_same a s)
theorem wo2_updA {H : Hp} {a b : Addr} {o : HO} : Same (wo2 H a b) (wo2 (upd H a o) a b) := wo_same b wo_upd
theorem wo2_updB {H : Hp} {a b : Addr} {o : HO} : Same (wo2 H a b) (wo2 (upd H b o) a b) := fun c u h => by
  unfold wo2 wo at *
  split at h
  · cases h
  · rename_i n
    rw [if_neg n]
    split at h
    · cases h
    · rename_i n2
      rw [if_neg n2, upd_ne n]
      exact h
theorem wo2_of {H : Hp} {a b : Addr} (ha : H a = none) (hb : H b = none) : Same H (wo2 H a b) := fun c o e => by
  unfold wo2 wo
  rw [if_neg (ne_of_none e hb), if_neg (ne_of_none e ha)]
  exact e
theorem outP_wo2 {C D : Addr} {Dn : Int} {H : Hp} {v : V} {p : Pt} {a b : Addr} {kvs : List (List L2.Key × V)} {acc : List V} (h : OutP C D Dn H v p) (ha : H a = some (.dT kvs)) (hb : H b = some (.lst acc)) : OutP C D Dn (wo2 H a b) v p := by
  obtain ⟨t, x, r, e, h1, ⟨dx, h2⟩, ⟨dr, h3⟩⟩ := h
  have w : ∀ {c : Addr} {o : HO}, H c = some o → (∀ xs, o ≠ .lst xs) → (∀ xs, o ≠ .dT xs) → wo2 H a b c = some o := fun {c o} hc n1 n2 => wo_at (wo_at hc (ne_of hc ha (n2 _))) (ne_of hc hb (n1 _))
  exact ⟨t, x, r, e, w h1 (by intro _ z; cases z) (by intro _ z; cases z), ⟨dx, w h2 (by intro _ z; cases z) (by intro _ z; cases z)⟩, ⟨dr, w h3 (by intro _ z; cases z) (by intro _ z; cases z)⟩⟩
theorem num_zero {C : Addr} {K : PySem.W.Frag} {H : Hp} {v : V} {n D : Int} {Q : VK} (h : NumQ C H v n D) (p : 0 < D) (q : Q (.bl (decide (n = 0))) H) : cOI C (spEqR K C) v (.int 0) H Q ∨ rEq v (.int 0) H Q := by
  have nD : D ≠ 0 := by omega
  rcases h with ⟨z, rfl, e⟩ | ⟨x, rfl, hx⟩
  · refine .inr ⟨rfl, ?_⟩
    have := (pos_iff (x := z) p).2
    show Q (V.bl (decide (V.int z = V.int 0))) H
    rw [show decide (V.int z = V.int 0) = decide (n = 0) from decide_eq_decide.mpr ⟨fun h => by injection h; omega, fun h => by rw [show z = 0 by omega]⟩]
    exact q
  · obtain ⟨dx, hx'⟩ := id hx
    refine .inl ⟨x, dx, _, 0, rfl, hx', rfl, .inl ⟨x, .int 0, _, _, 0, 1, rfl, hx, .inl ⟨rfl, rfl⟩, _, rfl, ?_⟩⟩
    have sg := (sgn0 p (nU_pos (t := n) nD) (n_cross n D)).2
    rw [show decide (nT n D = 0 ∧ nU n D = 1) = decide (n = 0) from decide_eq_decide.mpr ⟨fun h => sg.1 h.1, fun h => by
      have := n_eq (t := n) (u := D) (n := 0) (m := 1) nD (by decide) (by omega)
      rw [this.1, this.2]
      exact n_one 0⟩]
    exact q
section
variable {P : Program} {w : World} {K : PySem.W.Frag} {mg : Str → Option Value} {base : Heap}

def spPutT (C D : Addr) : Sp := fun vs H Q _ => ∃ (L M : Addr) (ps : List Pt) (Dn : Int), vs = [.ref L, .ref M] ∧ LAt (InP C D Dn) H L ps ∧ LAt MarkP H M ps ∧ Bd (ps.map Pt.n) Dn ∧ ∀ (k : Addr) (H' : Hp), Same H H' → H k = none → LAt (OutP C D Dn) H' k (tog ps) → Q (.ref k) H'
abbrev CalPutT (P : Program) (w : World) (K : PySem.W.Frag) (mg : Str → Option Value) (base : Heap) (C D : Addr) := Cal P w K mg base 4 "put_together" ["parts", "marks"] (spPutT C D)
theorem ok_put_together {C D gR : Addr} {fiA riA : Option Value} (B : Blt mg) (hZip : mg "zip" = none) (hSF : PySem.W.selfFirst K C = true) (OAdd : OpOwn P w K mg base 3 C (PySem.dunder (Operator.info .Add).2) ["self", "other"] (spAdd C)) (hR : PySem.W.findIn K (.ref C) (dunderR (Operator.info .Add).2) = some (some (.ref gR)))
    (iAdd : PySem.W.findIn K (.type "int") (PySem.dunder (Operator.info .Add).2) = some fiA) (jAdd : PySem.W.findIn K (.type "int") (dunderR (Operator.info .Add).2) = some riA) (Meq : OpOwn P w K mg base 1 C "__eq__" ["self", "other"] (spEqR K C)) (NE : NeC K C) (C_as_ratio : CalAsRatio P w K mg base C)
    (Df : Dfn K mg "put_together" "put_together" s_put_together ["parts", "marks"]) : CalPutT P w K mg base C D := by
  refine Df.cal sc_put_together (fun vs H Q E h => ?_) (fun fA cdv A outer st H vs Q E hr h => ?_)
  · obtain ⟨L, M, ps, Dn, rfl, _⟩ := h
    rfl
  · obtain ⟨L, M, ps, Dn, rfl, ⟨vs, hvs, hlen, hall⟩, ⟨ms, hms, hlenm, hallm⟩, bd, k⟩ := h
    have nD : Dn ≠ 0 := by have := bd.p; omega
    have hu := hu_of hr
    refine ⟨_, (pss_cons (ps_set (i := 2) sc_put_together.nd rfl (Or.inl rfl) (pe_dnewT))
      (pss_cons (ps_set (i := 3) sc_put_together.nd rfl (Or.inl rfl) (pe_lst pa_nil))
      (pss_cons (ps_for PassesOwn.never rfl (pi_zip (by rfl) hZip (pa_cons (pv 0) (pa_cons (pv 1) pa_nil))) (pg_tup rfl (pgs_cons (pg_tup rfl (pgs_cons (pg_name (i := 4) sc_put_together.nd rfl (Or.inl rfl)) (pgs_cons (pg_name (i := 5) sc_put_together.nd rfl (Or.inl rfl)) pgs_nil))) (pgs_cons (pg_name (i := 6) sc_put_together.nd rfl (Or.inl rfl)) pgs_nil))) (pss_cons (ps_if (pt_cmpR (op_or (cmp_oi (op := .Eq) (fun _ _ => rfl) Meq NE.si hr.units0 (hr.mono (by decide))) op_eq) (pv 4) (pe_int) (nomark _)) (pss_one ps_continue) pss_nil)
      (pss_one (ps_if (pt_cmp (pc_din hu (pv 6) (pv 2))) (pss_cons (ps_asg (pe_ix ix_list (pv 3) (pe_dget hu (pv 2) (pv 6) (fun _ _ => rfl)) (fun _ _ => rfl)) (pg_tup rfl (pgs_cons (pg_name (i := 7) sc_put_together.nd rfl (Or.inl rfl)) (pgs_cons (pg_name (i := 8) sc_put_together.nd rfl (Or.inl rfl)) pgs_nil))))
      (pss_one (ps_asg (pe_tup (pa_cons (pe_op (op_or (op_oo (op := .Add) OAdd hSF (hr.mono (by decide))) (op_oi (op := .Add) OAdd hSF hR (.inr ⟨_, rfl⟩) iAdd jAdd NE.si (hr.mono (by decide)))) (pv 7) (pv 4)) (pa_cons (pv 5) pa_nil))) (pg_sub (pv 3) (pe_dget hu (pv 2) (pv 6) (fun _ _ => rfl)) set_list)))) (pss_cons (ps_dput hu (pv 2) (pv 6) (pe_callB call_len_seq (by rfl) B.len PySem.boot_len (pa_cons (pv 3) pa_nil)) rfl)
      (pss_one ((ps_expr (pe_bm PySem.F.plainAttrs_list PySem.F.slot_list_append PySem.F.type_list_append mt_append (pv 3) (pa_cons (pe_tup (pa_cons (pe_cal C_as_ratio (hr.mono (by decide)) (pa_cons (pv 4) pa_nil)) (pa_cons (pv 5) pa_nil))) pa_nil))))))))))
      (pss_one (ps_ret (pv 3)))))), ?_⟩
    refine fun d hd => ?_
    refine ⟨(by show 0 ≤ sizeLine; decide), fun l hl => ?_⟩
    have ndl : d ≠ l := ne_of_none upd_same hl
    have hl0 : H l = none := by rw [upd_ne ndl.symm] at hl; exact hl
    have s0 : Same H (upd (upd H d (.dT [])) l (.lst [])) := (same_upd hd).trans (same_upd hl)
    refine ⟨_, rfl, _, rfl, L, M, vs, ms, rfl, SqL.of (s0 _ _ hvs), SqL.of (s0 _ _ hms), RZ.for_zipL (by omega) (fun i σ' H' => Same H H' ∧ ∃ (kvs : List (List L2.Key × V)) (us : List V) (o4 o5 o6 o7 o8 : Option V), H' d = some (.dT kvs) ∧ H' l = some (.lst us) ∧ us.length = (tog (ps.take i)).length ∧ (tog (ps.take i)).length ≤ i ∧
        (∀ (j : Nat) (p : Pt), (tog (ps.take i))[j]? = some p → p.n.natAbs ≤ i * 2 ^ 4300 ∧ ∃ v, us[j]? = some v ∧ OutP C D Dn (wo2 H' d l) v p) ∧ KvOk kvs (tog (ps.take i)) ∧ σ' = [some (.ref L), some (.ref M), some (.ref d), some (.ref l), o4, o5, o6, o7, o8])
      ⟨s0, [], [], none, none, none, none, none, by rw [upd_ne ndl, upd_same], upd_same, rfl, Nat.le_refl 0, fun j p h => by simp [tog] at h, ⟨fun j q p h => by simp [tog] at h, fun _ _ => rfl, rfl⟩, rfl⟩ (fun i σ' H' h => ⟨SqL.of (h.1 _ _ hvs), SqL.of (h.1 _ _ hms)⟩) ?_ ?_⟩
    · rintro i x y T σ' H1 hx hy ⟨s1, kvs, us, o4, o5, o6, o7, o8, hdk, hlu, hlen1, hli, hacc, kv, rfl⟩ hT
      obtain ⟨p, hp⟩ := item hlen hx
      obtain ⟨x', hx', t, sv, r, rfl, ht, hq, hrun⟩ := hall i p hp
      rw [hx] at hx'
      cases hx'
      obtain ⟨y', hy', tm, rfl, htm⟩ := hallm i p hp
      rw [hy] at hy'
      cases hy'
      have sT := same_upd (o := .tup [.ref t, .ref tm]) hT
      have s2 := s1.trans sT
      have i1000 : i < 1000 := by
        have h1 := (List.getElem?_eq_some_iff.mp hp).1
        have h2 := bd.l
        rw [List.length_map] at h2
        omega
      have hdk2 := sT _ _ hdk
      have hlu2 := sT _ _ hlu
      have hacc2 : ∀ (j : Nat) (p : Pt), (tog (ps.take i))[j]? = some p → p.n.natAbs ≤ i * 2 ^ 4300 ∧ ∃ v, us[j]? = some v ∧ OutP C D Dn (wo2 (upd H1 T (.tup [.ref t, .ref tm])) d l) v p := fun j p hj => by
        obtain ⟨b, v, hv, ho⟩ := hacc j p hj
        exact ⟨b, v, hv, outP_mono C D Dn _ _ _ _ (wo2_same d l sT) ho⟩
      have hpn : p.n.natAbs < 2 ^ 4300 := bd.n _ (List.mem_map_of_mem (List.mem_of_getElem? hp))
      have e1 := tog_snoc hp
      have le1 : i * 2 ^ 4300 ≤ (i + 1) * 2 ^ 4300 := Nat.mul_le_mul_right _ (by omega)
      refine ⟨T, _, rfl, SqT.of upd_same, rfl, _, _, rfl, t, _, rfl, SqT.of (s2 _ _ ht), rfl, _, _, rfl, _, _, rfl, rfl, _, _, rfl, rfl, ?_⟩
      refine ⟨_, rfl, num_zero (hq.same s2) bd.p ⟨_, rfl, ?_⟩⟩
      refine ifD (fun h0 => ?_) (fun h0 => ?_)
      · have e : tog (ps.take (i + 1)) = tog (ps.take i) := by rw [e1, tog1, if_pos h0]
        refine ⟨s2, kvs, us, _, _, _, _, _, hdk2, hlu2, by rw [e]; exact hlen1, by rw [e]; omega, ?_, by rw [e]; exact kv, rfl⟩
        rw [e]
        intro j q hj
        obtain ⟨b, r⟩ := hacc2 j q hj
        exact ⟨Nat.le_trans b le1, r⟩
      generalize hH2 : upd H1 T (.tup [.ref t, .ref tm]) = H2 at *
      refine ⟨_, rfl, _, rfl, d, _, rfl, DGet.t (k := mkP p) hdk2 (s2 _ _ htm), ?_⟩
      by_cases hany : (tog (ps.take i)).any (fun q => sameRun q p) = true
      · obtain ⟨j, q, hj, e⟩ := any_at hany
        have hval := kv.sm j q p hj e
        rw [hval]
        refine ⟨_, rfl, iteT ?_⟩
        obtain ⟨bq, v, hv, te, xe, re, rfl, hte, hxe, hre⟩ := hacc2 j q hj
        have sub := wo2_sub H2 d l
        refine ⟨_, rfl, _, rfl, _, rfl, d, _, rfl, hval ▸ DGet.t (k := mkP p) hdk2 (s2 _ _ htm), _, _, _, _, rfl, rfl, SqL.of hlu2, atI_nat hv, ?_⟩
        refine ⟨te, _, rfl, SqT.of (sub _ _ hte), rfl, _, _, rfl, _, _, rfl, rfl, ?_⟩
        have b64 : (i * 2 ^ 4300 : Nat) < 2 ^ 4400 := by
          have : (2 : Nat) ^ 4400 = 2 ^ 100 * 2 ^ 4300 := by rw [← Nat.pow_add]
          rw [this]
          exact Nat.mul_lt_mul_of_pos_right (Nat.lt_of_lt_of_le i1000 (by decide)) (Nat.pow_pos (by decide))
        refine ⟨_, rfl, _, rfl, add_q (hxe.same sub) (hq.same s2) ⟨bd.p, Nat.lt_of_le_of_lt bq b64, ub bd.d (by decide)⟩ ⟨bd.p, ub hpn (by decide), ub bd.d (by decide)⟩ fun z H3 s3 hz => ?_⟩
        refine ⟨_, rfl, (by show 2 ≤ sizeLine; decide), fun tn htn => ?_⟩
        have sN := same_upd (o := .tup [.ref z, .ref r]) htn
        have s4 := s3.trans sN
        refine ⟨_, rfl, _, rfl, _, rfl, d, _, rfl, hval ▸ DGet.t (k := mkP p) (s4 _ _ hdk2) ((s2.trans s4) _ _ htm), ?_⟩
        have hjl : j < us.length := (List.getElem?_eq_some_iff.mp hv).1
        refine ⟨l, us, _, j, rfl, rfl, s4 _ _ hlu2, (by unfold ixN; rw [if_pos (by omega), if_pos (by omega)]; simp), ?_⟩
        have em := map_one kv hj e
        have e2 : tog (ps.take (i + 1)) = (tog (ps.take i)).set j { q with n := q.n + p.n } := by rw [e1, tog1, if_neg h0, if_pos hany, em]
        refine ⟨same_late (s2.trans s4) hl0, kvs, _, _, _, _, _, _, ?_, upd_same, by rw [e2, List.length_set, List.length_set]; exact hlen1, by rw [e2, List.length_set]; omega, ?_, by rw [e2, ← em]; exact kv.merge p, rfl⟩
        · rw [upd_ne ndl]
          exact s4 _ _ hdk2
        · rw [e2]
          intro m u hm
          rw [List.getElem?_set] at hm
          by_cases hjm : j = m
          · subst hjm
            rw [if_pos rfl, if_pos (List.getElem?_eq_some_iff.mp hj).1] at hm
            cases hm
            refine ⟨?_, .ref tn, by rw [List.getElem?_set, if_pos rfl, if_pos hjl], ?_⟩
            · show (q.n + p.n).natAbs ≤ (i + 1) * 2 ^ 4300
              rw [Nat.add_mul, Nat.one_mul]
              omega
            · have ho : OutP C D Dn (upd H3 tn (.tup [.ref z, .ref r])) (.ref tn) { q with n := q.n + p.n } := ⟨tn, z, r, rfl, upd_same, hz.same sN, by
                have hr3 := hrun.same (s2.trans s4)
                obtain ⟨ef, es, ec⟩ := sameRun_iff.1 e
                show RunAt D _ r q.f q.s q.c
                rw [ef, es, ec]
                exact hr3⟩
              exact outP_mono C D Dn _ _ _ _ wo2_updB (outP_wo2 ho (s4 _ _ hdk2) (s4 _ _ hlu2))
          · rw [if_neg hjm] at hm
            obtain ⟨b, v2, hv2, ho⟩ := hacc2 m u hm
            refine ⟨Nat.le_trans b le1, v2, by rw [List.getElem?_set, if_neg hjm]; exact hv2, outP_mono C D Dn _ _ _ _ ((wo2_same d l s4).trans wo2_updB) ho⟩
      · have hany' : (tog (ps.take i)).any (fun q => sameRun q p) = false := by simpa using hany
        have hval := kv.nn p hany'
        rw [hval]
        refine ⟨_, rfl, iteF ?_⟩
        refine ⟨_, rfl, l, _, rfl, .inl (SqL.of hlu2), _, rfl, _, rfl, d, _, rfl, DPut.t (k := mkP p) hdk2 (s2 _ _ htm) (by rw [kv.len]; exact small1000 (by omega)), ?_⟩
        have e2 : tog (ps.take (i + 1)) = tog (ps.take i) ++ [p] := by rw [e1, tog1, if_neg h0, if_neg hany]
        have nlT : l ≠ d := ndl.symm
        have fin : ∀ (xr : Addr) (H3 : Hp), Same (upd H2 d (.dT (putK kvs (mkP p) (.int ((us.length : Nat) : Int))))) H3 → RatQ C H3 xr p.n Dn → sizeLine ≥ 1001 → ∀ tn, H3 tn = none →
            Same H (upd (upd H3 tn (.tup [.ref xr, .ref r])) l (.lst (us ++ [.ref tn]))) ∧ ∃ (kvs : List (List L2.Key × V)) (us' : List V), (upd (upd H3 tn (.tup [.ref xr, .ref r])) l (.lst (us ++ [.ref tn]))) d = some (.dT kvs) ∧ us' = us ++ [.ref tn] ∧ us'.length = (tog (ps.take (i + 1))).length ∧ (tog (ps.take (i + 1))).length ≤ i + 1 ∧
            (∀ (j : Nat) (p : Pt), (tog (ps.take (i + 1)))[j]? = some p → p.n.natAbs ≤ (i + 1) * 2 ^ 4300 ∧ ∃ v, us'[j]? = some v ∧ OutP C D Dn (wo2 (upd (upd H3 tn (.tup [.ref xr, .ref r])) l (.lst (us ++ [.ref tn]))) d l) v p) ∧ KvOk kvs (tog (ps.take (i + 1))) := by
          intro xr H3 s3 hxr _ tn htn
          have sN := same_upd (o := .tup [.ref xr, .ref r]) htn
          have sd : Same H (upd H2 d (.dT (putK kvs (mkP p) (.int ((us.length : Nat) : Int))))) := same_late s2 hd
          have s4 := s3.trans sN
          have hl3 : (upd H3 tn (.tup [.ref xr, .ref r])) l = some (.lst us) := s4 _ _ (by rw [upd_ne nlT]; exact hlu2)
          have hd3 : (upd H3 tn (.tup [.ref xr, .ref r])) d = some (.dT (putK kvs (mkP p) (.int ((us.length : Nat) : Int)))) := s4 _ _ upd_same
          refine ⟨same_late (sd.trans s4) hl0, _, _, by rw [upd_ne ndl]; exact hd3, rfl, by rw [e2, List.length_append, List.length_append, hlen1]; rfl, by rw [e2, List.length_append]; show _ + 1 ≤ i + 1; omega, ?_, ?_⟩
          · rw [e2]
            intro m u hm
            by_cases hj : m < (tog (ps.take i)).length
            · rw [List.getElem?_append_left hj] at hm
              obtain ⟨b, v2, hv2, ho⟩ := hacc2 m u hm
              exact ⟨Nat.le_trans b le1, v2, by rw [List.getElem?_append_left (by omega)]; exact hv2, outP_mono C D Dn _ _ _ _ ((wo2_updA.trans (wo2_same d l s4)).trans wo2_updB) ho⟩
            · rw [List.getElem?_append_right (by omega)] at hm
              have hj0 : m = (tog (ps.take i)).length := by
                rcases Nat.lt_or_ge (m - (tog (ps.take i)).length) 1 with h | h
                · omega
                · rw [List.getElem?_eq_none (by simpa using h)] at hm
                  cases hm
              subst hj0
              rw [Nat.sub_self] at hm
              cases hm
              refine ⟨?_, .ref tn, by rw [List.getElem?_append_right (by omega), hlen1, Nat.sub_self]; rfl, ?_⟩
              · rw [Nat.add_mul, Nat.one_mul]
                omega
              · have ho : OutP C D Dn (upd H3 tn (.tup [.ref xr, .ref r])) (.ref tn) p := ⟨tn, xr, r, rfl, upd_same, hxr.same sN, hrun.same (sd.trans s4)⟩
                exact outP_mono C D Dn _ _ _ _ wo2_updB (outP_wo2 ho hd3 hl3)
          · rw [e2, hlen1]
            exact kv.snoc hany'
        have hl4 : (upd H2 d (.dT (putK kvs (mkP p) (.int ((us.length : Nat) : Int))))) l = some (.lst us) := by rw [upd_ne nlT]; exact hlu2
        have hq4 : NumQ C (upd H2 d (.dT (putK kvs (mkP p) (.int ((us.length : Nat) : Int))))) sv p.n Dn := hq.same (same_late s2 hd)
        refine ⟨_, rfl, .inl ⟨rfl, _, SqL.of hl4⟩, ?_⟩
        rcases hq4 with ⟨z, rfl, ez⟩ | ⟨xr, rfl, hxr⟩
        · refine ⟨_, rfl, .inr ⟨z, rfl, fun xr H3 nx s3 hx3 => ?_⟩⟩
          refine ⟨_, rfl, (by show 2 ≤ sizeLine; decide), fun tn htn => ?_⟩
          have hxr : RatQ C H3 xr p.n Dn := RatQ.of (t := z) (u := 1) (by rw [(n_one z).1, (n_one z).2]; exact hx3) (by decide) nD (by omega)
          obtain ⟨w1, kv1, us1, w2, rfl, w3, w4, w5, w6⟩ := fin xr H3 s3 hxr (by decide) tn htn
          refine ⟨l, us, _, rfl, rfl, (same_upd htn) _ _ (s3 _ _ hl4), by rw [hlen1]; exact small1000 (by omega), ?_⟩
          exact ⟨w1, kv1, _, _, _, _, _, _, w2, upd_same, w3, w4, w5, w6, rfl⟩
        · refine ⟨_, rfl, .inl ⟨xr, _, _, rfl, hxr, ?_⟩⟩
          refine ⟨_, rfl, (by show 2 ≤ sizeLine; decide), fun tn htn => ?_⟩
          obtain ⟨w1, kv1, us1, w2, rfl, w3, w4, w5, w6⟩ := fin xr _ (Same.refl _) hxr (by decide) tn htn
          refine ⟨l, us, _, rfl, rfl, (same_upd htn) _ _ hl4, by rw [hlen1]; exact small1000 (by omega), ?_⟩
          exact ⟨w1, kv1, _, _, _, _, _, _, w2, upd_same, w3, w4, w5, w6, rfl⟩
    · rintro σ' H1 ⟨s1, kvs, us, o4, o5, o6, o7, o8, hdk, hlu, hlen1, hli, hacc, kv, rfl⟩
      rw [hlen, List.take_length] at *
      refine ⟨_, rfl, k l H1 s1 hl0 ⟨us, hlu, hlen1, fun j p hj => ?_⟩⟩
      obtain ⟨_, v, hv, ho⟩ := hacc j p hj
      exact ⟨v, hv, outP_mono C D Dn _ _ _ _ (wo2_sub H1 d l) ho⟩
end
end L

set_option Elab.async false
set_option linter.all false
set_option maxRecDepth 100000
set_option maxHeartbeats 4000000
set_option pp.maxSteps 160
set_option pp.deepTerms false
namespace L
open PySem PySem.Spec PyProof.Rows L2 Fl
local macro_rules | `(tactic| walk_at "side") => `(tactic| first | (exact .inl ⟨by omega, by omega⟩) | (exact .inr ⟨by omega, by omega⟩) | (exact .inr ⟨by decide, by decide⟩) | (show (_ : Int) ≠ _; omega) | (exact ⟨by omega, by decide⟩) | (exact ⟨by decide, by decide, by decide⟩))
local macro_rules | `(tactic| walk_at "go") => `(tactic| repeat (first | refine ⟨_, rfl, ?_⟩ | refine ⟨_, _, rfl, rfl, ?_⟩ | refine .inl ⟨_, rfl, ?_⟩ | refine ⟨rfl, ?_⟩ | refine ⟨(by walk_at "side"), ?_⟩))
local macro_rules | `(tactic| walk_at "see") => `(tactic| (set_option pp.maxSteps 110 in set_option pp.deepTerms false in trace_state))
local macro_rules | `(tactic| walk_at "if") => `(tactic| first | refine ifE ?_ ?_ | refine ifNE ?_ ?_ | refine ifD ?_ ?_ | refine ifN ?_ ?_ | refine ifB ?_ ?_)
open Bx

/-! ### blends -/
def bf (l : V) : List (Str × V) := putF "parts" l []
theorem bf_parts (l : V) : (bf l).lookup ("parts" : Str) = some l := by
  unfold bf
  rw [lookup_putF, if_pos rfl]
structure BleC (K : PySem.W.Frag) (mg : Str → Option Value) (F : Addr) : Prop where
  cl : Cls K F
  nP : NoAttr K F "parts"
  g : mg "Blend" = some (.ref F)
  ha : PySem.W.findIn K (.ref F) "__class__" = some (some (.builtin "object.__class__"))
  hn : PySem.W.specialIn K (.builtin "object.__class__") "__get__" = some (some (.builtin "getset_descriptor.__get__"))
  htk : PySem.W.takesIn K (.builtin "object.__class__") = some true
  hm : PySem.W.mroIn K F (.type "object") = some true
theorem BleC.tyX {K : PySem.W.Frag} {mg : Str → Option Value} {F : Addr} (T : BleC K mg F) {H : Hp} {x dx : Addr} {fs : List (Str × V)} (h : H x = some (.ins F dx fs)) : TyX K H (.ref x) (.ref F) := .base (.ins h T.cl T.ha T.hn T.htk T.hm)
/-- the blend x of these parts -/
structure BlAt (C D F : Addr) (Dn : Int) (H : Hp) (x : Addr) (ps : List Pt) : Prop where
  ex : ∃ dx L, H x = some (.ins F dx (bf (.ref L))) ∧ LAt (OutP C D Dn) H L ps
theorem BlAt.same {C D F : Addr} {Dn : Int} {H H' : Hp} {x : Addr} {ps : List Pt} (h : BlAt C D F Dn H x ps) (k : Same H H') : BlAt C D F Dn H' x ps := by
  obtain ⟨dx, L, h1, h2⟩ := h.ex
  exact ⟨dx, L, k _ _ h1, h2.same (outP_mono C D Dn) k⟩
theorem markP_wo {H : Hp} {D1 : Addr} {v : V} {p : Pt} {acc : List V} (h : MarkP H v p) (hd : H D1 = some (.lst acc)) : MarkP (wo H D1) v p := by
  obtain ⟨t, e, h⟩ := h
  exact ⟨t, e, wo_at h (not_lst h hd (by intro _ z; cases z))⟩
theorem rf_nil {t u : Int} (h : rf t u = []) : False := by
  have e := congrArg (List.lookup ("top" : Str)) h
  rw [rf_top] at e
  cases e
theorem gf_nil {f s c : Int} (h : gf f s c = []) : False := by
  have e := congrArg (List.lookup ("first" : Str)) h
  rw [gf_first] at e
  cases e
theorem mem_at {α : Type} {xs : List α} {i : Nat} {x : α} (h : xs[i]? = some x) : x ∈ xs := List.mem_of_getElem? h
section
variable {P : Program} {w : World} {K : PySem.W.Frag} {mg : Str → Option Value} {base : Heap}

def spBlInit (C D F BS : Addr) : Sp := fun vs H Q E => ∃ (x dx L : Addr) (ps : List Pt) (Dn : Int), vs = [.ref x, .ref L] ∧ H x = some (.ins F dx []) ∧ LAt (InP C D Dn) H L ps ∧ Bd (ps.map Pt.n) Dn ∧ ps.length ≤ 64 ∧ (anyNeg (ps.map Pt.n) = true → ∀ H', Same H H' → E (.ref BS) none H') ∧ (anyNeg (ps.map Pt.n) = false → sumI (ps.map Pt.n) ≠ Dn → ∀ H', Same H H' → E (.ref BS) none H') ∧
  (anyNeg (ps.map Pt.n) = false → sumI (ps.map Pt.n) = Dn → ∀ (k : Addr) (H' : Hp), Keeps H H' x → H k = none → BlAt C D F Dn H' x (tog ps) → H' x = some (.ins F dx (bf (.ref k))) → LAt (OutP C D Dn) H' k (tog ps) → Q .non H')
abbrev CalBlend (P : Program) (w : World) (K : PySem.W.Frag) (mg : Str → Option Value) (base : Heap) (C D F BS : Addr) := CalC P w K mg base (L2.CX P w) 6 F "Blend" ["self", "parts"] [] (spBlInit C D F BS)
theorem ok_bl_init {C D F BS fI : Addr} {fd : FuncData} (TF : BleC K mg F) (TD : RunC K mg D) (C_check_parts : CalCheckP P w K mg base C BS) (C_put_together : CalPutT P w K mg base C D) (Fn : Fun K "__init__" "Blend.__init__" s_Blend_init fI fd) : FnOk P w K mg base (L2.CX P w) 6 fI fd ["self", "parts"] (spBlInit C D F BS) := by
  refine Fn.okX sc_Blend_init (fun vs H Q E h => ?_) (fun cdv A outer st H vs Q E hr h => ?_)
  · obtain ⟨x, dx, L, ps, Dn, rfl, _⟩ := h
    rfl
  · obtain ⟨x, dx, L, ps, Dn, rfl, hx, hL, bd, l64, k1, k2, k3⟩ := h
    refine ⟨_, (pss_cons (ps_expr (pe_calS C_check_parts (takes_of rfl rfl rfl rfl) (hr.mono (by decide)) (pa_cons (pv 1) pa_nil)))
      (PSs.nox (pss_one (ps_fld (pv 0) (pe_cal C_put_together (hr.mono (by decide)) (pa_cons (pv 1) (pa_cons (pe_lc (own := [("_", 2), ("run", 3)]) (g := (gTup K 2 (gCons (gName 2) (gCons (gName 3) gNil)))) rfl sc_Blend_init.nd (pi_list (pv 1)) (blkOk_by (N := ["self", "parts", "_", "run"]) (sc := defScope s_Blend_init) (by decide +kernel)) (fun _ _ _ _ _ => (pg_tup rfl (pgs_cons (pg_name (i := 2) sc_Blend_init.nd rfl (Or.inl rfl)) (pgs_cons (pg_name (i := 3) sc_Blend_init.nd rfl (Or.inl rfl)) pgs_nil)))) (fun _ _ _ _ _ => pts_nil) (fun _ _ _ _ _ => (pe_tup (pa_cons ((show PE _ _ (tFld K (tVar 3) "first") from pe_fld (pv 3) rfl)) (pa_cons ((show PE _ _ (tFld K (tVar 3) "step") from pe_fld (pv 3) rfl)) (pa_cons ((show PE _ _ (tFld K (tVar 3) "count") from pe_fld (pv 3) rfl)) pa_nil)))))) pa_nil))) rfl)))), ?_⟩
    refine ⟨_, rfl, L, ps.map Pt.n, Dn, rfl, hL.imp (f := Pt.n) (fun v p h => inP_inS h), bd, by rw [List.length_map]; exact l64, k1, k2, fun hn hs H1 s1 => ?_⟩
    have hL1 := hL.same (inP_mono C D Dn) s1
    obtain ⟨vs, hvs, hlen, hall⟩ := id hL1
    refine ⟨_, rfl, _, rfl, L, rfl, ⟨_, SqL.of hvs⟩, fun D1 hD1 => lc_build (xs := vs) MarkP ps markP_mono hD1 hlen (SqL.of hvs) (by omega) ?_ ?_⟩
    · rintro i y p H2 Kc Ke hy hp s ⟨acc, hacc⟩ kk
      obtain ⟨y', hy', t, sv, r, rfl, ht, hq, hrun⟩ := hall i p hp
      rw [hy] at hy'
      cases hy'
      obtain ⟨dr, hr1⟩ := hrun.same s
      refine ⟨t, _, rfl, SqT.of (s _ _ ht), rfl, _, _, rfl, _, _, rfl, rfl, rfl, ?_⟩
      refine ⟨_, rfl, r, D, dr, _, _, rfl, hr1, TD.cl, TD.nF, gf_first _ _ _, _, rfl, r, D, dr, _, _, rfl, hr1, TD.cl, TD.nS, gf_step _ _ _, _, rfl, r, D, dr, _, _, rfl, hr1, TD.cl, TD.nC, gf_count _ _ _, (by show 3 ≤ sizeLine; decide), fun tm htm => ?_⟩
      have sm := same_upd (o := .tup [.int p.f, .int p.s, .int p.c]) htm
      exact kk _ _ sm (markP_wo ⟨tm, rfl, upd_same⟩ (sm _ _ hacc))
    intro H2 s2 hM
    refine ⟨L, D1, ps, Dn, rfl, hL1.same (inP_mono C D Dn) s2, hM, bd, fun k H3 s3 hk hO => ?_⟩
    have sx := (s1.trans s2).trans s3
    refine ⟨_, rfl, x, F, dx, [], rfl, sx _ _ hx, TF.cl, TF.nP, (by show 0 < 1000; decide), ?_⟩
    have hx3 := sx _ _ hx
    have sU : Keeps H3 (upd H3 x (.ins F dx (putF "parts" (.ref k) []))) x := Keeps.upd
    have hk0 : H k = none := by
      cases e : H k with
      | none => rfl
      | some o => exact absurd hk (by rw [(s1.trans s2) _ _ e]; intro z; cases z)
    have hO2 : LAt (OutP C D Dn) (upd H3 x (.ins F dx (putF "parts" (.ref k) []))) k (tog ps) := by
      have nx : ∀ {c : Addr} {o : HO}, H3 c = some o → (∀ fs, o ≠ .ins F dx fs) → upd H3 x (.ins F dx (putF "parts" (.ref k) [])) c = some o := fun {c o} hc n => sU _ _ hc (ne_of hc hx3 (n _))
      obtain ⟨us, h1, h2, h3⟩ := hO
      refine ⟨us, nx h1 (by intro _ z; cases z), h2, fun i p hp => ?_⟩
      obtain ⟨v, hv, t, xr, r, ev, ht, ⟨dq, hq⟩, ⟨dr, hr⟩⟩ := h3 i p hp
      refine ⟨v, hv, t, xr, r, ev, nx ht (by intro _ z; cases z), ⟨dq, sU _ _ hq ?_⟩, ⟨dr, sU _ _ hr ?_⟩⟩
      · exact ne_of hq hx3 (by intro z; injection z with _ _ z; exact rf_nil z)
      · exact ne_of hr hx3 (by intro z; injection z with _ _ z; exact gf_nil z)
    exact k3 hn hs k _ ((same_keeps sx).trans sU) hk0 ⟨dx, k, upd_same, hO2⟩ upd_same hO2
end
end L

set_option Elab.async false
set_option linter.all false
set_option maxRecDepth 100000
set_option maxHeartbeats 4000000
set_option pp.maxSteps 160
set_option pp.deepTerms false
namespace L
open PySem PySem.Spec PyProof.Rows L2 Fl
local macro_rules | `(tactic| walk_at "side") => `(tactic| first | (exact .inl ⟨by omega, by omega⟩) | (exact .inr ⟨by omega, by omega⟩) | (exact .inr ⟨by decide, by decide⟩) | (show (_ : Int) ≠ _; omega) | (exact ⟨by omega, by decide⟩) | (exact ⟨by decide, by decide, by decide⟩))
local macro_rules | `(tactic| walk_at "go") => `(tactic| repeat (first | refine ⟨_, rfl, ?_⟩ | refine ⟨_, _, rfl, rfl, ?_⟩ | refine .inl ⟨_, rfl, ?_⟩ | refine ⟨rfl, ?_⟩ | refine ⟨(by walk_at "side"), ?_⟩))
local macro_rules | `(tactic| walk_at "see") => `(tactic| (set_option pp.maxSteps 110 in set_option pp.deepTerms false in trace_state))
local macro_rules | `(tactic| walk_at "if") => `(tactic| first | refine ifE ?_ ?_ | refine ifNE ?_ ?_ | refine ifD ?_ ?_ | refine ifN ?_ ?_ | refine ifB ?_ ?_)
open Bx

/-! ### numbers by their values: more rules -/
theorem RatQ.keep {C p : Addr} {H H' : Hp} {x : Addr} {n m : Int} (h : RatQ C H x n m) (k : Keeps H H' p) (ne : x ≠ p) : RatQ C H' x n m := RatAt.keep h k ne
theorem RatQ.ne_pool {C : Addr} {p : Pla} {H : Hp} {x : Addr} {n m : Int} (h : RatQ C H x n m) (hp : Pool H p) : x ≠ p := RatAt.ne_pool h hp
theorem NumQ.keep {C : Addr} {p : Pla} {H H' : Hp} {v : V} {n m : Int} (h : NumQ C H v n m) (hP : Pool H p) (k : Keeps H H' p) : NumQ C H' v n m := by
  rcases h with h | ⟨x, e, h⟩
  · exact .inl h
  · exact .inr ⟨x, e, h.keep k (h.ne_pool hP)⟩
theorem sub_q {C : Addr} {H : Hp} {x : Addr} {v : V} {n m n' m' : Int} {Q : VK} (hx : RatQ C H x n m) (hv : NumQ C H v n' m') (s1 : Sq n m) (s2 : Sq n' m') (k : ∀ (z : Addr) (H' : Hp), Same H H' → RatQ C H' z (n * m' + (-n') * m) (m * m') → Q (.ref z) H') :
    rOO C (spSub C) (.ref x) v H Q ∨ rOI C (spSub C) (.ref x) v H Q :=
  ar_q hx hv s1 s2 (Int.ne_of_gt (Int.mul_pos s1.p s2.p)) (fun a b t u h1 h2 => Int.ne_of_gt (Int.mul_pos h1 h2)) (fun a b t u h1 h2 e1 e2 => by grind) k
theorem plus_q {C : Addr} {H : Hp} {x : Addr} {v : V} {n m n' m' : Int} {Q : VK} (hx : RatQ C H x n m) (hv : NumQ C H v n' m') (s1 : Sq n m) (s2 : Sq n' m') (k : ∀ (z : Addr) (H' : Hp), Same H H' → RatQ C H' z (n * m' + n' * m) (m * m') → Q (.ref z) H') :
    rOO C (spAdd C) (.ref x) v H Q ∨ rOI C (spAdd C) (.ref x) v H Q :=
  ar_q hx hv s1 s2 (Int.ne_of_gt (Int.mul_pos s1.p s2.p)) (fun a b t u h1 h2 => Int.ne_of_gt (Int.mul_pos h1 h2)) (fun a b t u h1 h2 e1 e2 => by grind) k
abbrev spRMul (C : Addr) := spArR C (fun a b n => n * a) (fun a b n => 1 * b)
/-- a number times a Ratio -/
theorem mulR_q {C : Addr} {H : Hp} {x : Addr} {v : V} {n m n' m' : Int} {Q : VK} (hv : NumQ C H v n' m') (hx : RatQ C H x n m) (s1 : Sq n m) (s2 : Sq n' m') (k : ∀ (z : Addr) (H' : Hp), Same H H' → RatQ C H' z (n * n') (m * m') → Q (.ref z) H') :
    rOO C (spMul C) v (.ref x) H Q ∨ rIO C (spRMul C) v (.ref x) H Q := by
  obtain ⟨t, u, hn, et, pu, bt, bu⟩ := hv.num s2.p s2.n s2.m
  have nm : m ≠ 0 := by have := s1.p; omega
  have pm := nU_pos (t := n) nm
  have c := n_cross n m
  have b1 := Nat.lt_of_le_of_lt (nT_le (u := m) nm) s1.n
  have b2 := Nat.lt_of_le_of_lt (nU_le (t := n) nm) s1.m
  have M0 : m * m' ≠ 0 := Int.ne_of_gt (Int.mul_pos s1.p s2.p)
  obtain ⟨dx, hx'⟩ := id hx
  rcases id hn with ⟨rfl, rfl⟩ | ⟨y, rfl, dy, hy⟩
  · refine .inr ⟨x, dx, _, t, rfl, hx', rfl, x, t, _, _, rfl, hx, ⟨b1, b2, bt, bu, pm, pu⟩, fun z H' s hz => ⟨z, rfl, k z H' s (RatQ.of hz (by show 1 * nU n m ≠ 0; rw [Int.one_mul]; exact Int.ne_of_gt pm) M0 ?_)⟩⟩
    generalize nT n m = a at *
    generalize nU n m = b at *
    grind
  · refine .inl ⟨y, dy, _, x, dx, _, rfl, hy, rfl, hx', y, .ref x, _, _, _, _, rfl, ⟨dy, hy⟩, .inr ⟨x, rfl, hx⟩, ⟨bt, bu, b1, b2, pu, pm⟩, fun z H' s hz => ⟨z, rfl, k z H' s (RatQ.of hz (Int.ne_of_gt (Int.mul_pos pu pm)) M0 ?_)⟩⟩
    generalize nT n m = a at *
    generalize nU n m = b at *
    grind
theorem neg_q {C : Addr} {H : Hp} {x : Addr} {n m : Int} {Q : VK} (hx : RatQ C H x n m) (s1 : Sq n m) (k : ∀ (z : Addr) (H' : Hp), Same H H' → RatQ C H' z (-n) m → Q (.ref z) H') : rNegO C (spNeg C) (.ref x) H Q := by
  have nm : m ≠ 0 := by have := s1.p; omega
  have pm := nU_pos (t := n) nm
  have c := n_cross n m
  obtain ⟨dx, hx'⟩ := id hx
  refine ⟨x, dx, _, rfl, hx', x, _, _, rfl, hx, pm, Nat.lt_of_le_of_lt (nU_le nm) s1.m, fun z H' s hz => k z H' s (RatQ.of hz (Int.ne_of_gt pm) nm ?_)⟩
  generalize nT n m = a at *
  generalize nU n m = b at *
  grind
theorem eq_q {n m n' m' : Int} (hm : m ≠ 0) (hm' : m' ≠ 0) : (nT n m = nT n' m' ∧ nU n m = nU n' m') ↔ n * m' = n' * m := by
  constructor
  · rintro ⟨e1, e2⟩
    have c1 := n_cross n m
    have c2 := n_cross n' m'
    rw [e1, e2] at c1
    have p := nU_pos (t := n') hm'
    generalize nT n' m' = t at *
    generalize nU n' m' = u at *
    refine Int.eq_of_mul_eq_mul_right (Int.ne_of_gt p) ?_
    grind
  · intro h
    exact n_eq hm hm' h
/-! ### lines -/
def lf (a b : V) : List (Str × V) := putF "slope" b (putF "start" a [])
theorem ss_ne : ¬ (("start" : Str) = "slope") := by decide +kernel
theorem lf_start (a b : V) : (lf a b).lookup ("start" : Str) = some a := by
  unfold lf
  rw [lookup_putF, if_neg ss_ne, lookup_putF, if_pos rfl]
theorem lf_slope (a b : V) : (lf a b).lookup ("slope" : Str) = some b := by
  unfold lf
  rw [lookup_putF, if_pos rfl]
structure LineC (K : PySem.W.Frag) (mg : Str → Option Value) (D : Addr) : Prop where
  cl : Cls K D
  nA : NoAttr K D "start"
  nB : NoAttr K D "slope"
  g : mg "Line" = some (.ref D)
  ha : PySem.W.findIn K (.ref D) "__class__" = some (some (.builtin "object.__class__"))
  hn : PySem.W.specialIn K (.builtin "object.__class__") "__get__" = some (some (.builtin "getset_descriptor.__get__"))
  htk : PySem.W.takesIn K (.builtin "object.__class__") = some true
  hm : PySem.W.mroIn K D (.type "object") = some true
theorem LineC.tyX {K : PySem.W.Frag} {mg : Str → Option Value} {D : Addr} (T : LineC K mg D) {H : Hp} {x dx : Addr} {fs : List (Str × V)} (h : H x = some (.ins D dx fs)) : TyX K H (.ref x) (.ref D) := .base (.ins h T.cl T.ha T.hn T.htk T.hm)
/-- the line x: start n / m, slope n' / m' -/
structure LinQ (C D : Addr) (H : Hp) (x : Addr) (n m n' m' : Int) : Prop where
  ex : ∃ dx a b, H x = some (.ins D dx (lf (.ref a) (.ref b))) ∧ RatQ C H a n m ∧ RatQ C H b n' m'
theorem LinQ.same {C D : Addr} {H H' : Hp} {x : Addr} {n m n' m' : Int} (h : LinQ C D H x n m n' m') (k : Same H H') : LinQ C D H' x n m n' m' := by
  obtain ⟨dx, a, b, h, ha, hb⟩ := h.ex
  exact ⟨dx, a, b, k _ _ h, ha.same k, hb.same k⟩
theorem LinQ.keep {C D : Addr} {p : Pla} {H H' : Hp} {x : Addr} {n m n' m' : Int} (h : LinQ C D H x n m n' m') (hP : Pool H p) (k : Keeps H H' p) : LinQ C D H' x n m n' m' := by
  obtain ⟨dx, a, b, h, ha, hb⟩ := h.ex
  refine ⟨dx, a, b, k _ _ h ?_, ha.keep k (ha.ne_pool hP), hb.keep k (hb.ne_pool hP)⟩
  obtain ⟨ns, i, b, c, d, h1, _⟩ := hP
  exact ne_of h h1 (by intro z; cases z)
theorem LinQ.re {C D : Addr} {H : Hp} {x : Addr} {n m n' m' a b c d : Int} (h : LinQ C D H x n m n' m') (hm : m ≠ 0) (hm' : m' ≠ 0) (hb : b ≠ 0) (hd : d ≠ 0) (e1 : n * b = a * m) (e2 : n' * d = c * m') : LinQ C D H x a b c d := by
  obtain ⟨dx, x1, x2, h, h1, h2⟩ := h.ex
  exact ⟨dx, x1, x2, h, h1.re hm hb e1, h2.re hm' hd e2⟩
theorem Sq.of {b : Nat} {n m : Int} (h : 0 < m) (h1 : n.natAbs < 2 ^ b) (h2 : m.natAbs < 2 ^ b) (hb : b ≤ 4400) : Sq n m := ⟨h, ub h1 hb, ub h2 hb⟩
theorem pe_mk0 {X : Cx} {k : Nat} {C : Addr} {x : Str} {ps : List Str} {dvs : List V} {sp : Sp} {p pos : Pos} {e : Expr} {es : List Expr} {t : TA} (M : CalC X.prog X.w X.K X.mg X.base CX0 k C x ps dvs sp) (hr : Room (k + 1) X.A) (ha : PA X (e :: es) t) (hg : Gl X x := by rfl)
    (hdb : (x == ("__debug__" : Str)) = false := by decide) (he : starEach (e :: es) X.env = (false, eval e X.env) :: starEach es X.env := by rfl) (hpl : (backTo pos (starEach es X.env)).any (·.1) = false := by rfl) :
    PE X (.Call (.Name x p) (e :: es) [] pos) (tMake C sp dvs E0 t) := by
  obtain ⟨f, fd, ds, M, F, m, b, d⟩ := M.ex
  exact pe_make M F hr hg m b d pass0 ha hdb he hpl
theorem putF_ne {x : Str} {v : V} : putF x v [] ≠ [] := by intro h; cases h
theorem ln_ne0 {t u : Int} (h : rf t u = []) : False := by
  have e := congrArg (List.lookup ("top" : Str)) h
  rw [rf_top] at e
  cases e
theorem ln_ne {t u : Int} {a : V} (h : rf t u = putF "start" a []) : False := by
  have e := congrArg (List.lookup ("top" : Str)) h
  rw [rf_top, lookup_putF, if_neg (by decide +kernel)] at e
  cases e

abbrev spRSub (C : Addr) := spArR C (fun a b n => n * b - a * 1) (fun a b n => 1 * b)
/-- a number less a Ratio -/
theorem subR_q {C : Addr} {H : Hp} {x : Addr} {v : V} {n m n' m' : Int} {Q : VK} (hv : NumQ C H v n' m') (hx : RatQ C H x n m) (s1 : Sq n m) (s2 : Sq n' m') (k : ∀ (z : Addr) (H' : Hp), Same H H' → RatQ C H' z (n' * m - n * m') (m' * m) → Q (.ref z) H') :
    rOO C (spSub C) v (.ref x) H Q ∨ rIO C (spRSub C) v (.ref x) H Q := by
  obtain ⟨t, u, hn, et, pu, bt, bu⟩ := hv.num s2.p s2.n s2.m
  have nm : m ≠ 0 := by have := s1.p; omega
  have pm := nU_pos (t := n) nm
  have c := n_cross n m
  have b1 := Nat.lt_of_le_of_lt (nT_le (u := m) nm) s1.n
  have b2 := Nat.lt_of_le_of_lt (nU_le (t := n) nm) s1.m
  have M0 : m' * m ≠ 0 := Int.ne_of_gt (Int.mul_pos s2.p s1.p)
  obtain ⟨dx, hx'⟩ := id hx
  rcases id hn with ⟨rfl, rfl⟩ | ⟨y, rfl, dy, hy⟩
  · refine .inr ⟨x, dx, _, t, rfl, hx', rfl, x, t, _, _, rfl, hx, ⟨b1, b2, bt, bu, pm, pu⟩, fun z H' s hz => ⟨z, rfl, k z H' s (RatQ.of hz (by show 1 * nU n m ≠ 0; rw [Int.one_mul]; exact Int.ne_of_gt pm) M0 ?_)⟩⟩
    generalize nT n m = a at *
    generalize nU n m = b at *
    grind
  · refine .inl ⟨y, dy, _, x, dx, _, rfl, hy, rfl, hx', y, .ref x, _, _, _, _, rfl, ⟨dy, hy⟩, .inr ⟨x, rfl, hx⟩, ⟨bt, bu, b1, b2, pu, pm⟩, fun z H' s hz => ⟨z, rfl, k z H' s (RatQ.of hz (Int.ne_of_gt (Int.mul_pos pu pm)) M0 ?_)⟩⟩
    generalize nT n m = a at *
    generalize nU n m = b at *
    grind
theorem fdiv_q {a b n m : Int} (hb : 0 < b) (hm : 0 < m) (e : a * m = n * b) : a.fdiv b = n.fdiv m := by
  rw [Int.fdiv_eq_ediv_of_nonneg _ (by omega), Int.fdiv_eq_ediv_of_nonneg _ (by omega), ← Int.mul_ediv_mul_of_pos_left a b hm, e, Int.mul_comm b m, Int.mul_ediv_mul_of_pos_left n m hb]
theorem lt_q {a b t u n m n' m' : Int} (hb : 0 < b) (hu : 0 < u) (hm : 0 < m) (hm' : 0 < m') (e1 : a * m = n * b) (e2 : t * m' = n' * u) : (a * u < t * b ↔ n * m' < n' * m) ∧ (a * u ≤ t * b ↔ n * m' ≤ n' * m) := by
  have X : 0 < m * m' := Int.mul_pos hm hm'
  have Y : 0 < b * u := Int.mul_pos hb hu
  have h1 : a * u * (m * m') = n * m' * (b * u) := by grind
  have h2 : t * b * (m * m') = n' * m * (b * u) := by grind
  constructor
  · rw [← Int.mul_lt_mul_right X, h1, h2, Int.mul_lt_mul_right Y]
  · rw [← Int.mul_le_mul_right X, h1, h2, Int.mul_le_mul_right Y]
/-- a Ratio compared with a number -/
theorem cmp_q {C : Addr} {f : Int → Int → Bool} {p : Int → Int → Bool} {H : Hp} {x : Addr} {v : V} {n m n' m' : Int} {Q : VK} (hx : RatQ C H x n m) (hv : NumQ C H v n' m') (s1 : Sq n m) (s2 : Sq n' m')
    (hf : ∀ a b t u : Int, 0 < b → 0 < u → a * m = n * b → t * m' = n' * u → f (a * u) (t * b) = p (n * m') (n' * m)) (q : Q (.bl (p (n * m') (n' * m))) H) : cOO C (spCmp C f) (.ref x) v H Q ∨ cOI C (spCmp C f) (.ref x) v H Q := by
  obtain ⟨t, u, hn, et, pu, bt, bu⟩ := hv.num s2.p s2.n s2.m
  have nm : m ≠ 0 := by have := s1.p; omega
  have pm := nU_pos (t := n) nm
  have sm : Sm (nT n m) (nU n m) t u := ⟨Nat.lt_of_le_of_lt (nT_le nm) s1.n, Nat.lt_of_le_of_lt (nU_le nm) s1.m, bt, bu, pm, pu⟩
  have e := hf _ _ _ _ pm pu (n_cross n m) et
  rw [← e] at q
  obtain ⟨dx, hx'⟩ := id hx
  rcases id hn with ⟨rfl, rfl⟩ | ⟨y, rfl, dy, hy⟩
  · exact .inr ⟨x, dx, _, t, rfl, hx', rfl, x, .int t, _, _, t, 1, rfl, hx, hn, sm, _, rfl, q⟩
  · exact .inl ⟨x, dx, _, y, dy, _, rfl, hx', rfl, hy, x, .ref y, _, _, t, u, rfl, hx, hn, sm, _, rfl, q⟩
theorem le_q {C : Addr} {H : Hp} {x : Addr} {v : V} {n m n' m' : Int} {Q : VK} (hx : RatQ C H x n m) (hv : NumQ C H v n' m') (s1 : Sq n m) (s2 : Sq n' m') (q : Q (.bl (decide (n * m' ≤ n' * m))) H) : cOO C (spCmp C fun i j => decide (i ≤ j)) (.ref x) v H Q ∨ cOI C (spCmp C fun i j => decide (i ≤ j)) (.ref x) v H Q :=
  cmp_q (p := fun i j => decide (i ≤ j)) hx hv s1 s2 (fun a b t u hb hu e1 e2 => decide_eq_decide.mpr (lt_q hb hu s1.p s2.p e1 e2).2) q
theorem less_q {C : Addr} {H : Hp} {x : Addr} {v : V} {n m n' m' : Int} {Q : VK} (hx : RatQ C H x n m) (hv : NumQ C H v n' m') (s1 : Sq n m) (s2 : Sq n' m') (q : Q (.bl (decide (n * m' < n' * m))) H) : cOO C (spCmp C fun i j => decide (i < j)) (.ref x) v H Q ∨ cOI C (spCmp C fun i j => decide (i < j)) (.ref x) v H Q :=
  cmp_q (p := fun i j => decide (i < j)) hx hv s1 s2 (fun a b t u hb hu e1 e2 => decide_eq_decide.mpr (lt_q hb hu s1.p s2.p e1 e2).1) q
section
variable {P : Program} {w : World} {K : PySem.W.Frag} {mg : Str → Option Value} {base : Heap}
def spOver (C ZU : Addr) : Sp := fun vs H Q E => ∃ (x : Addr) (v2 : V) (a b t u : Int), vs = [.ref x, v2] ∧ RatAt C H x a b ∧ Num C H v2 t u ∧ Sm a b t u ∧ (t = 0 → ∀ H', Same H H' → E (.ref ZU) none H') ∧
  (t ≠ 0 → ∀ (z : Addr) (H' : Hp), Same H H' → RatAt C H' z (nT (a * u) (b * t)) (nU (a * u) (b * t)) → Q (.ref z) H')
theorem ok_over {C ZU fA : Addr} {fd : FuncData} (T : RatC K mg C) (C_top_of : CalTopOf P w K mg base C) (C_under_of : CalUnderOf P w K mg base C) (M2 : CalRatio P w K mg base C ZU []) (F : Fun K "over" "Ratio.over" s_Ratio_over fA fd) : FnOk P w K mg base (L2.CX P w) 3 fA fd ["self", "number"] (spOver C ZU) := by
  refine F.okX sc_Ratio_over (fun vs H Q E h => ?_) (fun cdv A outer st H vs Q E hr h => ?_)
  · obtain ⟨x, v, a, b, t, u, rfl, _⟩ := h
    rfl
  · obtain ⟨x, v, a, b, t, u, rfl, ⟨dx, hx⟩, hv, sm, k0, k⟩ := h
    refine ⟨_, (pss_one (ps_ret (pe_mkS M2 (takes_of rfl rfl rfl rfl) (hr.mono (by decide)) (pa_cons (pe_op op_mulW (pe_fld (pv 0) rfl) (pe_cal C_under_of (hr.mono (by decide)) (pa_cons (pv 1) pa_nil))) (pa_cons (pe_op op_mulW (pe_fld (pv 0) rfl) (pe_cal C_top_of (hr.mono (by decide)) (pa_cons (pv 1) pa_nil))) pa_nil))))), ?_⟩
    refine ⟨_, rfl, x, C, dx, _, _, rfl, hx, T.cl, T.nT, rf_top _ _, ?_⟩
    refine ⟨_, rfl, v, t, u, rfl, hv, _, _, rfl, rfl, wm sm.sa sm.su, ?_⟩
    refine ⟨_, rfl, x, C, dx, _, _, rfl, hx, T.cl, T.nU, rf_under _ _, ?_⟩
    refine ⟨_, rfl, v, t, u, rfl, hv, _, _, rfl, rfl, wm sm.sb sm.st, ?_⟩
    refine fun z dz nz ndz ne => ?_
    have s0 : Same H (upd (upd H dz (.own z)) z (.ins C dz [])) := made (H' := upd (upd H dz (.own z)) z (.ins C dz [])) nz ndz (Keeps.refl _ _)
    have b0 := sm.bp
    refine ⟨z, dz, _, b * t, rfl, upd_same, ub (wu sm.sb sm.st) (by decide), fun h H' hz hk => ⟨rfl, k (fun e => h (by rw [e, Int.mul_zero])) z H' (made nz ndz hk) ⟨dz, hz⟩⟩, fun h => k0 ?_ _ s0⟩
    rcases Int.mul_eq_zero.mp h with h | h
    · omega
    · exact h

def spOvQ (C : Addr) : Sp := fun vs H Q _ => ∃ (x : Addr) (v : V) (n m n' m' : Int), vs = [.ref x, v] ∧ RatQ C H x n m ∧ NumQ C H v n' m' ∧ Sq n m ∧ Sq n' m' ∧ 0 < n' ∧ ∀ (z : Addr) (H' : Hp), Same H H' → RatQ C H' z (n * m') (m * n') → Q (.ref z) H'
theorem ov_of {C ZU f : Addr} {fd : FuncData} (F : FnOk P w K mg base (L2.CX P w) 3 f fd ["self", "number"] (spOver C ZU)) : FnOk P w K mg base (L2.CX P w) 3 f fd ["self", "number"] (spOvQ C) := F.imp fun vs H Q E h => by
  obtain ⟨x, v, n, m, n', m', rfl, hx, hv, s1, s2, n0, k⟩ := h
  obtain ⟨t, u, hn, et, pu, bt, bu⟩ := hv.num s2.p s2.n s2.m
  have nm : m ≠ 0 := by have := s1.p; omega
  have pm := nU_pos (t := n) nm
  have sm : Sm (nT n m) (nU n m) t u := ⟨Nat.lt_of_le_of_lt (nT_le nm) s1.n, Nat.lt_of_le_of_lt (nU_le nm) s1.m, bt, bu, pm, pu⟩
  have t0 : 0 < t := by
    rcases (by omega : t ≤ 0 ∨ 0 < t) with h | h
    · have h1 := Int.mul_pos n0 pu
      have h2 : t * m' ≤ 0 := Int.mul_nonpos_of_nonpos_of_nonneg h (Int.le_of_lt s2.p)
      omega
    · exact h
  have c := n_cross n m
  refine ⟨x, v, _, _, t, u, rfl, hx, hn, sm, fun h => absurd h (by omega), fun _ z H' s hz => k z H' s (RatQ.of hz (Int.ne_of_gt (Int.mul_pos pm t0)) (Int.ne_of_gt (Int.mul_pos s1.p n0)) ?_)⟩
  generalize nT n m = a at *
  generalize nU n m = b at *
  grind
structure CalMXS (P : Program) (w : World) (K : PySem.W.Frag) (mg : Str → Option Value) (base : Heap) (k : Nat) (C : Addr) (m : Str) (ps : List Str) (sp : Sp) : Prop where
  ex : ∃ (f : Addr) (fd : FuncData), Meth K C m f ∧ FnOk P w K mg base (L2.CX P w) k f fd ps sp ∧ Binds K fd ps []
theorem pe_mX {X : Cx} {k : Nat} {C : Addr} {m : Str} {ps : List Str} {sp : Sp} {pl : Sem Bool} {o e : Expr} {es : List Expr} {apos pos : Pos} {ta : TE} {t : TA} (c : Cls X.K C) (M : CalMXS X.prog X.w X.K X.mg X.base k C m ps sp) (hr : Room k X.A) (he : PE X o ta) (ha : PA X (e :: es) t)
    (hst : starEach (e :: es) X.env = (false, eval e X.env) :: starEach es X.env := by rfl) (hpl : (backTo pos (starEach es X.env)).any (·.1) = false := by rfl)
    (ht : eval (.Call (.Attribute o m apos) (e :: es) [] pos) X.env = (do
      let ov ← eval o X.env
      standAt apos.atName
      let (f, first) ← holding [ov] (getMethod ov m pl)
      callWith pos f first (backTo pos (starEach (e :: es) X.env)) (backToKw pos (keywordEach [] X.env))) := by rfl) :
    PE X (.Call (.Attribute o m apos) (e :: es) [] pos) (tMeth C m sp [] E0 ta t) := by
  obtain ⟨f, fd, hm, F, b⟩ := M.ex
  exact pe_meth he c hm F hr b .nil passL ha hst hpl ht

def spLine (C D : Addr) : Sp := fun vs H Q _ => ∃ (x dx : Addr) (v u : V) (n m n' m' : Int), vs = [.ref x, v, u] ∧ H x = some (.ins D dx []) ∧ NumQ C H v n m ∧ NumQ C H u n' m' ∧ m ≠ 0 ∧ m' ≠ 0 ∧ ∀ H' : Hp, Keeps H H' x → LinQ C D H' x n m n' m' → Q .non H'
abbrev CalLine (P : Program) (w : World) (K : PySem.W.Frag) (mg : Str → Option Value) (base : Heap) (C D : Addr) := CalC P w K mg base CX0 4 D "Line" ["self", "start", "slope"] [] (spLine C D)
/-- as_ratio of a number -/
theorem asr_q {C : Addr} {H : Hp} {v : V} {n m : Int} {Q : VK} {E : XK} (hv : NumQ C H v n m) (hm : m ≠ 0) (k : ∀ (x : Addr) (H' : Hp), Same H H' → RatQ C H' x n m → Q (.ref x) H') : spAsRatio C [v] H Q E := by
  rcases hv with ⟨z, rfl, ez⟩ | ⟨x, rfl, hx⟩
  · refine .inr ⟨z, rfl, fun x H' _ s h => k x H' s ?_⟩
    rw [← (n_one z).1, ← (n_one z).2] at h
    rw [(n_one z).2] at h
    exact RatQ.of (t := z) (u := 1) (by rw [(n_one z).2]; exact h) (by decide) hm (by rw [Int.mul_one]; exact ez)
  · exact .inl ⟨x, _, _, rfl, hx, k x H (Same.refl H) hx⟩
def spAsQ (C : Addr) : Sp := fun vs H Q _ => ∃ (v : V) (n m : Int), vs = [v] ∧ NumQ C H v n m ∧ m ≠ 0 ∧ ∀ (x : Addr) (H' : Hp), Same H H' → RatQ C H' x n m → Q (.ref x) H'
abbrev CalAsQ (P : Program) (w : World) (K : PySem.W.Frag) (mg : Str → Option Value) (base : Heap) (C : Addr) := Cal P w K mg base 3 "as_ratio" ["number"] (spAsQ C)
theorem asq_of {C : Addr} (h : CalAsRatio P w K mg base C) : CalAsQ P w K mg base C := by
  obtain ⟨f, fd, F, hg, hk, b⟩ := h.ex
  refine ⟨f, fd, F.imp fun vs H Q E q => ?_, hg, hk, b⟩
  obtain ⟨v, n, m, rfl, hv, hm, k⟩ := q
  exact asr_q hv hm k
def MkR (D BN : Addr) (H : Hp) (f s c : Int) (Q : VK) (E : XK) : Prop :=
  (f < 0 → Ref E BN H "first" f) ∧ (0 ≤ f → c < 1 → Ref E BN H "count" c) ∧ (0 ≤ f → 1 ≤ c → ∀ (x : Addr) (H' : Hp), Same H H' → RunAt D H' x f (if c > 1 then s else 1) c → Q (.ref x) H')
theorem mkr {D BN : Addr} {H : Hp} {f s c : Int} {Q : VK} {E : XK} (h1 : 1 ≤ s) (h4 : s ≤ 4) (h : MkR D BN H f s c Q E) : ∀ x dx, H x = none → H dx = none → dx ≠ x → spRunInit D BN (.ref x :: ([V.int f, V.int s, V.int c] ++ [])) (upd (upd H dx (.own x)) x (.ins D dx [])) (fun v H2 => v = .non ∧ Q (.ref x) H2) E := by
  intro x dx nx ndx ne
  have s0 : Same H (upd (upd H dx (.own x)) x (.ins D dx [])) := made (H' := upd (upd H dx (.own x)) x (.ins D dx [])) nx ndx (Keeps.refl _ _)
  exact ⟨x, dx, f, s, c, rfl, upd_same, fun h0 => (h.1 h0).same s0, fun _ hs => absurd hs (by omega), fun h0 _ _ hc => (h.2.1 h0 hc).same s0, fun h0 _ _ h1 H' hx hk => ⟨rfl, h.2.2 h0 h1 x H' (made nx ndx hk) ⟨dx, hx⟩⟩⟩
theorem MkR.to {D BN : Addr} {H : Hp} {f s c : Int} {Q : VK} {E : XK} (h0 : 0 ≤ f) (h1 : 1 ≤ c) (k : ∀ (x : Addr) (H' : Hp), Same H H' → RunAt D H' x f (if c > 1 then s else 1) c → Q (.ref x) H') : MkR D BN H f s c Q E := ⟨fun h => absurd h (by omega), fun _ h => absurd h (by omega), fun _ _ => k⟩
theorem mkr2 {D BN : Addr} {H : Hp} {f s c : Int} {Q : Addr → Hp → Prop} {E : XK} (h0 : 0 ≤ f) (h1 : 1 ≤ s) (h4 : s ≤ 4) (hc : 1 ≤ c) (k : ∀ (x : Addr) (H' : Hp), Same H H' → RunAt D H' x f (if c > 1 then s else 1) c → Q x H') : ∀ x dx, H x = none → H dx = none → dx ≠ x → spRunInit D BN (.ref x :: ([V.int f, V.int s, V.int c] ++ [])) (upd (upd H dx (.own x)) x (.ins D dx [])) (fun v H2 => v = .non ∧ Q x H2) E := by
  intro x dx nx ndx ne
  exact ⟨x, dx, f, s, c, rfl, upd_same, fun h => absurd h (by omega), fun _ hs => absurd hs (by omega), fun _ _ _ h => absurd h (by omega), fun _ _ _ _ H' hx hk => ⟨rfl, k x H' (made nx ndx hk) ⟨dx, hx⟩⟩⟩
theorem run_st1 {f s c : Int} (h0 : 0 ≤ f) (h1 : 1 ≤ s) (h4 : s ≤ 4) (hc : 1 ≤ c) : RunOk f (if c > 1 then s else 1) c := run_st ⟨h0, h1, h4, hc⟩

def spEven (D BN : Addr) : Sp := fun vs H Q E => ∃ (m : Int), vs = [.ref D, .int m] ∧ MkR D BN H 0 2 (m + 1) Q E
theorem ok_even {D BN g : Addr} {fd : FuncData} (MR : CalRun P w K mg base D BN) (F : Fun K "even" "Run.even" s_Run_even g fd) : FnOk P w K mg base (L2.CX P w) 5 g fd ["cls", "m"] (spEven D BN) := by
  refine F.okX sc_Run_even (fun vs H Q E h => ?_) (fun cdv A outer st H vs Q E hr h => ?_)
  · obtain ⟨m, rfl, _⟩ := h
    rfl
  · obtain ⟨m, rfl, q⟩ := h
    refine ⟨_, pss_one (ps_ret (pe_mkV MR (fun σ => passAt (takes_of rfl rfl rfl rfl) σ) (hr.mono (by decide)) (pv 0) (pa_cons (pe_int) (pa_cons (pe_int) (pa_cons (pe_op op_add (pv 1) (pe_int)) pa_nil))))), ?_⟩
    exact ⟨_, rfl, rfl, _, rfl, _, _, rfl, rfl, mkr (by decide) (by decide) q⟩

end
end L

set_option Elab.async false
set_option linter.all false
set_option maxRecDepth 100000
set_option maxHeartbeats 4000000
set_option pp.maxSteps 160
set_option pp.deepTerms false
namespace L
open PySem PySem.Spec PyProof.Rows L2 Fl
local macro_rules | `(tactic| walk_at "side") => `(tactic| first | (exact .inl ⟨by omega, by omega⟩) | (exact .inr ⟨by omega, by omega⟩) | (exact .inr ⟨by decide, by decide⟩) | (show (_ : Int) ≠ _; omega) | (exact ⟨by omega, by decide⟩) | (exact ⟨by decide, by decide, by decide⟩))
local macro_rules | `(tactic| walk_at "go") => `(tactic| repeat (first | refine ⟨_, rfl, ?_⟩ | refine ⟨_, _, rfl, rfl, ?_⟩ | refine .inl ⟨_, rfl, ?_⟩ | refine ⟨rfl, ?_⟩ | refine ⟨(by walk_at "side"), ?_⟩))
local macro_rules | `(tactic| walk_at "see") => `(tactic| (set_option pp.maxSteps 110 in set_option pp.deepTerms false in trace_state))
local macro_rules | `(tactic| walk_at "if") => `(tactic| first | refine ifE ?_ ?_ | refine ifNE ?_ ?_ | refine ifD ?_ ?_ | refine ifN ?_ ?_ | refine ifB ?_ ?_)
open Bx

abbrev spRAdd (C : Addr) := spArR C (fun a b n => n * b + a * 1) (fun a b n => 1 * b)
/-- a number and a Ratio added -/
theorem addR_q {C : Addr} {H : Hp} {x : Addr} {v : V} {n m n' m' : Int} {Q : VK} (hv : NumQ C H v n' m') (hx : RatQ C H x n m) (s1 : Sq n m) (s2 : Sq n' m') (k : ∀ (z : Addr) (H' : Hp), Same H H' → RatQ C H' z (n' * m + n * m') (m' * m) → Q (.ref z) H') :
    rOO C (spAdd C) v (.ref x) H Q ∨ rIO C (spRAdd C) v (.ref x) H Q := by
  obtain ⟨t, u, hn, et, pu, bt, bu⟩ := hv.num s2.p s2.n s2.m
  have nm : m ≠ 0 := by have := s1.p; omega
  have pm := nU_pos (t := n) nm
  have c := n_cross n m
  have b1 := Nat.lt_of_le_of_lt (nT_le (u := m) nm) s1.n
  have b2 := Nat.lt_of_le_of_lt (nU_le (t := n) nm) s1.m
  have M0 : m' * m ≠ 0 := Int.ne_of_gt (Int.mul_pos s2.p s1.p)
  obtain ⟨dx, hx'⟩ := id hx
  rcases id hn with ⟨rfl, rfl⟩ | ⟨y, rfl, dy, hy⟩
  · refine .inr ⟨x, dx, _, t, rfl, hx', rfl, x, t, _, _, rfl, hx, ⟨b1, b2, bt, bu, pm, pu⟩, fun z H' s hz => ⟨z, rfl, k z H' s (RatQ.of hz (by show 1 * nU n m ≠ 0; rw [Int.one_mul]; exact Int.ne_of_gt pm) M0 ?_)⟩⟩
    generalize nT n m = a at *
    generalize nU n m = b at *
    grind
  · refine .inl ⟨y, dy, _, x, dx, _, rfl, hy, rfl, hx', y, .ref x, _, _, _, _, rfl, ⟨dy, hy⟩, .inr ⟨x, rfl, hx⟩, ⟨bt, bu, b1, b2, pu, pm⟩, fun z H' s hz => ⟨z, rfl, k z H' s (RatQ.of hz (Int.ne_of_gt (Int.mul_pos pu pm)) M0 ?_)⟩⟩
    generalize nT n m = a at *
    generalize nU n m = b at *
    grind
/-- the numbers of the program: how they are reckoned with -/
structure RA (P : Program) (w : World) (K : PySem.W.Frag) (mg : Str → Option Value) (base : Heap) (C : Addr) : Prop where
  T : RatC K mg C
  hSF : PySem.W.selfFirst K C = true
  siC : PySem.W.subIn K (.type "int") (.ref C) = some false
  scI : PySem.W.subIn K (.ref C) (.type "int") = some false
  OAdd : OpOwn P w K mg base 3 C (PySem.dunder (Operator.info .Add).2) ["self", "other"] (spAdd C)
  hAdd : ∃ g : Addr, PySem.W.findIn K (.ref C) (dunderR (Operator.info .Add).2) = some (some (.ref g))
  iAdd : ∃ f, PySem.W.findIn K (.type "int") (PySem.dunder (Operator.info .Add).2) = some f
  jAdd : ∃ f, PySem.W.findIn K (.type "int") (dunderR (Operator.info .Add).2) = some f
  RAdd : OpOwn P w K mg base 4 C (dunderR (Operator.info .Add).2) ["self", "other"] (spRAdd C)
  OSub : OpOwn P w K mg base 3 C (PySem.dunder (Operator.info .Sub).2) ["self", "other"] (spSub C)
  hSub : ∃ g : Addr, PySem.W.findIn K (.ref C) (dunderR (Operator.info .Sub).2) = some (some (.ref g))
  iSub : ∃ f, PySem.W.findIn K (.type "int") (PySem.dunder (Operator.info .Sub).2) = some f
  jSub : ∃ f, PySem.W.findIn K (.type "int") (dunderR (Operator.info .Sub).2) = some f
  RSub : OpOwn P w K mg base 4 C (dunderR (Operator.info .Sub).2) ["self", "other"] (spRSub C)
  OMult : OpOwn P w K mg base 3 C (PySem.dunder (Operator.info .Mult).2) ["self", "other"] (spMul C)
  hMult : ∃ g : Addr, PySem.W.findIn K (.ref C) (dunderR (Operator.info .Mult).2) = some (some (.ref g))
  iMult : ∃ f, PySem.W.findIn K (.type "int") (PySem.dunder (Operator.info .Mult).2) = some f
  jMult : ∃ f, PySem.W.findIn K (.type "int") (dunderR (Operator.info .Mult).2) = some f
  RMult : OpOwn P w K mg base 4 C (dunderR (Operator.info .Mult).2) ["self", "other"] (spRMul C)
  NEG : OpOwn P w K mg base 3 C "__neg__" ["self"] (spNeg C)
  OV : CalMXS P w K mg base 3 C "over" ["self", "number"] (spOvQ C)
  Mlt : OpOwn P w K mg base 2 C "__lt__" ["self", "other"] (spCmp C fun i j => decide (i < j))
  Mle : OpOwn P w K mg base 2 C "__le__" ["self", "other"] (spCmp C fun i j => decide (i ≤ j))
  ASQ : CalAsQ P w K mg base C
theorem num_ref {C : Addr} {H : Hp} {x : Addr} {n m : Int} (h : RatQ C H x n m) : NumQ C H (.ref x) n m := .inr ⟨x, rfl, h⟩
theorem num_int {C : Addr} {H : Hp} (n : Int) : NumQ C H (.int n) n 1 := .inl ⟨n, rfl, Int.mul_one n⟩
/-- two numbers, at least one of them a Ratio -/
def qAdd (C : Addr) : R2 := fun x y H Q => ∃ n m n' m' : Int, NumQ C H x n m ∧ NumQ C H y n' m' ∧ ((∃ a, x = .ref a) ∨ ∃ a, y = .ref a) ∧ Sq n m ∧ Sq n' m' ∧ ∀ (z : Addr) (H' : Hp), Same H H' → RatQ C H' z (n * m' + n' * m) (m * m') → Q (.ref z) H'
theorem op_qAdd {X : Cx} {C : Addr} (R : RA X.prog X.w X.K X.mg X.base C) (hr : Room 4 X.A) : OpR X (binaryOp .Add) (qAdd C) := by
  obtain ⟨rg, hR⟩ := R.hAdd
  obtain ⟨fi, hi⟩ := R.iAdd
  obtain ⟨fj, hj⟩ := R.jAdd
  obtain ⟨_, _, hO, _⟩ := id R.OAdd.ex
  intro pins s σ H x y v u Q I rx ry ⟨n, m, n', m', hx, hy, hrr, s1, s2, k⟩
  rcases id hx with ⟨z, rfl, ez⟩ | ⟨a, rfl, ha⟩
  · rcases id hy with ⟨z', rfl, ez'⟩ | ⟨b, rfl, hb⟩
    · rcases hrr with ⟨_, e⟩ | ⟨_, e⟩ <;> cases e
    · exact (op_or (op_oo (op := .Add) R.OAdd R.hSF (hr.mono (by decide))) (op_io (op := .Add) R.RAdd R.hSF hO R.scI PySem.F.fills_int_add PySem.F.slot_int_add PySem.F.entry_int_add PySem.F.args_int_add_2 int_add_own (hr.mono (by decide)))) pins s σ H _ _ v u Q I rx ry (addR_q hx hb s2 s1 fun z H' ss hz => k z H' ss (by exact hz))
  · exact (op_or (op_oo (op := .Add) R.OAdd R.hSF (hr.mono (by decide))) (op_oi (op := .Add) R.OAdd R.hSF hR (.inr ⟨_, rfl⟩) hi hj R.siC (hr.mono (by decide)))) pins s σ H _ _ v u Q I rx ry (plus_q ha hy s1 s2 fun z H' ss hz => k z H' ss (by exact hz))
/-- two numbers, at least one of them a Ratio -/
def qSub (C : Addr) : R2 := fun x y H Q => ∃ n m n' m' : Int, NumQ C H x n m ∧ NumQ C H y n' m' ∧ ((∃ a, x = .ref a) ∨ ∃ a, y = .ref a) ∧ Sq n m ∧ Sq n' m' ∧ ∀ (z : Addr) (H' : Hp), Same H H' → RatQ C H' z (n * m' - n' * m) (m * m') → Q (.ref z) H'
theorem op_qSub {X : Cx} {C : Addr} (R : RA X.prog X.w X.K X.mg X.base C) (hr : Room 4 X.A) : OpR X (binaryOp .Sub) (qSub C) := by
  obtain ⟨rg, hR⟩ := R.hSub
  obtain ⟨fi, hi⟩ := R.iSub
  obtain ⟨fj, hj⟩ := R.jSub
  obtain ⟨_, _, hO, _⟩ := id R.OSub.ex
  intro pins s σ H x y v u Q I rx ry ⟨n, m, n', m', hx, hy, hrr, s1, s2, k⟩
  rcases id hx with ⟨z, rfl, ez⟩ | ⟨a, rfl, ha⟩
  · rcases id hy with ⟨z', rfl, ez'⟩ | ⟨b, rfl, hb⟩
    · rcases hrr with ⟨_, e⟩ | ⟨_, e⟩ <;> cases e
    · exact (op_or (op_oo (op := .Sub) R.OSub R.hSF (hr.mono (by decide))) (op_io (op := .Sub) R.RSub R.hSF hO R.scI PySem.F.fills_int_sub PySem.F.slot_int_sub PySem.F.entry_int_sub PySem.F.args_int_sub_2 int_sub_own (hr.mono (by decide)))) pins s σ H _ _ v u Q I rx ry (subR_q hx hb s2 s1 fun z H' ss hz => k z H' ss (by exact hz))
  · exact (op_or (op_oo (op := .Sub) R.OSub R.hSF (hr.mono (by decide))) (op_oi (op := .Sub) R.OSub R.hSF hR (.inr ⟨_, rfl⟩) hi hj R.siC (hr.mono (by decide)))) pins s σ H _ _ v u Q I rx ry (sub_q ha hy s1 s2 fun z H' ss hz => k z H' ss (by rw [show n * m' - n' * m = n * m' + -n' * m by rw [Int.neg_mul]; rfl]; exact hz))
/-- two numbers, at least one of them a Ratio -/
def qMult (C : Addr) : R2 := fun x y H Q => ∃ n m n' m' : Int, NumQ C H x n m ∧ NumQ C H y n' m' ∧ ((∃ a, x = .ref a) ∨ ∃ a, y = .ref a) ∧ Sq n m ∧ Sq n' m' ∧ ∀ (z : Addr) (H' : Hp), Same H H' → RatQ C H' z (n * n') (m * m') → Q (.ref z) H'
theorem op_qMult {X : Cx} {C : Addr} (R : RA X.prog X.w X.K X.mg X.base C) (hr : Room 4 X.A) : OpR X (binaryOp .Mult) (qMult C) := by
  obtain ⟨rg, hR⟩ := R.hMult
  obtain ⟨fi, hi⟩ := R.iMult
  obtain ⟨fj, hj⟩ := R.jMult
  obtain ⟨_, _, hO, _⟩ := id R.OMult.ex
  intro pins s σ H x y v u Q I rx ry ⟨n, m, n', m', hx, hy, hrr, s1, s2, k⟩
  rcases id hx with ⟨z, rfl, ez⟩ | ⟨a, rfl, ha⟩
  · rcases id hy with ⟨z', rfl, ez'⟩ | ⟨b, rfl, hb⟩
    · rcases hrr with ⟨_, e⟩ | ⟨_, e⟩ <;> cases e
    · exact (op_or (op_oo (op := .Mult) R.OMult R.hSF (hr.mono (by decide))) (op_io (op := .Mult) R.RMult R.hSF hO R.scI PySem.F.fills_int_mul PySem.F.slot_int_mul PySem.F.entry_int_mul PySem.F.args_int_mul_2 int_mul_own (hr.mono (by decide)))) pins s σ H _ _ v u Q I rx ry (mulR_q hx hb s2 s1 fun z H' ss hz => k z H' ss (by rw [Int.mul_comm n n', Int.mul_comm m m']; exact hz))
  · exact (op_or (op_oo (op := .Mult) R.OMult R.hSF (hr.mono (by decide))) (op_oi (op := .Mult) R.OMult R.hSF hR (.inr ⟨_, rfl⟩) hi hj R.siC (hr.mono (by decide)))) pins s σ H _ _ v u Q I rx ry (mul_q ha hy s1 s2 fun z H' ss hz => k z H' ss (by exact hz))

theorem op_qLe {X : Cx} {C : Addr} (R : RA X.prog X.w X.K X.mg X.base C) (hu : X.A.units < cLine) (hr : Room 2 X.A) : OpR X (compareOp .LtE) (fun x y H Q => cOO C (spCmp C fun i j => decide (i ≤ j)) x y H Q ∨ cOI C (spCmp C fun i j => decide (i ≤ j)) x y H Q) :=
  op_or (cmp_oo (op := .LtE) (fun _ _ => rfl) R.Mle hu hr) (cmp_oi (op := .LtE) (fun _ _ => rfl) R.Mle R.siC hu hr)
theorem op_qLt {X : Cx} {C : Addr} (R : RA X.prog X.w X.K X.mg X.base C) (hu : X.A.units < cLine) (hr : Room 2 X.A) : OpR X (compareOp .Lt) (fun x y H Q => cOO C (spCmp C fun i j => decide (i < j)) x y H Q ∨ cOI C (spCmp C fun i j => decide (i < j)) x y H Q) :=
  op_or (cmp_oo (op := .Lt) (fun _ _ => rfl) R.Mlt hu hr) (cmp_oi (op := .Lt) (fun _ _ => rfl) R.Mlt R.siC hu hr)
/-! ### lines, blends of two runs -/
theorem new2 {C x dx : Addr} {fs : List (Str × V)} {H : Hp} (nx : H x = none) (nd : H dx = none) (ne : dx ≠ x) : Same H (upd (upd H dx (.own x)) x (.ins C dx fs)) := (same_upd nd).trans (same_upd (by rw [upd_ne ne.symm]; exact nx))
def two (n Dn f s c f' s' c' : Int) : List Pt := [⟨n, f, s, c⟩, ⟨Dn - n, f', s', c'⟩]
section
variable {P : Program} {w : World} {K : PySem.W.Frag} {mg : Str → Option Value} {base : Heap}
end
end L

set_option Elab.async false
set_option linter.all false
set_option maxRecDepth 100000
set_option maxHeartbeats 4000000
set_option pp.maxSteps 160
set_option pp.deepTerms false
namespace L
open PySem PySem.Spec PyProof.Rows L2 Fl
local macro_rules | `(tactic| walk_at "side") => `(tactic| first | (exact .inl ⟨by omega, by omega⟩) | (exact .inr ⟨by omega, by omega⟩) | (exact .inr ⟨by decide, by decide⟩) | (show (_ : Int) ≠ _; omega) | (exact ⟨by omega, by decide⟩) | (exact ⟨by decide, by decide, by decide⟩))
local macro_rules | `(tactic| walk_at "go") => `(tactic| repeat (first | refine ⟨_, rfl, ?_⟩ | refine ⟨_, _, rfl, rfl, ?_⟩ | refine .inl ⟨_, rfl, ?_⟩ | refine ⟨rfl, ?_⟩ | refine ⟨(by walk_at "side"), ?_⟩))
local macro_rules | `(tactic| walk_at "see") => `(tactic| (set_option pp.maxSteps 110 in set_option pp.deepTerms false in trace_state))
local macro_rules | `(tactic| walk_at "if") => `(tactic| first | refine ifE ?_ ?_ | refine ifNE ?_ ?_ | refine ifD ?_ ?_ | refine ifN ?_ ?_ | refine ifB ?_ ?_)
open Bx
abbrev Tie (v : Int) : Prop := v = -1 ∨ v = 0 ∨ v = 1
section
variable {P : Program} {w : World} {K : PySem.W.Frag} {mg : Str → Option Value} {base : Heap}
def spTies (BN : Addr) : Sp := fun vs H Q E => ∃ (v : Int), vs = [.int v] ∧ ((v = -1 ∨ v = 0 ∨ v = 1) → ∀ H', Same H H' → Q .non H') ∧ (¬ (v = -1 ∨ v = 0 ∨ v = 1) → Ref E BN H "ties" v)
abbrev CalTies (P : Program) (w : World) (K : PySem.W.Frag) (mg : Str → Option Value) (base : Heap) (BN : Addr) := CalX P w K mg base 3 "check_ties" ["ties"] (spTies BN)
theorem ok_ties {BN : Addr} (TB : BnC K mg BN) (CE : CalE P w K mg base 1 BN) (D : Dfn K mg "check_ties" "check_ties" s_check_ties ["ties"]) : CalTies P w K mg base BN := by
  refine D.calX sc_check_ties (fun vs H Q E h => ?_) (fun f cdv A outer st H vs Q E hr h => ?_)
  · obtain ⟨v, rfl, _⟩ := h
    rfl
  · obtain ⟨v, rfl, k1, k2⟩ := h
    have hr0 : Room 2 _ := hr
    refine ⟨_, (pss_one (ps_if (pt_cmpR op_notIn_seq (pv 0) (pe_tup (pa_cons (pe_un un_neg pe_int) (pa_cons pe_int (pa_cons pe_int pa_nil)))) (by rfl)) (pss_one (ps_raise rfl (takes_of rfl rfl rfl rfl) (pmk_bn TB CE (hr0.mono (by decide)) (pa_cons pe_str (pa_cons (pv 0) pa_nil))))) pss_nil)), ?_⟩
    refine ⟨_, rfl, _, rfl, (by show 3 ≤ sizeLine; decide), fun t ht => ?_⟩
    refine ⟨t, _, rfl, .inr (SqT.of upd_same), rfl, rfl, _, rfl, ?_⟩
    show if (!inV (V.int v) [V.int (-1), V.int 0, V.int 1]) = true then _ else _
    by_cases h : v = -1 ∨ v = 0 ∨ v = 1
    · have e : inV (V.int v) [V.int (-1), V.int 0, V.int 1] = true := by
        rcases h with rfl | rfl | rfl <;> rfl
      rw [e]
      exact iteF (k1 h _ (same_upd ht))
    · have e : inV (V.int v) [V.int (-1), V.int 0, V.int 1] = false := by
        show ((-1 : Int) == v || ((0 : Int) == v || ((1 : Int) == v || false))) = false
        rw [beq_eq_false_iff_ne.mpr (show (-1 : Int) ≠ v by omega), beq_eq_false_iff_ne.mpr (show (0 : Int) ≠ v by omega), beq_eq_false_iff_ne.mpr (show (1 : Int) ≠ v by omega)]
        rfl
      rw [e]
      refine iteT ?_
      exact ⟨_, rfl, bn_made ((k2 h).same (same_upd ht))⟩
end
end L

set_option Elab.async false
set_option linter.all false
set_option maxRecDepth 100000
set_option maxHeartbeats 4000000
set_option pp.maxSteps 160
set_option pp.deepTerms false
namespace L
open PySem PySem.Spec PyProof.Rows L2 Fl
local macro_rules | `(tactic| walk_at "side") => `(tactic| first | (exact .inl ⟨by omega, by omega⟩) | (exact .inr ⟨by omega, by omega⟩) | (exact .inr ⟨by decide, by decide⟩) | (show (_ : Int) ≠ _; omega) | (exact ⟨by omega, by decide⟩) | (exact ⟨by decide, by decide, by decide⟩))
local macro_rules | `(tactic| walk_at "go") => `(tactic| repeat (first | refine ⟨_, rfl, ?_⟩ | refine ⟨_, _, rfl, rfl, ?_⟩ | refine .inl ⟨_, rfl, ?_⟩ | refine ⟨rfl, ?_⟩ | refine ⟨(by walk_at "side"), ?_⟩))
local macro_rules | `(tactic| walk_at "see") => `(tactic| (set_option pp.maxSteps 110 in set_option pp.deepTerms false in trace_state))
local macro_rules | `(tactic| walk_at "if") => `(tactic| first | refine ifE ?_ ?_ | refine ifNE ?_ ?_ | refine ifD ?_ ?_ | refine ifN ?_ ?_ | refine ifB ?_ ?_)
open Bx

theorem wo_get {H : Hp} {D a : Addr} {acc : List V} {o : HO} (h : H D = some (.lst acc)) (e : H a = some o) (n : ∀ xs, o ≠ .lst xs) : wo H D a = some o := by
  have k : a ≠ D := fun k => by
    rw [k, h] at e
    exact n _ (Option.some.inj e).symm
  rw [show wo H D a = H a from if_neg k]
  exact e
/-- a pair of a weight and a run -/
def WtP (E : Addr) (H : Hp) (v : V) (q : Pt) : Prop := ∃ t r : Addr, v = .ref t ∧ H t = some (.tup [.int q.n, .ref r]) ∧ RunAt E H r q.f q.s q.c
theorem wtP_mono {E : Addr} : Mono (WtP E) := fun H H' v q s h => by
  obtain ⟨t, r, e, h1, h2⟩ := h
  exact ⟨t, r, e, s _ _ h1, h2.same s⟩
/-- a run -/
def RnP (E : Addr) (H : Hp) (v : V) (q : Pt) : Prop := ∃ r : Addr, v = .ref r ∧ RunAt E H r q.f q.s q.c
theorem rnP_mono {E : Addr} : Mono (RnP E) := fun H H' v q s h => by
  obtain ⟨r, e, h2⟩ := h
  exact ⟨r, e, h2.same s⟩
def BlsP (C D F : Addr) (H : Hp) (v : V) (b : Int × List Pt) : Prop := ∃ x : Addr, v = .ref x ∧ BlAt C D F b.1 H x b.2
theorem blsP_mono {C D F : Addr} : Mono (BlsP C D F) := fun H H' v b s h => by
  obtain ⟨x, e, h2⟩ := h
  exact ⟨x, e, h2.same s⟩
/-- U is a common multiple for these parts over Dn -/
def Und (U Dn : Int) (ps : List Pt) : Prop := ∀ p ∈ ps, nU p.n Dn * p.c ∣ U
def UndB (U : Int) (bs : List (Int × List Pt)) : Prop := ∀ b ∈ bs, Und U b.1 b.2
theorem lcm_le {u x U : Int} (hU : 0 < U) (h1 : u ∣ U) (h2 : x ∣ U) (u0 : 0 < u) (x0 : 0 < x) : 0 < lcmI u x ∧ lcmI u x ∣ U ∧ lcmI u x ≤ U := ⟨lcmI_pos u0 x0, lcmI_of h1 h2, Int.le_of_dvd hU (lcmI_of h1 h2)⟩
def wtOf (Dn u : Int) (p : Pt) : Pt := ⟨nT p.n Dn * u.fdiv (nU p.n Dn * p.c), p.f, p.s, p.c⟩
theorem won_le {f s c k t : Int} (r : RunOk f s c) (ht : t = -1 ∨ t = 0 ∨ t = 1) : (wonV f s c k t).natAbs ≤ c.natAbs := by
  have b1 := bel_ok (k := k) r
  have b2 := bel_ok (k := k + 1) r
  have m : bel f s c k ≤ bel f s c (k + 1) ∧ bel f s c (k + 1) ≤ bel f s c k + 1 := by
    have s1 := r.s1
    have s4 := r.s4
    have c1 := r.c1
    rcases s_cases r with rfl | rfl | rfl | rfl <;> omega
  have c1 := r.c1
  unfold wonV
  rcases ht with rfl | rfl | rfl <;> omega
theorem sum_I : ∀ ns : List Int, ns.sum = sumI ns
  | [] => rfl
  | n :: r => by
    rw [List.sum_cons, sum_I r]
    rfl
/-- v is a number or None -/
def optV : Option Int → V
  | none => .non
  | some x => .int x
def TriP (H : Hp) (v : V) (t : Tri) : Prop := ∃ a : Addr, v = .ref a ∧ H a = some (.tup [.int t.low, optV t.high, .int t.p])
theorem triP_mono : Mono TriP := fun H H' v t s h => by
  obtain ⟨a, e, h1⟩ := h
  exact ⟨a, e, s _ _ h1⟩
section
variable {P : Program} {w : World} {K : PySem.W.Frag} {mg : Str → Option Value} {base : Heap}
def spLead (D : Addr) : Sp := fun vs H Q _ => ∃ (x : Addr) (f s c k v : Int), vs = [.ref x, .int k, .int v] ∧ RunAt D H x f s c ∧ RunOk f s c ∧ (v = -1 ∨ v = 0 ∨ v = 1) ∧ Q (.int (wonV f s c k v)) H
abbrev CalLead (P : Program) (w : World) (K : PySem.W.Frag) (mg : Str → Option Value) (base : Heap) (D : Addr) := Cal P w K mg base 5 "lead" ["run", "k", "ties"] (spLead D)
theorem ok_lead {D : Addr} (T : RunC K mg D) (C_below : CalM P w K mg base 3 D "below" ["self", "k"] (spBelow D)) (C_above : CalM P w K mg base 4 D "above" ["self", "k"] (spAbove D)) (Df : Dfn K mg "lead" "lead" s_lead ["run", "k", "ties"]) : CalLead P w K mg base D := by
  obtain ⟨_, _, m_below, F_below, b_below⟩ := C_below.ex
  obtain ⟨_, _, m_above, F_above, b_above⟩ := C_above.ex
  refine Df.cal sc_lead (fun vs H Q E h => ?_) (fun fA cdv A outer st H vs Q E hr h => ?_)
  · obtain ⟨x, f, s, c, k, v, rfl, _⟩ := h
    rfl
  · obtain ⟨x, f, s, c, k, v, rfl, ⟨dx, hx⟩, ok, hv, q⟩ := h
    refine ⟨_, (pss_cons (ps_set (i := 3) sc_lead.nd rfl (Or.inl rfl) (pe_meth (pv 0) T.cl m_above F_above (hr.mono (by decide)) b_above .nil pass0 (pa_cons (pv 1) pa_nil)))
      (pss_cons (ps_set (i := 4) sc_lead.nd rfl (Or.inl rfl) (pe_meth (pv 0) T.cl m_below F_below (hr.mono (by decide)) b_below .nil pass0 (pa_cons (pv 1) pa_nil)))
      (pss_one (ps_ret (pe_op op_add (pe_op op_sub (pv 3) (pv 4)) (pe_op op_mul (pv 2) (pe_op op_sub (pe_op op_sub (pe_fld (pv 0) rfl) (pv 3)) (pv 4)))))))), ?_⟩
    refine ⟨_, rfl, x, dx, _, rfl, hx, gf_no _ _ _ (by decide +kernel) (by decide +kernel) (by decide +kernel), _, rfl, x, f, s, c, k, rfl, ⟨dx, hx⟩, ok, ?_⟩
    refine ⟨_, rfl, x, dx, _, rfl, hx, gf_no _ _ _ (by decide +kernel) (by decide +kernel) (by decide +kernel), _, rfl, x, f, s, c, k, rfl, ⟨dx, hx⟩, ok, ?_⟩
    refine ⟨_, rfl, _, rfl, _, _, rfl, rfl, ?_⟩
    refine ⟨_, rfl, _, rfl, x, D, dx, _, _, rfl, hx, T.cl, T.nC, gf_count _ _ _, ?_⟩
    refine ⟨_, rfl, _, _, rfl, rfl, _, rfl, _, _, rfl, rfl, _, _, rfl, rfl, .inl ⟨by omega, by omega⟩, ?_⟩
    exact ⟨_, _, rfl, rfl, q⟩
theorem ok_bl_iter {F fA : Addr} {fd : FuncData} (B : Blt mg) (gIter : mg "iter" = none) (TF : BleC K mg F) (Fn : Fun K "__iter__" "Blend.__iter__" s_Blend_iter fA fd) : FnOkN P w K mg base CX0 1 fA fd ["self"] (spIterF F "parts") := by
  refine fn_at Fn sc_Blend_iter (fun n vs H Q E h => ?_) (fun cdv A outer st H vs Q E hr h => ?_)
  · obtain ⟨a, dx, fs, L, zs, rfl, _⟩ := h
    rfl
  · obtain ⟨a, dx, fs, L, zs, rfl, ha, hf, hL, q⟩ := h
    refine ⟨_, PSs.nox (pss_one (ps_ret (pe_callB ItX.call_iterN (by rfl) gIter (by first | rfl | decide +kernel) (pa_cons (pe_fld (pv 0) rfl) pa_nil)))), ?_⟩
    exact ⟨_, rfl, a, F, dx, _, _, rfl, ha, TF.cl, TF.nP, hf, L, zs, rfl, SqL.of hL, q⟩
end
end L

set_option Elab.async false
set_option linter.all false
set_option maxRecDepth 100000
set_option maxHeartbeats 4000000
set_option pp.maxSteps 160
set_option pp.deepTerms false
namespace L
open PySem PySem.Spec PyProof.Rows L2 Fl
local macro_rules | `(tactic| walk_at "side") => `(tactic| first | (exact .inl ⟨by omega, by omega⟩) | (exact .inr ⟨by omega, by omega⟩) | (exact .inr ⟨by decide, by decide⟩) | (show (_ : Int) ≠ _; omega) | (exact ⟨by omega, by decide⟩) | (exact ⟨by decide, by decide, by decide⟩))
local macro_rules | `(tactic| walk_at "go") => `(tactic| repeat (first | refine ⟨_, rfl, ?_⟩ | refine ⟨_, _, rfl, rfl, ?_⟩ | refine .inl ⟨_, rfl, ?_⟩ | refine ⟨rfl, ?_⟩ | refine ⟨(by walk_at "side"), ?_⟩))
local macro_rules | `(tactic| walk_at "see") => `(tactic| (set_option pp.maxSteps 110 in set_option pp.deepTerms false in trace_state))
local macro_rules | `(tactic| walk_at "if") => `(tactic| first | refine ifE ?_ ?_ | refine ifNE ?_ ?_ | refine ifD ?_ ?_ | refine ifN ?_ ?_ | refine ifB ?_ ?_)
open Bx

theorem fold_snocX {α β : Type} {f : β → α → β} {b : β} {ps : List α} {i : Nat} {p : α} (h : ps[i]? = some p) : (ps.take (i + 1)).foldl f b = f ((ps.take i).foldl f b) p := by
  rw [take_snoc h, List.foldl_append]
  rfl
section
variable {P : Program} {w : World} {K : PySem.W.Frag} {mg : Str → Option Value} {base : Heap}

def spUnder (C D F : Addr) : Sp := fun vs H Q _ => ∃ (L : Addr) (bs : List (Int × List Pt)) (U : Int), vs = [.ref L] ∧ LAt (BlsP C D F) H L bs ∧ (∀ b ∈ bs, b.1 ≠ 0 ∧ ∀ p ∈ b.2, RunOk p.f p.s p.c) ∧ 0 < U ∧ U.natAbs < 2 ^ 5990 ∧ UndB U bs ∧ ∀ u : Int, 0 < u → u ∣ U → UndB u bs → Q (.int u) H
theorem ok_under {C D F : Addr} (T : RatC K mg C) (TF : BleC K mg F) (TD : RunC K mg D) (hLcm : mg "lcm" = some (.builtin "math.lcm")) (BIT : OwnIt P w K mg base 1 F "parts") (Df : Dfn K mg "common_under" "common_under" s_common_under ["blends"]) : Cal P w K mg base 2 "common_under" ["blends"] (spUnder C D F) := by
  refine Df.cal sc_common_under (fun vs H Q E h => ?_) (fun fA cdv A outer st H vs Q E hr h => ?_)
  · obtain ⟨L, bs, U, rfl, _⟩ := h
    rfl
  · obtain ⟨L, bs, U, rfl, ⟨vs, hvs, hlen, hall⟩, ok, U0, bU, und, q⟩ := h
    refine ⟨_, (pss_cons (ps_set (i := 1) sc_common_under.nd rfl (Or.inl rfl) (pe_int))
      (pss_cons (ps_for PassesOwn.never rfl (pi_list (pv 0)) (pg_name (i := 2) sc_common_under.nd rfl (Or.inl rfl)) (pss_one (ps_for PassesOwn.never rfl (pi_own BIT (hr.mono (by decide)) (pv 2)) (pg_tup rfl (pgs_cons (pg_name (i := 3) sc_common_under.nd rfl (Or.inl rfl)) (pgs_cons (pg_name (i := 4) sc_common_under.nd rfl (Or.inl rfl)) pgs_nil))) (pss_one (ps_set (i := 1) sc_common_under.nd rfl (Or.inl rfl) ((pe_callBfun cr_lcm (by rfl) hLcm (pa_cons (pv 1) (pa_cons (pe_op op_mulW (pe_fld (pv 3) rfl) (pe_fld (pv 4) rfl)) pa_nil)))))))))
      (pss_one (ps_ret (pv 1))))), ?_⟩
    refine ⟨_, rfl, L, rfl, ⟨_, SqL.of hvs⟩, for_list (K := K) (a := L) (xs := vs) (fun i σ' H' => H' = H ∧ ∃ (u : Int) (o2 o3 o4 : Option V), 0 < u ∧ u ∣ U ∧ UndB u (bs.take i) ∧ σ' = [some (.ref L), some (.int u), o2, o3, o4])
      ⟨rfl, 1, none, none, none, by decide, Int.one_dvd _, fun b hb => by simp at hb, rfl⟩ (fun i σ' H' _ h => h.1 ▸ SqL.of hvs) ?_ ?_⟩
    · rintro i y σ' H' hy ⟨rfl, u, o2, o3, o4, u0, ud, uo, rfl⟩
      obtain ⟨b, hb⟩ := item hlen hy
      obtain ⟨y', hy', x, rfl, hx⟩ := hall i b hb
      rw [hy] at hy'
      cases hy'
      obtain ⟨dn, pok⟩ := ok b (mem_at hb)
      have ub_ := und b (mem_at hb)
      obtain ⟨dx, M, hxI, us, hus, hlen2, hall2⟩ := hx.ex
      refine ⟨_, rfl, x, dx, _, M, us, rfl, hxI, bf_parts _, hus, for_list (K := K) (a := M) (xs := us) (fun j σ' H2 => H2 = H' ∧ ∃ (u : Int) (o3 o4 : Option V), 0 < u ∧ u ∣ U ∧ UndB u (bs.take i) ∧ Und u b.1 (b.2.take j) ∧ σ' = [some (.ref L), some (.int u), some (.ref x), o3, o4])
        ⟨rfl, u, o3, o4, u0, ud, uo, fun p hp => by simp at hp, rfl⟩ (fun j σ' H2 _ h => h.1 ▸ SqL.of hus) ?_ ?_⟩
      · rintro j y2 σ' H2 hy2 ⟨rfl, u, o3, o4, u0, ud, uo, up, rfl⟩
        obtain ⟨p, hp⟩ := item hlen2 hy2
        obtain ⟨y2', hy2', t, xr, r, rfl, ht, ⟨dr, hxr⟩, ⟨dr2, hr2⟩⟩ := hall2 j p hp
        rw [hy2] at hy2'
        cases hy2'
        have rok := pok p (mem_at hp)
        have pd := ub_ p (mem_at hp)
        have n0 := nU_pos (t := p.n) dn
        have x0 : 0 < nU p.n b.1 * p.c := Int.mul_pos n0 (by have := rok.c1; omega)
        have xl := Int.le_of_dvd U0 pd
        have nl : nU p.n b.1 ≤ U := Int.le_of_dvd U0 (Int.dvd_trans ⟨p.c, rfl⟩ pd)
        have cl : p.c ≤ U := Int.le_of_dvd U0 (Int.dvd_trans ⟨nU p.n b.1, Int.mul_comm _ _⟩ pd)
        obtain ⟨l0, ld, ll⟩ := lcm_le U0 ud pd u0 x0
        have ul := Int.le_of_dvd U0 ud
        refine ⟨t, _, rfl, SqT.of ht, rfl, _, _, rfl, _, _, rfl, rfl, ?_⟩
        refine ⟨_, rfl, _, rfl, xr, C, dr, _, _, rfl, hxr, T.cl, T.nU, rf_under _ _, _, rfl, r, D, dr2, _, _, rfl, hr2, TD.cl, TD.nC, gf_count _ _ _, _, _, rfl, rfl, wide_mul (a := 5990) (b := 5990) (by omega) (by have := rok.c1; omega) (by decide) (by decide) (by decide), ?_⟩
        refine ⟨_, _, rfl, Nat.lt_of_lt_of_le (show u.natAbs < 2 ^ 5990 by omega) (Nat.pow_le_pow_right (by decide) (by decide)), Nat.lt_of_lt_of_le (show (nU p.n b.1 * p.c).natAbs < 2 ^ 5990 by omega) (Nat.pow_le_pow_right (by decide) (by decide)), ?_⟩
        refine ⟨rfl, lcmI u (nU p.n b.1 * p.c), _, _, l0, ld, fun b' hb' p' hp' => Int.dvd_trans (uo b' hb' p' hp') lcmI_dvd.1, fun p' hp' => ?_, rfl⟩
        rw [take_snoc hp] at hp'
        rcases List.mem_append.mp hp' with h | h
        · exact Int.dvd_trans (up p' h) lcmI_dvd.1
        · rw [List.mem_singleton.mp h]
          exact lcmI_dvd.2
      · rintro σ' H2 ⟨rfl, u, o3, o4, u0, ud, uo, up, rfl⟩
        refine ⟨rfl, u, _, _, _, u0, ud, fun b' hb' => ?_, rfl⟩
        rw [take_snoc hb] at hb'
        rcases List.mem_append.mp hb' with h | h
        · exact uo b' h
        · rw [List.mem_singleton.mp h]
          rw [hlen2, List.take_length] at up
          exact up
    · rintro σ' H' ⟨rfl, u, o2, o3, o4, u0, ud, uo, rfl⟩
      rw [hlen, List.take_length] at uo
      exact ⟨_, rfl, q u u0 ud uo⟩

def spWeighted (C D F : Addr) : Sp := fun vs H Q _ => ∃ (x : Addr) (u Dn : Int) (ps : List Pt), vs = [.ref x, .int u] ∧ BlAt C D F Dn H x ps ∧ Dn ≠ 0 ∧ (∀ p ∈ ps, RunOk p.f p.s p.c ∧ p.n.natAbs < 2 ^ 4400) ∧ ps.length ≤ 1000 ∧ 0 < u ∧ u.natAbs < 2 ^ 5990 ∧ Und u Dn ps ∧ ∀ (z : Addr) (H' : Hp), Same H H' → LAt (WtP D) H' z (ps.map (wtOf Dn u)) → Q (.ref z) H'
theorem ok_weighted {C D F : Addr} (T : RatC K mg C) (TF : BleC K mg F) (TD : RunC K mg D) (BIT : OwnIt P w K mg base 1 F "parts") (Df : Dfn K mg "weighted" "weighted" s_weighted ["blend", "under"]) : Cal P w K mg base 2 "weighted" ["blend", "under"] (spWeighted C D F) := by
  refine Df.cal sc_weighted (fun vs H Q E h => ?_) (fun fA cdv A outer st H vs Q E hr h => ?_)
  · obtain ⟨x, u, Dn, ps, rfl, _⟩ := h
    rfl
  · obtain ⟨x, u, Dn, ps, rfl, hx, dn, pok, l1, u0, bu, und, q⟩ := h
    obtain ⟨dx, M, hxI, us, hus, hlen, hall⟩ := hx.ex
    refine ⟨_, (pss_one (ps_ret (pe_lc (own := [("share", 2), ("run", 3)]) (g := (gTup K 2 (gCons (gName 2) (gCons (gName 3) gNil)))) rfl sc_weighted.nd (pi_own BIT (hr.mono (by decide)) (pv 0)) (blkOk_by (N := ["blend", "under", "share", "run"]) (sc := defScope s_weighted) (by decide +kernel)) (fun _ _ _ _ _ => (pg_tup rfl (pgs_cons (pg_name (i := 2) sc_weighted.nd rfl (Or.inl rfl)) (pgs_cons (pg_name (i := 3) sc_weighted.nd rfl (Or.inl rfl)) pgs_nil)))) (fun _ _ _ _ _ => pts_nil) (fun _ _ _ _ _ => (pe_tup (pa_cons (pe_op op_mulW ((show PE _ _ (tFld K (tVar 2) "top") from pe_fld (pv 2) rfl)) (pe_op op_fdivA (pv 1) (pe_op op_mulW ((show PE _ _ (tFld K (tVar 2) "under") from pe_fld (pv 2) rfl)) ((show PE _ _ (tFld K (tVar 3) "count") from pe_fld (pv 3) rfl))))) (pa_cons (pv 3) pa_nil))))))), ?_⟩
    refine ⟨_, rfl, x, dx, _, M, us, rfl, hxI, bf_parts _, hus, fun D1 hD1 => lc_build (xs := us) (WtP D) (ps.map (wtOf Dn u)) wtP_mono hD1 (by rw [List.length_map]; exact hlen) (SqL.of hus) (by rw [List.length_map]; omega) ?_ ?_⟩
    · rintro i y n H2 Kc Ke hy hn s ⟨acc, hacc⟩ kk
      obtain ⟨p, hp⟩ := item hlen hy
      rw [List.getElem?_map, hp] at hn
      cases hn
      obtain ⟨y', hy', t, xr, r, rfl, ht, ⟨dr, hxr⟩, ⟨dr2, hr2⟩⟩ := hall i p hp
      rw [hy] at hy'
      cases hy'
      obtain ⟨rok, nb⟩ := pok p (mem_at hp)
      have pd := und p (mem_at hp)
      have n0 := nU_pos (t := p.n) dn
      have x0 : 0 < nU p.n Dn * p.c := Int.mul_pos n0 (by have := rok.c1; omega)
      have xl := Int.le_of_dvd u0 pd
      have nl : nU p.n Dn ≤ u := Int.le_of_dvd u0 (Int.dvd_trans ⟨p.c, rfl⟩ pd)
      have cl : p.c ≤ u := Int.le_of_dvd u0 (Int.dvd_trans ⟨nU p.n Dn, Int.mul_comm _ _⟩ pd)
      have tl : (nT p.n Dn).natAbs < 2 ^ 4400 := Nat.lt_of_le_of_lt (nT_le dn) nb
      have d0 := Int.ediv_nonneg (show 0 ≤ u by omega) (show 0 ≤ nU p.n Dn * p.c by omega)
      have d1 := Int.ediv_le_self (a := u) (nU p.n Dn * p.c) (by omega)
      refine ⟨t, _, rfl, SqT.of (s _ _ ht), rfl, _, _, rfl, _, _, rfl, rfl, rfl, ?_⟩
      refine ⟨_, rfl, xr, C, dr, _, _, rfl, s _ _ hxr, T.cl, T.nT, rf_top _ _, _, rfl, _, rfl, xr, C, dr, _, _, rfl, s _ _ hxr, T.cl, T.nU, rf_under _ _, _, rfl, r, D, dr2, _, _, rfl, s _ _ hr2, TD.cl, TD.nC, gf_count _ _ _, _, _, rfl, rfl, wide_mul (a := 5990) (b := 5990) (by omega) (by have := rok.c1; omega) (by decide) (by decide) (by decide), ?_⟩
      refine ⟨_, _, rfl, rfl, divA (b := 5990) (by omega) (by omega) (by decide) (by decide), ?_⟩
      have fe := Int.fdiv_eq_ediv_of_nonneg u (show 0 ≤ nU p.n Dn * p.c by omega)
      refine ⟨_, _, rfl, rfl, wide_mul (a := 4400) (b := 5990) tl (by rw [fe]; omega) (by decide) (by decide) (by decide), ?_⟩
      refine ⟨_, rfl, (by show 2 ≤ sizeLine; decide), fun z hz => ?_⟩
      have sz := same_upd (o := .tup [.int (nT p.n Dn * u.fdiv (nU p.n Dn * p.c)), .ref r]) hz
      have hacc' := sz _ _ hacc
      have hz' : (upd H2 z (.tup [.int (nT p.n Dn * u.fdiv (nU p.n Dn * p.c)), .ref r])) z = some (.tup [.int (nT p.n Dn * u.fdiv (nU p.n Dn * p.c)), .ref r]) := upd_same
      exact kk _ _ sz ⟨z, r, rfl, wo_get hacc' hz' (by intro xs z; cases z), RunAt.wo ⟨dr2, (s.trans sz) _ _ hr2⟩ hacc'⟩
    intro H2 s2 hS
    exact q _ _ s2 hS

def wtB (ws : List Pt) : Prop := ∀ q ∈ ws, RunOk q.f q.s q.c ∧ q.n.natAbs < 2 ^ 20000 ∧ q.c.natAbs < 2 ^ 5990

def spWholeChance (D : Addr) : Sp := fun vs H Q _ => ∃ (L : Addr) (ws : List Pt) (k : Int), vs = [.ref L, .int k] ∧ LAt (WtP D) H L ws ∧ (∀ q ∈ ws, RunOk q.f q.s q.c) ∧ ws.length ≤ 1000 ∧ ∀ H', Same H H' → Q (.int (CV ws k)) H'
theorem cv_snoc {k : Int} {p : Pt} : ∀ ws : List Pt, CV (ws ++ [p]) k = CV ws k + if isin p.f p.s p.c k = true then p.n else 0
  | [] => by
    show (if isin p.f p.s p.c k = true then p.n else 0) + 0 = 0 + _
    omega
  | q :: r => by
    show _ + CV (r ++ [p]) k = _ + CV r k + _
    rw [cv_snoc r]
    omega
theorem sumI_snoc (n : Int) : ∀ ns : List Int, sumI (ns ++ [n]) = sumI ns + n
  | [] => by
    show n + 0 = 0 + n
    omega
  | q :: r => by
    show q + sumI (r ++ [n]) = q + sumI r + n
    rw [sumI_snoc n r]
    omega
theorem ok_whole_chance {D : Addr} (B : Blt mg) (TD : RunC K mg D) (C_cont : CalM P w K mg base 3 D "__contains__" ["self", "x"] (spCont D)) (Df : Dfn K mg "whole_chance" "whole_chance" s_whole_chance ["weights", "k"]) : Cal P w K mg base 4 "whole_chance" ["weights", "k"] (spWholeChance D) := by
  refine Df.cal sc_whole_chance (fun vs H Q E h => ?_) (fun fA cdv A outer st H vs Q E hr h => ?_)
  · obtain ⟨L, ws, k, rfl, _⟩ := h
    rfl
  · obtain ⟨L, ws, k, rfl, ⟨vs, hvs, hlen, hall⟩, wb, l1, q⟩ := h
    refine ⟨_, (pss_one (ps_ret (pe_callB (cr_sum rfl) (by rfl) B.sum (by decide +kernel) (pa_cons (pe_lc (own := [("weight", 2), ("run", 3)]) (g := (gTup K 2 (gCons (gName 2) (gCons (gName 3) gNil)))) rfl sc_whole_chance.nd (pi_list (pv 0)) (blkOk_by (N := ["weights", "k", "weight", "run"]) (sc := defScope s_whole_chance) (by decide +kernel)) (fun _ _ _ _ _ => (pg_tup rfl (pgs_cons (pg_name (i := 2) sc_whole_chance.nd rfl (Or.inl rfl)) (pgs_cons (pg_name (i := 3) sc_whole_chance.nd rfl (Or.inl rfl)) pgs_nil)))) (fun _ _ _ _ _ => (pts_one (pt_cmpR (op_inOwn C_cont (hr.mono (by decide))) (pv 1) (pv 3) (by rfl)))) (fun _ _ _ _ _ => (pv 2))) pa_nil)))), ?_⟩
    have sz : (1000 : Nat) ≤ sizeLine := by decide
    refine ⟨_, rfl, L, rfl, ⟨_, SqL.of hvs⟩, fun D1 hD1 => lc_list (xs := vs) (fun j H' => Same H H' ∧ ∃ ns : List Int, H' D1 = some (.lst (ns.map V.int)) ∧ ns.length ≤ j ∧ sumI ns = CV (ws.take j) k) ⟨same_upd hD1, [], upd_same, Nat.le_refl 0, rfl⟩ (fun j H' _ h => SqL.of (h.1 _ _ hvs)) ?_ ?_⟩
    · rintro i y H2 hy ⟨s, ns, hD2, lj, es⟩
      obtain ⟨p, hp⟩ := item hlen hy
      obtain ⟨y', hy', z, r, rfl, hz, hrun⟩ := hall i p hp
      rw [hy] at hy'
      cases hy'
      have il := (List.getElem?_eq_some_iff.mp hp).1
      have rok := wb p (mem_at hp)
      refine ⟨z, _, rfl, SqT.of (s _ _ hz), rfl, _, _, rfl, _, _, rfl, rfl, rfl, ?_⟩
      have hrun2 := hrun.same s
      obtain ⟨dr, hr2⟩ := id hrun2
      rw [take_snoc hp]
      refine ⟨_, rfl, _, rfl, r, dr, _, rfl, hr2, r, p.f, p.s, p.c, k, rfl, hrun2, rok, _, rfl, _, rfl, ?_⟩
      refine ifB (fun hb => ?_) (fun hb => ?_)
      · refine ⟨_, rfl, ns.map V.int, hD2, by rw [List.length_map]; omega, same_late s hD1, ns ++ [p.n], by rw [upd_same, List.map_append]; rfl, by rw [List.length_append]; show ns.length + 1 ≤ i + 1; omega, ?_⟩
        rw [sumI_snoc, cv_snoc, es, if_pos hb]
      · refine ⟨s, ns, hD2, by omega, ?_⟩
        rw [cv_snoc, es, if_neg (by rw [hb]; exact Bool.false_ne_true)]
        omega
    · rintro H2 ⟨s, ns, hD2, lj, es⟩
      rw [hlen, List.take_length] at es
      refine ⟨D1, ns, rfl, SqL.of hD2, ?_⟩
      rw [sum_I, es]
      exact q H2 s

def spPeriod (D : Addr) : Sp := fun vs H Q _ => ∃ (L : Addr) (ps : List Pt) (k : Int), vs = [.ref L, .int k] ∧ LAt (RnP D) H L ps ∧ (∀ p ∈ ps, RunOk p.f p.s p.c) ∧ Q (.int (perL ps k)) H
theorem ok_period {D : Addr} (TD : RunC K mg D) (CL : CalP P w K mg base 1 D "last" (spLast D)) (hLcm : mg "lcm" = some (.builtin "math.lcm")) (Df : Dfn K mg "_period" "_period" s_period ["runs", "k"]) : Cal P w K mg base 3 "_period" ["runs", "k"] (spPeriod D) := by
  refine Df.cal sc_period (fun vs H Q E h => ?_) (fun fA cdv A outer st H vs Q E hr h => ?_)
  · obtain ⟨L, ps, k, rfl, _⟩ := h
    rfl
  · obtain ⟨L, ps, k, rfl, ⟨vs, hvs, hlen, hall⟩, pok, q⟩ := h
    refine ⟨_, (pss_cons (ps_set (i := 2) sc_period.nd rfl (Or.inl rfl) (pe_int))
      (pss_cons (ps_for PassesOwn.never rfl (pi_list (pv 0)) (pg_name (i := 3) sc_period.nd rfl (Or.inl rfl)) (pss_one (ps_if (pt_chain op_le op_le (pe_fld (pv 3) rfl) (pv 1) (pe_calP TD.cl CL (hr.mono (by decide)) (pv 3))) (pss_one (ps_set (i := 2) sc_period.nd rfl (Or.inl rfl) ((pe_callBfun cr_lcm (by rfl) hLcm (pa_cons (pv 2) (pa_cons (pe_fld (pv 3) rfl) pa_nil)))))) pss_nil)))
      (pss_one (ps_ret (pv 2))))), ?_⟩
    refine ⟨_, rfl, L, rfl, ⟨_, SqL.of hvs⟩, for_list (K := K) (a := L) (xs := vs) (fun i σ' H' => H' = H ∧ ∃ (o3 : Option V), σ' = [some (.ref L), some (.int k), some (.int ((ps.take i).foldl (perS k) 1)), o3])
      ⟨rfl, none, rfl⟩ (fun i σ' H' _ h => h.1 ▸ SqL.of hvs) ?_ ?_⟩
    · rintro i y σ' H' hy ⟨rfl, o3, rfl⟩
      obtain ⟨p, hp⟩ := item hlen hy
      obtain ⟨y', hy', r, rfl, dr, hr2⟩ := hall i p hp
      rw [hy] at hy'
      cases hy'
      have rok := pok p (mem_at hp)
      have pk := per_ok (ps := ps.take i) (fun x hx => pok x (List.mem_of_mem_take hx)) k 1 (by decide) (Int.one_dvd _)
      have p12 := Int.le_of_dvd (by decide) pk.2.1
      have p0 := pk.1
      have fs : (ps.take (i + 1)).foldl (perS k) 1 = perS k ((ps.take i).foldl (perS k) 1) p := fold_snocX hp
      generalize (ps.take i).foldl (perS k) 1 = a at *
      refine ⟨_, rfl, r, D, dr, _, _, rfl, hr2, TD.cl, TD.nF, gf_first _ _ _, _, rfl, _, _, rfl, rfl, _, rfl, ifD (fun h1 => ?_) (fun h1 => ?_)⟩
      · refine ⟨_, rfl, r, dr, _, rfl, hr2, r, p.f, p.s, p.c, rfl, ⟨dr, hr2⟩, rok, _, _, rfl, rfl, _, rfl, ifD (fun h2 => ?_) (fun h2 => ?_)⟩
        · refine ⟨_, rfl, _, rfl, r, D, dr, _, _, rfl, hr2, TD.cl, TD.nS, gf_step _ _ _, ?_⟩
          refine ⟨_, _, rfl, Nat.lt_of_lt_of_le (show a.natAbs < 2 ^ 8 by omega) (Nat.pow_le_pow_right (by decide) (by decide)), Nat.lt_of_lt_of_le (show p.s.natAbs < 2 ^ 8 by have := rok.s1; have := rok.s4; omega) (Nat.pow_le_pow_right (by decide) (by decide)), ?_⟩
          refine ⟨rfl, some (.ref r), ?_⟩
          rw [fs, show perS k a p = lcmI a p.s from if_pos ⟨h1, h2⟩]
          rfl
        · refine ⟨rfl, some (.ref r), ?_⟩
          rw [fs, show perS k a p = a from if_neg (fun h => h2 h.2)]
          rfl
      · refine ⟨_, rfl, iteF ⟨rfl, some (.ref r), ?_⟩⟩
        rw [fs, show perS k a p = a from if_neg (fun h => h1 h.1)]
        rfl
    · rintro σ' H' ⟨rfl, o3, rfl⟩
      rw [hlen, List.take_length]
      exact ⟨_, rfl, q⟩
end
end L

set_option Elab.async false
set_option linter.all false
set_option maxRecDepth 100000
set_option maxHeartbeats 4000000
set_option pp.maxSteps 160
set_option pp.deepTerms false
namespace L
open PySem PySem.Spec PyProof.Rows L2 Fl
local macro_rules | `(tactic| walk_at "side") => `(tactic| first | (exact .inl ⟨by omega, by omega⟩) | (exact .inr ⟨by omega, by omega⟩) | (exact .inr ⟨by decide, by decide⟩) | (show (_ : Int) ≠ _; omega) | (exact ⟨by omega, by decide⟩) | (exact ⟨by decide, by decide, by decide⟩))
local macro_rules | `(tactic| walk_at "go") => `(tactic| repeat (first | refine ⟨_, rfl, ?_⟩ | refine ⟨_, _, rfl, rfl, ?_⟩ | refine .inl ⟨_, rfl, ?_⟩ | refine ⟨rfl, ?_⟩ | refine ⟨(by walk_at "side"), ?_⟩))
local macro_rules | `(tactic| walk_at "see") => `(tactic| (set_option pp.maxSteps 110 in set_option pp.deepTerms false in trace_state))
local macro_rules | `(tactic| walk_at "if") => `(tactic| first | refine ifE ?_ ?_ | refine ifNE ?_ ?_ | refine ifD ?_ ?_ | refine ifN ?_ ?_ | refine ifB ?_ ?_)
open Bx

theorem for_zipS {K : PySem.W.Frag} {a b : Addr} {xs ys : List V} {g : TG} {tb : TS} {D : Ends} {σ : L2.St} {H : Hp} (hl : ys.length ≤ xs.length) (Pv : Nat → L2.St → Hp → Prop) (h0 : Pv 0 σ H) (hq : ∀ i σ H, Pv i σ H → SqL K H a xs ∧ SqL K H b ys)
    (hs : ∀ (i : Nat) (x y : V) (T : Addr) (σ : L2.St) (H : Hp), xs[i]? = some x → ys[i]? = some y → Pv i σ H → H T = none → g (.ref T) σ (upd H T (.tup [x, y])) fun σ2 H2 => tb { D with nx := Pv (i + 1), ct := Pv (i + 1), bk := D.nx } σ2 H2) (hd : ∀ σ H, Pv ys.length σ H → D.nx σ H) :
    ∃ W : Nat → Nat → L2.St → Hp → Prop, (∃ m, W 0 m σ H) ∧ ∀ i m σ H, W i m σ H →
      ((Itz K a b).stop i H ∧ D.nx σ H) ∨ ((Itz K a b).go i H ∧ ∃ N : L2.St → Hp → Prop, (∀ σ' H', N σ' H' → ∃ m', m' < m ∧ W (i + 1) m' σ' H') ∧ ∀ v H', (Itz K a b).yld i H v H' → g v σ H' fun σ2 H2 => tb { D with nx := N, ct := N, bk := D.nx } σ2 H2) := by
  refine ⟨fun i m σ H => m = ys.length - i ∧ i ≤ ys.length ∧ Pv i σ H, ⟨ys.length, rfl, Nat.zero_le _, h0⟩, ?_⟩
  rintro i m σ H ⟨rfl, hi, p⟩
  obtain ⟨qx, qy⟩ := hq i σ H p
  by_cases hlt : i < ys.length
  · have hy : ys[i]? = some ys[i] := List.getElem?_eq_getElem hlt
    have hlt2 : i < xs.length := by omega
    have hx : xs[i]? = some xs[i] := List.getElem?_eq_getElem hlt2
    refine .inr ⟨⟨xs, ys, _, _, qx, qy, hx, hy⟩, Pv (i + 1), fun σ' H' p' => ⟨ys.length - (i + 1), by omega, rfl, hlt, p'⟩, fun v H' y => ?_⟩
    obtain ⟨T, x', y', rfl, hT, rfl, f1, f2⟩ := y
    exact hs i x' y' T σ H (f1 xs qx) (f2 ys qy) p hT
  · have e : i = ys.length := by omega
    subst e
    exact .inl ⟨⟨xs, ys, qx, qy, Or.inr (Nat.le_refl _)⟩, hd σ H p⟩
theorem cut_tail (xs : List V) (h : 1 ≤ xs.length) : cutV xs (some 1) none = xs.drop 1 := by
  unfold cutV
  have e : HT.sIx xs.length 0 (some 1) = 1 := by
    show (if (1 : Int) < 0 then ((1 : Int) + (xs.length : Int)).toNat else min (1 : Int).toNat xs.length) = 1
    rw [if_neg (by decide)]
    show min 1 xs.length = 1
    omega
  rw [e, HT.sIx_none]
  exact List.take_of_length_le (by rw [List.length_drop]; exact Nat.le_refl _)
theorem stP_snoc {ps : List Pt} (a b : Int) : ∀ pre : List Int, stP ps (pre ++ [a, b]) = stP ps (pre ++ [a]) ++ (if a < b then [⟨a, some (b - 1), perL ps a⟩] else [])
  | [] => by
    show (if a < b then [⟨a, some (b - 1), perL ps a⟩] else []) ++ stP ps [b] = stP ps [a] ++ _
    rw [show stP ps [b] = [] from rfl, show stP ps [a] = [] from rfl, List.append_nil, List.nil_append]
  | [x] => by
    show (if x < a then _ else []) ++ ((if a < b then _ else []) ++ stP ps [b]) = ((if x < a then _ else []) ++ stP ps [a]) ++ _
    rw [show stP ps [b] = [] from rfl, show stP ps [a] = [] from rfl, List.append_nil, List.append_nil]
  | x :: y :: r => by
    have ih := stP_snoc (ps := ps) a b (y :: r)
    show (if x < y then _ else []) ++ stP ps (y :: (r ++ [a, b])) = ((if x < y then _ else []) ++ stP ps (y :: (r ++ [a]))) ++ _
    rw [List.append_assoc]
    exact congrArg _ ih
theorem stP_take {ps : List Pt} {ms : List Int} {i : Nat} {a b : Int} (ha : ms[i]? = some a) (hb : ms[i + 1]? = some b) : stP ps (ms.take (i + 2)) = stP ps (ms.take (i + 1)) ++ (if a < b then [⟨a, some (b - 1), perL ps a⟩] else []) := by
  have e1 : ms.take (i + 1) = ms.take i ++ [a] := take_snoc ha
  have e2 : ms.take (i + 2) = ms.take (i + 1) ++ [b] := take_snoc hb
  rw [e2, e1, List.append_assoc]
  exact stP_snoc a b (ms.take i)
theorem stP_len {ps : List Pt} : ∀ ms : List Int, (stP ps ms).length ≤ ms.length
  | [] => Nat.le_refl _
  | [_] => Nat.zero_le _
  | a :: b :: r => by
    have ih := stP_len (ps := ps) (b :: r)
    show ((if a < b then _ else []) ++ stP ps (b :: r)).length ≤ _
    rw [List.length_append]
    have : (if a < b then ([⟨a, some (b - 1), perL ps a⟩] : List Tri) else []).length ≤ 1 := by split <;> simp
    simp only [List.length_cons] at *
    omega
/-- the list l holds the stretches so far -/
def TsAt (H : Hp) (l : Addr) (ts : List Tri) : Prop := LAt TriP H l ts
theorem ts_snoc {H : Hp} {l : Addr} {ts : List Tri} {as : List V} {t : Tri} {a : Addr} (h : H l = some (.lst as)) (k : LAt TriP H l ts) (ha : H a = some (.tup [.int t.low, optV t.high, .int t.p])) : LAt TriP (upd H l (.lst (as ++ [.ref a]))) l (ts ++ [t]) := by
  obtain ⟨vs, hvs, hlen, hall⟩ := k
  rw [h] at hvs
  cases hvs
  have ne : ∀ {b : Addr} {xs : List V}, H b = some (.tup xs) → b ≠ l := fun {b xs} hb e => by
    rw [e, h] at hb
    cases hb
  refine ⟨as ++ [.ref a], upd_same, by rw [List.length_append, List.length_append, hlen]; rfl, fun i x hx => ?_⟩
  by_cases hi : i < ts.length
  · rw [List.getElem?_append_left hi] at hx
    obtain ⟨v, hv, b, e, hb⟩ := hall i x hx
    exact ⟨v, by rw [List.getElem?_append_left (by omega)]; exact hv, b, e, by rw [upd_ne (ne hb)]; exact hb⟩
  · have hl := (List.getElem?_eq_some_iff.mp hx).1
    rw [List.length_append] at hl
    have e : i = ts.length := by simp at hl; omega
    subst e
    rw [List.getElem?_append_right (Nat.le_refl _), Nat.sub_self] at hx
    cases hx
    exact ⟨.ref a, by rw [List.getElem?_append_right (by omega), hlen, Nat.sub_self]; rfl, a, rfl, by rw [upd_ne (ne ha)]; exact ha⟩
theorem atI_last {xs : List V} {ys : List V} {v : V} (h : xs = ys ++ [v]) : atI xs (-1) = some v := by
  subst h
  unfold atI ixN
  rw [if_neg (by decide), List.length_append, if_pos (by show -(((ys.length + 1 : Nat)) : Int) ≤ -1; omega)]
  show (ys ++ [v])[((-1 : Int) + ((ys.length + 1 : Nat) : Int)).toNat]? = some v
  rw [show ((-1 : Int) + ((ys.length + 1 : Nat) : Int)).toNat = ys.length by omega, List.getElem?_append_right (Nat.le_refl _), Nat.sub_self]
  rfl
section
variable {P : Program} {w : World} {K : PySem.W.Frag} {mg : Str → Option Value} {base : Heap}

def spStretches (D : Addr) : Sp := fun vs H Q _ => ∃ (L : Addr) (ps : List Pt), vs = [.ref L] ∧ LAt (RnP D) H L ps ∧ (∀ p ∈ ps, RunOk p.f p.s p.c) ∧ ps.length ≤ 400 ∧ ∀ (z : Addr) (H' : Hp) (ts : List Tri), Same H H' → LAt TriP H' z ts → StOk ps ts → ts.length ≤ 1000 → Q (.ref z) H'
theorem ok_stretches {D : Addr} (B : Blt mg) (hZip : mg "zip" = none) (hSorted : mg "sorted" = none) (TD : RunC K mg D) (CL : CalP P w K mg base 1 D "last" (spLast D)) (C_period : Cal P w K mg base 3 "_period" ["runs", "k"] (spPeriod D)) (Df : Dfn K mg "stretches" "stretches" s_stretches ["runs"]) : Cal P w K mg base 4 "stretches" ["runs"] (spStretches D) := by
  refine Df.cal sc_stretches (fun vs H Q E h => ?_) (fun fA cdv A outer st H vs Q E hr h => ?_)
  · obtain ⟨L, ps, rfl, _⟩ := h
    rfl
  · obtain ⟨L, ps, rfl, hLp, pok, l4, q⟩ := h
    obtain ⟨vs, hvs, hlen, hall⟩ := id hLp
    refine ⟨_, (pss_cons (ps_set (i := 1) sc_stretches.nd rfl (Or.inl rfl) (pe_lst (pa_cons (pe_int) pa_nil)))
      (pss_cons (ps_for PassesOwn.never rfl (pi_list (pv 0)) (pg_name (i := 2) sc_stretches.nd rfl (Or.inl rfl)) (pss_cons (ps_expr (pe_bm PySem.F.plainAttrs_list PySem.F.slot_list_append PySem.F.type_list_append mt_append (pv 1) (pa_cons (pe_fld (pv 2) rfl) pa_nil)))
      (pss_one (ps_expr (pe_bm PySem.F.plainAttrs_list PySem.F.slot_list_append PySem.F.type_list_append mt_append (pv 1) (pa_cons (pe_op op_add (pe_calP TD.cl CL (hr.mono (by decide)) (pv 2)) (pe_int)) pa_nil))))))
      (pss_cons (ps_set (i := 1) sc_stretches.nd rfl (Or.inl rfl) (pe_callB cr_sortedI (by rfl) hSorted (by decide +kernel) (pa_cons (pe_lc (own := [("mark", 3)]) (g := gName 3) rfl sc_stretches.nd (pi_list (pv 1)) (blkOk_by (N := ["runs", "marks", "run", "mark", "found", "low", "after"]) (sc := defScope s_stretches) (by decide +kernel)) (fun _ _ _ _ _ => pg_name (i := 3) sc_stretches.nd rfl (Or.inl rfl)) (fun _ _ _ _ _ => pts_nil) (fun _ _ _ _ _ => (pe_callTy call_int1 (by rfl) B.int (by decide +kernel) (pa_cons (pv 3) pa_nil)))) pa_nil)))
      (pss_cons (ps_set (i := 4) sc_stretches.nd rfl (Or.inl rfl) (pe_lst pa_nil))
      (pss_cons (ps_for PassesOwn.never rfl (pi_zip (by rfl) hZip (pa_cons (pv 1) (pa_cons (pe_slice sl_list (pv 1) (po_some (pe_int)) po_none) pa_nil))) (pg_tup rfl (pgs_cons (pg_name (i := 5) sc_stretches.nd rfl (Or.inl rfl)) (pgs_cons (pg_name (i := 6) sc_stretches.nd rfl (Or.inl rfl)) pgs_nil))) (pss_one (ps_if (pt_cmpR op_lt (pv 5) (pv 6) (nomark _)) (pss_one (ps_expr (pe_bm PySem.F.plainAttrs_list PySem.F.slot_list_append PySem.F.type_list_append mt_append (pv 4) (pa_cons (pe_tup (pa_cons (pv 5) (pa_cons (pe_op op_sub (pv 6) (pe_int)) (pa_cons (pe_cal C_period (hr.mono (by decide)) (pa_cons (pv 0) (pa_cons (pv 5) pa_nil))) pa_nil)))) pa_nil)))) pss_nil)))
      (pss_cons (ps_expr (pe_bm PySem.F.plainAttrs_list PySem.F.slot_list_append PySem.F.type_list_append mt_append (pv 4) (pa_cons (pe_tup (pa_cons (pe_ix ix_list (pv 1) (pe_un un_neg (pe_int)) (fun _ _ => rfl)) (pa_cons (pe_non) (pa_cons (pe_int) pa_nil)))) pa_nil)))
      (pss_one (ps_ret (pv 4))))))))), ?_⟩
    refine ⟨(by show 1 ≤ sizeLine; decide), fun l hl => ?_⟩
    have mk : ∀ i, ((0 :: (ps.take i).flatMap fun p => [p.f, p.f + p.s * (p.c - 1) + 1] : List Int)).length ≤ 1 + 2 * i := fun i => by
      have k : ∀ qs : List Pt, (qs.flatMap fun p => [p.f, p.f + p.s * (p.c - 1) + 1]).length = 2 * qs.length := fun qs => by
        induction qs with
        | nil => rfl
        | cons a r ih =>
          rw [List.flatMap_cons, List.length_append, ih]
          simp only [List.length_cons, List.length_nil]
          omega
      rw [List.length_cons, k, List.length_take]
      omega
    refine ⟨_, rfl, L, rfl, ⟨_, SqL.of (same_upd (o := .lst [.int 0]) hl _ _ hvs)⟩, for_list (K := K) (a := L) (xs := vs) (fun i σ' H' => Same H H' ∧ H' l = some (.lst ((0 :: (ps.take i).flatMap fun p => [p.f, p.f + p.s * (p.c - 1) + 1] : List Int).map V.int)) ∧ ∃ o2 : Option V, σ' = [some (.ref L), some (.ref l), o2, none, none, none, none])
      ⟨same_upd hl, upd_same, none, rfl⟩ (fun i σ' H' _ h => SqL.of (h.1 _ _ hvs)) ?_ ?_⟩
    · rintro i y σ' H' hy ⟨s1, hl1, o2, rfl⟩
      obtain ⟨p, hp⟩ := item hlen hy
      obtain ⟨y', hy', r, rfl, dr, hr2⟩ := hall i p hp
      rw [hy] at hy'
      cases hy'
      have il := (List.getElem?_eq_some_iff.mp hp).1
      have rok := pok p (mem_at hp)
      have m1 := mk i
      have hr3 := s1 _ _ hr2
      have nr : r ≠ l := ne_of hr3 hl1 (by intro z; cases z)
      refine ⟨_, rfl, .inl ⟨rfl, _, SqL.of hl1⟩, _, rfl, r, D, dr, _, _, rfl, hr3, TD.cl, TD.nF, gf_first _ _ _, l, _, _, rfl, rfl, hl1, small1000 (by rw [List.length_map]; omega), ?_⟩
      refine ⟨_, rfl, .inl ⟨rfl, _, SqL.of upd_same⟩, _, rfl, r, dr, _, rfl, (by rw [upd_ne nr]; exact hr3), r, p.f, p.s, p.c, rfl, ⟨dr, by rw [upd_ne nr]; exact hr3⟩, rok, _, _, rfl, rfl, l, _, _, rfl, rfl, upd_same, small1000 (by rw [List.length_append, List.length_map]; show _ + 1 ≤ 1000; omega), ?_⟩
      refine ⟨fun b o h => ?_, ?_, _, rfl⟩
      · have hb : b ≠ l := fun e => by rw [e, hl] at h; cases h
        rw [upd_ne hb, upd_ne hb]
        exact s1 b o h
      · rw [upd_same, take_snoc hp, List.flatMap_append]
        generalize (List.take i ps).flatMap (fun p => [p.f, p.f + p.s * (p.c - 1) + 1]) = X
        show some (HO.lst ((V.int 0 :: X.map V.int ++ [V.int p.f]) ++ [V.int (p.f + p.s * (p.c - 1) + 1)])) = _
        simp
    rintro σ' H1 ⟨s1, hl1, o2, rfl⟩
    rw [hlen, List.take_length] at hl1
    have ml : (marksL ps).length ≤ 801 := by
      have := mk ps.length
      rw [List.take_length] at this
      exact Nat.le_trans this (by omega)
    have hl1 : H1 l = some (.lst ((marksL ps).map V.int)) := hl1
    -- int(mark) for each, sorted
    refine ⟨_, rfl, l, rfl, ⟨_, SqL.of hl1⟩, fun D1 hD1 => lc_build (xs := (marksL ps).map V.int) (fun _ v (b : Int) => v = V.int b) (marksL ps) (fun _ _ _ _ _ h => h) hD1 (List.length_map ..) (SqL.of hl1) (by omega) ?_ ?_⟩
    · rintro i y n H2 Kc Ke hy hn s ⟨acc, hacc⟩ kk
      rw [List.getElem?_map, hn] at hy
      cases hy
      refine ⟨rfl, ?_⟩
      exact ⟨_, rfl, .inl ⟨_, rfl, kk _ H2 (Same.refl _) rfl⟩⟩
    intro H2 s2 hS
    refine ⟨D1, marksL ps, rfl, SqL.of (hS.map fun v x e => e), fun ms m pm so hm => ?_⟩
    have s3 := same_upd (o := .lst (ms.map V.int)) hm
    have hml := pm.length_eq
    obtain ⟨mne, sto⟩ := st_ok pok so pm
    have s03 := (s1.trans s2).trans s3
    have hmm : (upd H2 m (.lst (ms.map V.int))) m = some (.lst (ms.map V.int)) := upd_same
    generalize upd H2 m (.lst (ms.map V.int)) = H3 at *
    refine ⟨(by show 0 ≤ sizeLine; decide), fun fl hfl => ?_⟩
    have s4 := same_upd (o := .lst []) hfl
    refine ⟨_, rfl, _, rfl, 1, rfl, m, _, rfl, SqL.of (s4 _ _ hmm), fun m2 hm2 => ?_⟩
    rw [cut_tail _ (by rw [List.length_map, hml]; exact Nat.succ_le_succ (Nat.zero_le _))]
    have s5 := same_upd (o := .lst ((ms.map V.int).drop 1)) hm2
    have hfl5 : (upd (upd H3 fl (.lst [])) m2 (.lst ((ms.map V.int).drop 1))) fl = some (.lst []) := s5 _ _ upd_same
    have hm25 : (upd (upd H3 fl (.lst [])) m2 (.lst ((ms.map V.int).drop 1))) m2 = some (.lst ((ms.map V.int).drop 1)) := upd_same
    have s35 := s4.trans s5
    have nfl : H m2 = none ∨ True := .inr trivial
    have m2fl : m2 ≠ fl := fun e => by rw [e, upd_same] at hm2; cases hm2
    generalize upd (upd H3 fl (.lst [])) m2 (.lst ((ms.map V.int).drop 1)) = H5 at *
    have hmm5 := s35 _ _ hmm
    have mfl : m ≠ fl := fun e => by rw [e, hfl] at hmm; cases hmm
    refine ⟨m, m2, _, _, rfl, SqL.of hmm5, SqL.of hm25, for_zipS (K := K) (a := m) (b := m2) (xs := ms.map V.int) (ys := (ms.map V.int).drop 1) (by rw [List.length_drop]; omega) (fun i σ' H' => Same H3 H' ∧ H' m2 = some (.lst ((ms.map V.int).drop 1)) ∧ LAt TriP H' fl (stP ps (ms.take (i + 1))) ∧ ∃ o2 o4 o5 : Option V, σ' = [some (.ref L), some (.ref m), o2, none, some (.ref fl), o4, o5])
      ⟨s35, hm25, ⟨[], hfl5, ?_, ?_⟩, o2, none, none, rfl⟩ (fun i σ' H' h => ⟨SqL.of (h.1 _ _ hmm), SqL.of h.2.1⟩) ?_ ?_⟩
    · have : stP ps (ms.take 1) = [] := by
        cases ms with
        | nil => rfl
        | cons a r => rfl
      rw [this]
      rfl
    · intro i x hx
      have : stP ps (ms.take 1) = [] := by
        cases ms with
        | nil => rfl
        | cons a r => rfl
      rw [show 0 + 1 = 1 from rfl, this] at hx
      simp at hx
    · rintro i x y T σ' H6 hx hy ⟨s6, hm26, hts, o2, o4, o5, rfl⟩ hT
      rw [List.getElem?_map] at hx
      rw [List.getElem?_drop, List.getElem?_map] at hy
      obtain ⟨a, ha⟩ : ∃ a, ms[i]? = some a := by
        cases h : ms[i]? with
        | none => rw [h] at hx; cases hx
        | some a => exact ⟨a, rfl⟩
      obtain ⟨b, hb⟩ : ∃ b, ms[i + 1]? = some b := by
        cases h : ms[1 + i]? with
        | none => rw [h] at hy; cases hy
        | some b => exact ⟨b, by rw [Nat.add_comm]; exact h⟩
      rw [ha] at hx
      rw [Nat.add_comm 1 i, hb] at hy
      cases hx
      cases hy
      have sT := same_upd (o := .tup [.int a, .int b]) hT
      have hts7 : LAt TriP (upd H6 T (.tup [.int a, .int b])) fl (stP ps (ms.take (i + 1))) := hts.same triP_mono sT
      have s7 := s6.trans sT
      have hm27 := sT _ _ hm26
      have hTT : (upd H6 T (.tup [.int a, .int b])) T = some (.tup [.int a, .int b]) := upd_same
      have tk := stP_take (ps := ps) ha hb
      generalize upd H6 T (.tup [.int a, .int b]) = H7 at *
      refine ⟨T, _, rfl, SqT.of hTT, rfl, _, _, rfl, _, _, rfl, rfl, ?_⟩
      refine ⟨_, rfl, _, rfl, _, _, rfl, rfl, _, rfl, ifD (fun lt => ?_) (fun lt => ?_)⟩
      · rw [if_pos lt] at tk
        obtain ⟨as, has, hal, _⟩ := id hts7
        have sl := stP_len (ps := ps) (ms.take (i + 1))
        rw [List.length_take] at sl
        refine ⟨_, rfl, .inl ⟨rfl, _, SqL.of has⟩, _, rfl, _, rfl, _, _, rfl, rfl, _, rfl, _, rfl, L, ps, a, rfl, hLp.same rnP_mono (s03.trans s7), pok, ?_⟩
        refine ⟨(by show 3 ≤ sizeLine; decide), fun t ht => ?_⟩
        have st := same_upd (o := .tup [.int a, .int (b - 1), .int (perL ps a)]) ht
        have has8 := st _ _ has
        refine ⟨fl, as, _, rfl, rfl, has8, small1000 (by rw [hml] at sl; omega), ?_⟩
        refine ⟨fun c o h => ?_, ?_, ?_, _, _, _, rfl⟩
        · have hc : c ≠ fl := fun e => by rw [e, hfl] at h; cases h
          rw [upd_ne hc]
          exact st _ _ (s7 _ _ h)
        · rw [upd_ne m2fl]
          exact st _ _ hm27
        · rw [show i + 1 + 1 = i + 2 from rfl, tk]
          exact ts_snoc (t := ⟨a, some (b - 1), perL ps a⟩) has8 (hts7.same triP_mono st) upd_same
      · rw [if_neg lt, List.append_nil] at tk
        refine ⟨s7, hm27, ?_, _, _, _, rfl⟩
        rw [show i + 1 + 1 = i + 2 from rfl, tk]
        exact hts7
    · rintro σ' H6 ⟨s6, hm26, hts, o2, o4, o5, rfl⟩
      rw [List.length_drop, List.length_map] at hts
      have m1 : 1 ≤ ms.length := by rw [hml]; exact Nat.succ_le_succ (Nat.zero_le _)
      rw [show ms.length - 1 + 1 = ms.length by omega, List.take_length] at hts
      obtain ⟨as, has, hal, _⟩ := id hts
      have sl := stP_len (ps := ps) ms
      have ge : ms.map V.int = (ms.dropLast.map V.int) ++ [V.int (ms.getLast mne)] := by
        rw [← List.map_singleton, ← List.map_append, List.dropLast_concat_getLast]
      refine ⟨_, rfl, .inl ⟨rfl, _, SqL.of has⟩, _, rfl, _, rfl, _, _, _, _, rfl, rfl, SqL.of (s6 _ _ hmm), atI_last ge, (by show 3 ≤ sizeLine; decide), fun t ht => ?_⟩
      have st := same_upd (o := .tup [.int (ms.getLast mne), .non, .int 1]) ht
      have has8 := st _ _ has
      refine ⟨fl, as, _, rfl, rfl, has8, small1000 (by rw [hml] at sl; omega), ?_⟩
      refine ⟨_, rfl, q fl _ (stAll ps ms (ms.getLast mne)) (fun c o h => ?_) (ts_snoc (t := ⟨ms.getLast mne, none, 1⟩) has8 (hts.same triP_mono st) upd_same) sto ?_⟩
      · have h3 := s03 _ _ h
        have hc : c ≠ fl := fun e => by rw [e, hfl] at h3; cases h3
        rw [upd_ne hc]
        exact st _ _ (s6 _ _ h3)
      · unfold stAll
        rw [List.length_append]
        simp
        omega
end
end L

set_option Elab.async false
set_option linter.all false
set_option maxRecDepth 100000
set_option maxHeartbeats 4000000
set_option pp.maxSteps 160
set_option pp.deepTerms false
namespace L
open PySem PySem.Spec PyProof.Rows L2 Fl
local macro_rules | `(tactic| walk_at "side") => `(tactic| first | (exact .inl ⟨by omega, by omega⟩) | (exact .inr ⟨by omega, by omega⟩) | (exact .inr ⟨by decide, by decide⟩) | (show (_ : Int) ≠ _; omega) | (exact ⟨by omega, by decide⟩) | (exact ⟨by decide, by decide, by decide⟩))
local macro_rules | `(tactic| walk_at "go") => `(tactic| repeat (first | refine ⟨_, rfl, ?_⟩ | refine ⟨_, _, rfl, rfl, ?_⟩ | refine .inl ⟨_, rfl, ?_⟩ | refine ⟨rfl, ?_⟩ | refine ⟨(by walk_at "side"), ?_⟩))
local macro_rules | `(tactic| walk_at "see") => `(tactic| (set_option pp.maxSteps 110 in set_option pp.deepTerms false in trace_state))
local macro_rules | `(tactic| walk_at "if") => `(tactic| first | refine ifE ?_ ?_ | refine ifNE ?_ ?_ | refine ifD ?_ ?_ | refine ifN ?_ ?_ | refine ifB ?_ ?_)
open Bx

def chR (Dn k : Int) : List Pt → Rat
  | [] => 0
  | p :: r => (if isin p.f p.s p.c k = true then rq (p.n, Dn) * rq (1, p.c) else 0) + chR Dn k r
theorem wt_ch {Dn u : Int} {p : Pt} (dp : 0 < Dn) (c1 : 1 ≤ p.c) (h : nU p.n Dn * p.c ∣ u) : (((wtOf Dn u p).n : Int) : Rat) = (u : Rat) * (rq (p.n, Dn) * rq (1, p.c)) := by
  have n0 := nU_pos (t := p.n) (Int.ne_of_gt dp)
  have c0 : 0 < p.c := by omega
  have x0 : 0 < nU p.n Dn * p.c := Int.mul_pos n0 c0
  have e1 : rq (p.n, Dn) = rq (nT p.n Dn, nU p.n Dn) := ((rq_eq (a := (nT p.n Dn, nU p.n Dn)) (b := (p.n, Dn)) n0 dp).2 (n_cross p.n Dn)).symm
  have m1 := rq_mul (a := (nT p.n Dn, nU p.n Dn)) n0
  have m2 := rq_mul (a := (1, p.c)) c0
  have eu : u = u.fdiv (nU p.n Dn * p.c) * (nU p.n Dn * p.c) := by rw [Int.fdiv_eq_ediv_of_nonneg _ (by omega), Int.ediv_mul_cancel h]
  show ((nT p.n Dn * u.fdiv (nU p.n Dn * p.c) : Int) : Rat) = _
  rw [e1]
  generalize u.fdiv (nU p.n Dn * p.c) = q at *
  rw [eu, Rat.intCast_mul, Rat.intCast_mul, Rat.intCast_mul]
  have m1 : rq (nT p.n Dn, nU p.n Dn) * (nU p.n Dn : Rat) = (nT p.n Dn : Rat) := m1
  have m2 : rq (1, p.c) * (p.c : Rat) = ((1 : Int) : Rat) := m2
  rw [← m1]
  have m3 : rq (1, p.c) * (p.c : Rat) = 1 := m2
  generalize rq (nT p.n Dn, nU p.n Dn) = a
  generalize rq (1, p.c) = b at *
  clear m1 m2 eu e1
  grind
theorem cv_rat {Dn u k : Int} (dp : 0 < Dn) : ∀ ps : List Pt, (∀ p ∈ ps, RunOk p.f p.s p.c) → Und u Dn ps → ((CV (ps.map (wtOf Dn u)) k : Int) : Rat) = (u : Rat) * chR Dn k ps
  | [], _, _ => by
    show ((0 : Int) : Rat) = (u : Rat) * 0
    rw [show ((0 : Int) : Rat) = 0 from rfl]
    grind
  | p :: r, h, hu => by
    have ih := cv_rat dp (k := k) r (fun x hx => h x (List.mem_cons_of_mem _ hx)) (fun x hx => hu x (List.mem_cons_of_mem _ hx))
    have w := wt_ch (u := u) dp (h p (List.mem_cons_self ..)).c1 (hu p (List.mem_cons_self ..))
    show (((if isin p.f p.s p.c k = true then (wtOf Dn u p).n else 0) + CV (r.map (wtOf Dn u)) k : Int) : Rat) = (u : Rat) * ((if isin p.f p.s p.c k = true then rq (p.n, Dn) * rq (1, p.c) else 0) + chR Dn k r)
    rw [Rat.intCast_add, ih]
    split
    · rw [w]
      grind
    · rw [show ((0 : Int) : Rat) = 0 from rfl]
      grind
def ngP (p : Pt) : Pt := ⟨-p.n, p.f, p.s, p.c⟩
theorem cv_ng {k : Int} : ∀ ws : List Pt, CV (ws.map ngP) k = -CV ws k
  | [] => rfl
  | q :: r => by
    show (if isin q.f q.s q.c k = true then -q.n else 0) + CV (r.map ngP) k = -((if isin q.f q.s q.c k = true then q.n else 0) + CV r k)
    rw [cv_ng r]
    split <;> omega
theorem cv_app {k : Int} (ys : List Pt) : ∀ xs : List Pt, CV (xs ++ ys) k = CV xs k + CV ys k
  | [] => by
    show CV ys k = 0 + _
    omega
  | q :: r => by
    show _ + CV (r ++ ys) k = _ + CV r k + _
    rw [cv_app ys r]
    omega
/-- the weights that first_difference looks at -/
def dW (D1 D2 u : Int) (ps qs : List Pt) : List Pt := ps.map (wtOf D1 u) ++ (qs.map (wtOf D2 u)).map ngP
theorem diff_iff {D1 D2 u k : Int} {ps qs : List Pt} (d1 : 0 < D1) (d2 : 0 < D2) (u0 : 0 < u) (hp : ∀ p ∈ ps, RunOk p.f p.s p.c) (hq : ∀ p ∈ qs, RunOk p.f p.s p.c) (h1 : Und u D1 ps) (h2 : Und u D2 qs) : chR D1 k ps ≠ chR D2 k qs ↔ CV (dW D1 D2 u ps qs) k ≠ 0 := by
  unfold dW
  rw [cv_app, cv_ng]
  have a := cv_rat d1 (k := k) ps hp h1
  have b := cv_rat d2 (k := k) qs hq h2
  have u1 : (0 : Rat) < (u : Rat) := by exact_mod_cast u0
  constructor
  · intro h e
    refine h ?_
    have e' : CV (ps.map (wtOf D1 u)) k = CV (qs.map (wtOf D2 u)) k := by omega
    rw [e', b] at a
    have un : (u : Rat) ≠ 0 := by
      intro z
      rw [z] at u1
      exact absurd u1 (by decide +kernel)
    have i1 := Rat.inv_mul_cancel (u : Rat) un
    have a2 : (u : Rat)⁻¹ * ((u : Rat) * chR D2 k qs) = (u : Rat)⁻¹ * ((u : Rat) * chR D1 k ps) := by rw [a]
    rw [← Rat.mul_assoc, ← Rat.mul_assoc, i1, Rat.one_mul, Rat.one_mul] at a2
    exact a2.symm
  · intro h e
    refine h ?_
    have : ((CV (ps.map (wtOf D1 u)) k : Int) : Rat) = ((CV (qs.map (wtOf D2 u)) k : Int) : Rat) := by rw [a, b, e]
    have : CV (ps.map (wtOf D1 u)) k = CV (qs.map (wtOf D2 u)) k := by exact_mod_cast this
    omega
/-- -1 where the chances differ -/
def dE (ws : List Pt) (k : Int) : Int := if CV ws k = 0 then 0 else -1
theorem dE_neg {ws : List Pt} {k : Int} : dE ws k < 0 ↔ CV ws k ≠ 0 := by
  unfold dE
  split <;> rename_i h
  · exact ⟨fun x => absurd x (by omega), fun x => absurd h x⟩
  · exact ⟨fun _ => h, fun _ => by omega⟩
theorem LAt.cat {α : Type} {S : Hp → V → α → Prop} {H : Hp} {T : Addr} {us vs : List V} {xs ys : List α} (hu : us.length = xs.length) (hv : vs.length = ys.length) (h1 : ∀ (i : Nat) (x : α), xs[i]? = some x → ∃ v, us[i]? = some v ∧ S H v x) (h2 : ∀ (i : Nat) (x : α), ys[i]? = some x → ∃ v, vs[i]? = some v ∧ S H v x) (hT : H T = some (.lst (us ++ vs))) : LAt S H T (xs ++ ys) := by
  refine ⟨_, hT, by rw [List.length_append, List.length_append, hu, hv], fun i x hx => ?_⟩
  rcases (by omega : i < xs.length ∨ xs.length ≤ i) with z | z
  · rw [List.getElem?_append_left z] at hx
    rw [List.getElem?_append_left (by omega)]
    exact h1 i x hx
  · rw [List.getElem?_append_right z] at hx
    rw [List.getElem?_append_right (by omega), hu]
    exact h2 _ x hx
theorem dW_ok {D1 D2 u : Int} {ps qs : List Pt} (hp : ∀ p ∈ ps, RunOk p.f p.s p.c) (hq : ∀ p ∈ qs, RunOk p.f p.s p.c) : ∀ p ∈ dW D1 D2 u ps qs, RunOk p.f p.s p.c := fun p h => by
  rcases List.mem_append.mp h with h | h
  · obtain ⟨x, hx, rfl⟩ := List.mem_map.mp h
    exact hp x hx
  · obtain ⟨y, hy, rfl⟩ := List.mem_map.mp h
    obtain ⟨x, hx, rfl⟩ := List.mem_map.mp hy
    exact hq x hx
theorem dW_len {D1 D2 u : Int} {ps qs : List Pt} : (dW D1 D2 u ps qs).length = ps.length + qs.length := by
  unfold dW
  rw [List.length_append, List.length_map, List.length_map, List.length_map]
/-- a stretch whose first period has no difference has none -/
theorem stretch_zero {low p : Int} {high : Option Int} {ws : List Pt} (p1 : 1 ≤ p) (hr : ∀ q ∈ ws, RunOk q.f q.s q.c) (hb : ∀ q ∈ ws, Beside q.f q.s q.c low high p) (z : ∀ j : Nat, j < p.toNat → inS low high (low + j) → CV ws (low + j) = 0) (k : Int) (hk : inS low high k) : CV ws k = 0 := by
  obtain ⟨j, hj, h1, ⟨m, e⟩, hi⟩ := (rows_all p1 k).2 hk
  have st : ∀ k, low ≤ k → inS low high (k + p) → CV ws (k + p) = CV ws k + 0 := fun k h1 h2 => by rw [cv_step p1 ws hr hb k h1 h2]; omega
  have := row_val (e := CV ws) p1 (inS.step st (s := low + j) (by omega)) m (by rw [← e]; exact hi)
  rw [e, this, z j hj h1]
  omega
def LeastP (bad : Int → Prop) : Option Int → Prop
  | none => ∀ k, 0 ≤ k → ¬ bad k
  | some x => 0 ≤ x ∧ bad x ∧ ∀ k, 0 ≤ k → k < x → ¬ bad k
theorem least_P {e : Int → Int} {bad : Int → Prop} {r : Option Int} (h : Least e (fun k => 0 ≤ k) r) (b : ∀ k, bad k ↔ e k < 0) : LeastP bad r := by
  cases r with
  | none => exact fun k hk hb => absurd ((b k).1 hb) (by have := h k hk; omega)
  | some x => exact ⟨h.1, (b x).2 h.2.1, fun k hk lt hb => absurd ((b k).1 hb) (by have := h.2.2 k hk lt; omega)⟩
/-- what is asked of two blends -/
structure FdOk (D1 D2 : Int) (ps qs : List Pt) (U : Int) : Prop where
  d1 : 0 < D1
  d2 : 0 < D2
  p1 : ∀ p ∈ ps, RunOk p.f p.s p.c ∧ p.n.natAbs < 2 ^ 4400
  p2 : ∀ p ∈ qs, RunOk p.f p.s p.c ∧ p.n.natAbs < 2 ^ 4400
  l1 : ps.length ≤ 200
  l2 : qs.length ≤ 200
  U0 : 0 < U
  bU : U.natAbs < 2 ^ 5900
  u1 : Und U D1 ps
  u2 : Und U D2 qs
section
variable {P : Program} {w : World} {K : PySem.W.Frag} {mg : Str → Option Value} {base : Heap}

def spDiff (C D F : Addr) : Sp := fun vs H Q _ => ∃ (a b : Addr) (D1 D2 U : Int) (ps qs : List Pt), vs = [.ref a, .ref b] ∧ BlAt C D F D1 H a ps ∧ BlAt C D F D2 H b qs ∧ FdOk D1 D2 ps qs U ∧
  ∀ (H' : Hp) (r : Option Int), Same H H' → LeastP (fun k => chR D1 k ps ≠ chR D2 k qs) r → Q (optV r) H'
theorem ok_diff {C D F : Addr} (B : Blt mg) (TF : BleC K mg F) (C_common_under : Cal P w K mg base 2 "common_under" ["blends"] (spUnder C D F)) (C_weighted : Cal P w K mg base 2 "weighted" ["blend", "under"] (spWeighted C D F)) (C_stretches : Cal P w K mg base 4 "stretches" ["runs"] (spStretches D)) (C_whole_chance : Cal P w K mg base 4 "whole_chance" ["weights", "k"] (spWholeChance D))
    (Df : Dfn K mg "first_difference" "first_difference" s_first_difference ["one", "other"]) : Cal P w K mg base 6 "first_difference" ["one", "other"] (spDiff C D F) := by
  refine Df.cal sc_first_difference (fun vs H Q E h => ?_) (fun fA cdv A outer st H vs Q E hr h => ?_)
  · obtain ⟨a, b, D1, D2, U, ps, qs, rfl, _⟩ := h
    rfl
  · obtain ⟨a, b, D1, D2, U, ps, qs, rfl, ha, hb, fd, q⟩ := h
    refine ⟨_, (pss_cons (ps_set (i := 2) sc_first_difference.nd rfl (Or.inl rfl) (pe_cal C_common_under (hr.mono (by decide)) (pa_cons (pe_lst (pa_cons (pv 0) (pa_cons (pv 1) pa_nil))) pa_nil)))
      (pss_cons (ps_set (i := 3) sc_first_difference.nd rfl (Or.inl rfl) (pe_op op_cat (pe_cal C_weighted (hr.mono (by decide)) (pa_cons (pv 0) (pa_cons (pv 2) pa_nil))) (pe_lc (own := [("weight", 4), ("run", 5)]) (g := (gTup K 2 (gCons (gName 4) (gCons (gName 5) gNil)))) rfl sc_first_difference.nd (pi_list (pe_cal C_weighted (hr.mono (by decide)) (pa_cons (pv 1) (pa_cons (pv 2) pa_nil)))) (blkOk_by (N := ["one", "other", "under", "weights", "weight", "run", "low", "high", "period", "_", "k"]) (sc := defScope s_first_difference) (by decide +kernel)) (fun _ _ _ _ _ => (pg_tup rfl (pgs_cons (pg_name (i := 4) sc_first_difference.nd rfl (Or.inl rfl)) (pgs_cons (pg_name (i := 5) sc_first_difference.nd rfl (Or.inl rfl)) pgs_nil)))) (fun _ _ _ _ _ => pts_nil) (fun _ _ _ _ _ => (pe_tup (pa_cons (pe_un un_neg (pv 4)) (pa_cons (pv 5) pa_nil)))))))
      (pss_cons (ps_for PassesOwn.never rfl (pi_list (pe_cal C_stretches (hr.mono (by decide)) (pa_cons (pe_lc (own := [("_", 9), ("run", 5)]) (g := (gTup K 2 (gCons (gName 9) (gCons (gName 5) gNil)))) rfl sc_first_difference.nd (pi_list (pv 3)) (blkOk_by (N := ["one", "other", "under", "weights", "weight", "run", "low", "high", "period", "_", "k"]) (sc := defScope s_first_difference) (by decide +kernel)) (fun _ _ _ _ _ => (pg_tup rfl (pgs_cons (pg_name (i := 9) sc_first_difference.nd rfl (Or.inl rfl)) (pgs_cons (pg_name (i := 5) sc_first_difference.nd rfl (Or.inl rfl)) pgs_nil)))) (fun _ _ _ _ _ => pts_nil) (fun _ _ _ _ _ => (pv 5))) pa_nil))) (pg_tup rfl (pgs_cons (pg_name (i := 6) sc_first_difference.nd rfl (Or.inl rfl)) (pgs_cons (pg_name (i := 7) sc_first_difference.nd rfl (Or.inl rfl)) (pgs_cons (pg_name (i := 8) sc_first_difference.nd rfl (Or.inl rfl)) pgs_nil)))) (pss_one (ps_for PassesOwn.never rfl (pi_range2L (by rfl) B.range (pa_cons (pv 6) (pa_cons (pe_op op_add (pv 6) (pv 8)) pa_nil))) (pg_name (i := 10) sc_first_difference.nd rfl (Or.inl rfl)) (pss_one (ps_if (PW.pt (pw_and (PW.pt (pw_or (pt_cmpR op_isN (pv 7) (pe_non) (nomark _)) (pw_or1 (pt_cmpR op_le (pv 10) (pv 7) (nomark _))))) (pw_and1 (pt_cmpR op_ne (pe_cal C_whole_chance (hr.mono (by decide)) (pa_cons (pv 3) (pa_cons (pv 10) pa_nil))) (pe_int) (nomark _))))) (pss_one (ps_ret (pv 10))) pss_nil)))))
      (pss_one (ps_ret (pe_non)))))), ?_⟩
    have sz : (1000 : Nat) ≤ sizeLine := by decide
    refine ⟨_, rfl, _, rfl, (by show 2 ≤ sizeLine; decide), fun Lb hLb => ?_⟩
    have sL := same_upd (o := .lst [.ref a, .ref b]) hLb
    have ha := ha.same sL
    have hb := hb.same sL
    have hLL : LAt (BlsP C D F) (upd H Lb (.lst [.ref a, .ref b])) Lb [(D1, ps), (D2, qs)] := ⟨_, upd_same, rfl, fun i z hz => by
      rcases i with _ | _ | i
      · cases hz
        exact ⟨_, rfl, a, rfl, ha⟩
      · cases hz
        exact ⟨_, rfl, b, rfl, hb⟩
      · cases hz⟩
    generalize upd H Lb (.lst [.ref a, .ref b]) = H1 at *
    refine ⟨Lb, _, U, rfl, hLL, fun z hz => ?_, fd.U0, ub fd.bU (by decide), fun z hz => ?_, fun u u0 ud hu => ?_⟩
    · rcases List.mem_cons.mp hz with rfl | hz
      · exact ⟨Int.ne_of_gt fd.d1, fun p hp => (fd.p1 p hp).1⟩
      · rw [List.mem_singleton.mp hz]
        exact ⟨Int.ne_of_gt fd.d2, fun p hp => (fd.p2 p hp).1⟩
    · rcases List.mem_cons.mp hz with rfl | hz
      · exact fd.u1
      · rw [List.mem_singleton.mp hz]
        exact fd.u2
    have hu1 : Und u D1 ps := hu (D1, ps) (List.mem_cons_self ..)
    have hu2 : Und u D2 qs := hu (D2, qs) (List.mem_cons_of_mem _ (List.mem_cons_self ..))
    have ul := Int.le_of_dvd fd.U0 ud
    have bU := fd.bU
    have bu : u.natAbs < 2 ^ 5900 := by omega
    -- the weights
    refine ⟨_, rfl, _, rfl, a, u, D1, ps, rfl, ha, Int.ne_of_gt fd.d1, fd.p1, by have := fd.l1; omega, u0, ub bu (by decide), hu1, fun W1 H2 s2 hW1 => ?_⟩
    have hb := hb.same s2
    refine ⟨_, rfl, _, rfl, b, u, D2, qs, rfl, hb, Int.ne_of_gt fd.d2, fd.p2, by have := fd.l2; omega, u0, ub bu (by decide), hu2, fun W2 H3 s3 hW2 => ?_⟩
    have hW1 := hW1.same wtP_mono s3
    obtain ⟨us, hus, hlu, hau⟩ := id hW2
    have l1 := fd.l1
    have l2 := fd.l2
    have r1 := fun p hp => (fd.p1 p hp).1
    have r2 := fun p hp => (fd.p2 p hp).1
    have wok := dW_ok (D1 := D1) (D2 := D2) (u := u) r1 r2
    refine ⟨W2, rfl, ⟨_, SqL.of hus⟩, fun N1 hN1 => lc_build (xs := us) (WtP D) ((qs.map (wtOf D2 u)).map ngP) wtP_mono hN1 (by rw [List.length_map]; exact hlu) (SqL.of hus) (by rw [List.length_map, List.length_map]; omega) ?_ ?_⟩
    · rintro i y n H4 Kc Ke hy hn s ⟨acc, hacc⟩ kk
      rw [List.getElem?_map] at hn
      obtain ⟨p, hp⟩ := item hlu hy
      rw [hp] at hn
      cases hn
      obtain ⟨y', hy', z, r, rfl, hz, hrun⟩ := hau i p hp
      rw [hy] at hy'
      cases hy'
      refine ⟨z, _, rfl, SqT.of (s _ _ hz), rfl, _, _, rfl, _, _, rfl, rfl, rfl, ?_⟩
      refine ⟨_, rfl, _, rfl, _, rfl, (by show 2 ≤ sizeLine; decide), fun t ht => ?_⟩
      have st := same_upd (o := .tup [.int (-p.n), .ref r]) ht
      have hacc' := st _ _ hacc
      exact kk _ _ st ⟨t, r, rfl, wo_get hacc' upd_same (by intro xs z; cases z), RunAt.wo (hrun.same (s.trans st)) hacc'⟩
    intro H4 s4 hN
    obtain ⟨us1, hus1, hlu1, hau1⟩ := hW1.same wtP_mono s4
    obtain ⟨us2, hus2, hlu2, hau2⟩ := hN
    refine ⟨W1, N1, _, _, rfl, rfl, hus1, hus2, by rw [hlu1, hlu2, List.length_map, List.length_map, List.length_map]; omega, fun T hT => ?_⟩
    have s5 := same_upd (o := .lst (us1 ++ us2)) hT
    have hWs : LAt (WtP D) (upd H4 T (.lst (us1 ++ us2))) T (dW D1 D2 u ps qs) := LAt.cat hlu1 hlu2 (fun i x hx => by
      obtain ⟨v, h1, h2⟩ := hau1 i x hx
      exact ⟨v, h1, wtP_mono _ _ _ _ s5 h2⟩) (fun i x hx => by
      obtain ⟨v, h1, h2⟩ := hau2 i x hx
      exact ⟨v, h1, wtP_mono _ _ _ _ s5 h2⟩) upd_same
    generalize upd H4 T (.lst (us1 ++ us2)) = H5 at *
    have s05 := sL.trans (s2.trans (s3.trans (s4.trans s5)))
    obtain ⟨ts0, hts0, hlt, hat⟩ := id hWs
    -- the stretches
    refine ⟨_, rfl, T, rfl, ⟨_, SqL.of hts0⟩, fun R1 hR1 => lc_build (xs := ts0) (RnP D) (dW D1 D2 u ps qs) rnP_mono hR1 hlt (SqL.of hts0) (by rw [dW_len]; omega) ?_ ?_⟩
    · rintro i y p H6 Kc Ke hy hp s ⟨acc, hacc⟩ kk
      obtain ⟨y', hy', z, r, rfl, hz, hrun⟩ := hat i p hp
      rw [hy] at hy'
      cases hy'
      refine ⟨z, _, rfl, SqT.of (s _ _ hz), rfl, _, _, rfl, _, _, rfl, rfl, rfl, ?_⟩
      exact ⟨_, rfl, kk _ H6 (Same.refl _) ⟨r, rfl, (hrun.same s).wo hacc⟩⟩
    intro H6 s6 hRn
    refine ⟨R1, dW D1 D2 u ps qs, rfl, hRn, wok, by rw [dW_len]; omega, fun z0 H7 ts s7 hts sto tl => ?_⟩
    obtain ⟨vs, hvs, hlen4, hall4⟩ := hts
    have hWs7 := (hWs.same wtP_mono s6).same wtP_mono s7
    have s07 := s05.trans (s6.trans s7)
    have bad : ∀ k, (chR D1 k ps ≠ chR D2 k qs) ↔ dE (dW D1 D2 u ps qs) k < 0 := fun k => (diff_iff fd.d1 fd.d2 u0 r1 r2 hu1 hu2).trans dE_neg.symm
    refine ⟨z0, rfl, ⟨_, SqL.of hvs⟩, for_list (K := K) (a := z0) (xs := vs) (fun i σ' H' => Same H7 H' ∧ ∃ o6 o7 o8 o10 : Option V, (∀ (j : Nat) (v : Tri), j < i → ts[j]? = some v → ∀ k, inS v.low v.high k → 0 ≤ dE (dW D1 D2 u ps qs) k) ∧ σ' = [some (.ref a), some (.ref b), some (.int u), some (.ref T), none, none, o6, o7, o8, none, o10])
      ⟨Same.refl _, none, none, none, none, fun j v hj => absurd hj (Nat.not_lt_zero _), rfl⟩ (fun i σ' H' _ h => SqL.of (h.1 _ _ hvs)) ?_ ?_⟩
    · rintro i y σ' H8 hy ⟨s78, o6, o7, o8, o10, old, rfl⟩
      obtain ⟨v, hv⟩ := item hlen4 hy
      obtain ⟨y', hy', at0, rfl, hat0⟩ := hall4 i v hv
      rw [hy] at hy'
      cases hy'
      obtain ⟨p1, p12, bes⟩ := sto.rel v (mem_at hv)
      have hT8 := hWs7.same wtP_mono s78
      have sA := s07.trans s78
      obtain ⟨low, high, p⟩ := v
      refine ⟨at0, _, rfl, SqT.of (s78 _ _ hat0), rfl, _, _, rfl, _, _, rfl, _, _, rfl, rfl, ?_⟩
      have p1 : 1 ≤ p := p1
      refine ⟨_, rfl, _, rfl, _, rfl, _, _, rfl, rfl, low, low + p, rfl, for_range (n := (low + p - low).toNat) (fun i2 σ' H' => Same H8 H' ∧ ∃ o : Option V, (∀ j : Nat, j < i2 → inS low high (low + (j : Int)) → CV (dW D1 D2 u ps qs) (low + (j : Int)) = 0) ∧ σ' = [some (.ref a), some (.ref b), some (.int u), some (.ref T), none, none, some (.int low), some (optV high), some (.int p), none, o])
        ⟨Same.refl H8, _, fun j hj => absurd hj (Nat.not_lt_zero _), rfl⟩ ?_ ?_⟩
      · rintro i2 σ' H9 hi2 ⟨s8, o, z, rfl⟩
        have hT8 := hT8.same wtP_mono s8
        cases high with
        | none =>
          have ii : inS low none (low + (i2 : Int)) := ⟨by omega, fun h e => by cases e⟩
          refine ⟨_, rfl, rfl, _, rfl, iteT ?_⟩
          refine ⟨_, rfl, _, rfl, T, dW D1 D2 u ps qs, low + (i2 : Int), rfl, hT8, wok, by rw [dW_len]; omega, fun H9 s9 => ?_⟩
          refine ⟨rfl, _, rfl, ifNE (fun ne => ?_) (fun eq => ?_)⟩
          · refine ⟨_, rfl, q H9 (some (low + (i2 : Int))) (sA.trans (s8.trans s9)) (least_P (least_at sto.ch hv old ?_) bad)⟩
            exact ⟨ii, dE_neg.2 ne, fun k hk lt => by
              obtain ⟨j, ej⟩ : ∃ j : Nat, k = low + (j : Int) := ⟨(k - low).toNat, by have hk1 : low ≤ k := hk.1; omega⟩
              subst ej
              rw [show dE (dW D1 D2 u ps qs) (low + (j : Int)) = 0 from if_pos (z j (by omega) hk)]
              exact Int.le_refl _⟩
          · exact ⟨s8.trans s9, _, fun j hj hjj => by
              rcases (by omega : j < i2 ∨ j = i2) with x | rfl
              · exact z j x hjj
              · exact eq, rfl⟩
        | some hh =>
          refine ⟨_, rfl, rfl, _, rfl, iteF ?_⟩
          refine ⟨_, rfl, _, rfl, _, _, rfl, rfl, _, rfl, ifD (fun le => ?_) (fun gt => ?_)⟩
          · have ii : inS low (some hh) (low + (i2 : Int)) := ⟨by omega, fun h e => by cases e; exact le⟩
            refine ⟨_, rfl, _, rfl, T, dW D1 D2 u ps qs, low + (i2 : Int), rfl, hT8, wok, by rw [dW_len]; omega, fun H9 s9 => ?_⟩
            refine ⟨rfl, _, rfl, ifNE (fun ne => ?_) (fun eq => ?_)⟩
            · refine ⟨_, rfl, q H9 (some (low + (i2 : Int))) (sA.trans (s8.trans s9)) (least_P (least_at sto.ch hv old ?_) bad)⟩
              exact ⟨ii, dE_neg.2 ne, fun k hk lt => by
                obtain ⟨j, ej⟩ : ∃ j : Nat, k = low + (j : Int) := ⟨(k - low).toNat, by have hk1 : low ≤ k := hk.1; omega⟩
                subst ej
                rw [show dE (dW D1 D2 u ps qs) (low + (j : Int)) = 0 from if_pos (z j (by omega) hk)]
                exact Int.le_refl _⟩
            · exact ⟨s8.trans s9, _, fun j hj hjj => by
                rcases (by omega : j < i2 ∨ j = i2) with x | rfl
                · exact z j x hjj
                · exact eq, rfl⟩
          · exact ⟨s8, _, fun j hj hjj => by
              rcases (by omega : j < i2 ∨ j = i2) with x | rfl
              · exact z j x hjj
              · exact absurd (hjj.2 hh rfl) gt, rfl⟩
      · rintro σ' H9 ⟨s8, o, z, rfl⟩
        refine ⟨s78.trans s8, _, _, _, _, fun j w hj hw => ?_, rfl⟩
        rcases (by omega : j < i ∨ j = i) with h | rfl
        · exact old j w h hw
        · rw [hv] at hw
          cases hw
          intro k hk
          have hk : inS low high k := hk
          rw [show dE (dW D1 D2 u ps qs) k = 0 from if_pos (stretch_zero p1 wok bes (fun j hj => z j (by omega)) k hk)]
          exact Int.le_refl _
    · rintro σ' H8 ⟨s78, o6, o7, o8, o10, old, rfl⟩
      rw [hlen4] at old
      exact q H8 none (s07.trans s78) (least_P (least_none sto.ch (fun j v hv => old j v (List.getElem?_eq_some_iff.mp hv).1 hv)) bad)
end
end L

set_option Elab.async false
set_option linter.all false
set_option maxRecDepth 100000
set_option maxHeartbeats 4000000
set_option pp.maxSteps 160
set_option pp.deepTerms false
namespace L
open PySem PySem.Spec PyProof.Rows L2 Fl
local macro_rules | `(tactic| walk_at "side") => `(tactic| first | (exact .inl ⟨by omega, by omega⟩) | (exact .inr ⟨by omega, by omega⟩) | (exact .inr ⟨by decide, by decide⟩) | (show (_ : Int) ≠ _; omega) | (exact ⟨by omega, by decide⟩) | (exact ⟨by decide, by decide, by decide⟩))
local macro_rules | `(tactic| walk_at "go") => `(tactic| repeat (first | refine ⟨_, rfl, ?_⟩ | refine ⟨_, _, rfl, rfl, ?_⟩ | refine .inl ⟨_, rfl, ?_⟩ | refine ⟨rfl, ?_⟩ | refine ⟨(by walk_at "side"), ?_⟩))
local macro_rules | `(tactic| walk_at "see") => `(tactic| (set_option pp.maxSteps 110 in set_option pp.deepTerms false in trace_state))
local macro_rules | `(tactic| walk_at "if") => `(tactic| first | refine ifE ?_ ?_ | refine ifNE ?_ ?_ | refine ifD ?_ ?_ | refine ifN ?_ ?_ | refine ifB ?_ ?_)
open Bx

/-- the pair at t has the value n / d -/
def PV (b : Nat) (H : Hp) (t : Addr) (n d : Int) : Prop := ∃ n' d' : Int, H t = some (.tup [.int n', .int d']) ∧ 1 ≤ d' ∧ n' * d = n * d' ∧ n'.natAbs < 2 ^ b ∧ d'.natAbs < 2 ^ b
theorem PV.same {b : Nat} {H H' : Hp} {t : Addr} {n d : Int} (h : PV b H t n d) (s : Same H H') : PV b H' t n d := by
  obtain ⟨n', d', h1, h2⟩ := h
  exact ⟨n', d', s _ _ h1, h2⟩
theorem PV.re {b : Nat} {H : Hp} {t : Addr} {n d k e : Int} (h : PV b H t n d) (d0 : d ≠ 0) (x : n * e = k * d) : PV b H t k e := by
  obtain ⟨n', d', h1, h2, h3, h4⟩ := h
  refine ⟨n', d', h1, h2, Int.eq_of_mul_eq_mul_right d0 ?_, h4⟩
  grind
theorem PV.of {b : Nat} {H : Hp} {t : Addr} {n d : Int} (h : H t = some (.tup [.int n, .int d])) (h1 : 1 ≤ d) (b1 : n.natAbs < 2 ^ b) (b2 : d.natAbs < 2 ^ b) : PV b H t n d := ⟨n, d, h, h1, rfl, b1, b2⟩
theorem nb_mul {n m : Int} {a b : Nat} (h1 : n.natAbs < 2 ^ a) (h2 : m.natAbs < 2 ^ b) : (n * m).natAbs < 2 ^ (a + b) := wide_lt h1 h2
theorem nb_up {n : Int} {a b : Nat} (h : n.natAbs < 2 ^ a) (l : a ≤ b) : n.natAbs < 2 ^ b := Nat.lt_of_lt_of_le h (Nat.pow_le_pow_right (by decide) l)
theorem nb_le {n m : Int} {a : Nat} (h : m.natAbs < 2 ^ a) (l : n.natAbs ≤ m.natAbs) : n.natAbs < 2 ^ a := Nat.lt_of_le_of_lt l h
theorem quo {n g : Int} (hg : 1 ≤ g) (h : g ∣ n) : n.fdiv g * g = n ∧ (n.fdiv g).natAbs ≤ n.natAbs := by
  obtain ⟨k, rfl⟩ := h
  rw [Int.fdiv_eq_ediv_of_nonneg _ (by omega), Int.mul_ediv_cancel_left _ (by omega), Int.mul_comm g k]
  refine ⟨rfl, ?_⟩
  rw [Int.natAbs_mul]
  exact Nat.le_mul_of_pos_right _ (by omega)
theorem low2_ok {n m g : Int} (hg : 1 ≤ g) (h1 : g ∣ n) (h2 : g ∣ m) (hm : 1 ≤ m) : n.fdiv g * m = n * m.fdiv g ∧ 1 ≤ m.fdiv g ∧ (n.fdiv g).natAbs ≤ n.natAbs ∧ (m.fdiv g).natAbs ≤ m.natAbs := by
  obtain ⟨a, b⟩ := quo hg h1
  obtain ⟨c, d⟩ := quo hg h2
  refine ⟨?_, ?_, b, d⟩
  · generalize n.fdiv g = x at *
    generalize m.fdiv g = y at *
    rw [← a, ← c]
    ac_rfl
  · generalize m.fdiv g = y at *
    rcases (by omega : 1 ≤ y ∨ y ≤ 0) with h | h
    · exact h
    · have := Int.mul_nonpos_of_nonpos_of_nonneg h (show 0 ≤ g by omega)
      omega
theorem add_val {n1 d1 n2 d2 n d n' d' N M : Int} (h1 : n1 * d = n * d1) (h2 : n2 * d' = n' * d2) (h3 : N * (d1 * d2) = (n1 * d2 + n2 * d1) * M) (p1 : 1 ≤ d1) (p2 : 1 ≤ d2) : N * (d * d') = (n * d' + n' * d) * M := by
  refine Int.eq_of_mul_eq_mul_right (Int.ne_of_gt (Int.mul_pos (show 0 < d1 by omega) (show 0 < d2 by omega))) ?_
  grind
theorem mul_val {n1 d1 n2 d2 n d n' d' N M : Int} (h1 : n1 * d = n * d1) (h2 : n2 * d' = n' * d2) (h3 : N * (d1 * d2) = n1 * n2 * M) (p1 : 1 ≤ d1) (p2 : 1 ≤ d2) : N * (d * d') = n * n' * M := by
  refine Int.eq_of_mul_eq_mul_right (Int.ne_of_gt (Int.mul_pos (show 0 < d1 by omega) (show 0 < d2 by omega))) ?_
  grind

def belL (f s c y : Int) : Int := if y ≤ f then 0 else if y > f + s * (c - 1) then c else (y - f + s - 1).fdiv s
def alL (f s c y : Int) : Int := if f ≤ y ∧ y ≤ f + s * (c - 1) ∧ (y - f).fmod s = 0 then 1 else 0
def wonL (f s c y t : Int) : Int := c - belL f s c y - alL f s c y - belL f s c y + t * alL f s c y
theorem wonL_eq {f s c y t : Int} (r : RunOk f s c) : wonL f s c y t = wonV f s c y t := by
  have e : belL f s c y = bel f s c y := rfl
  have k : bel f s c (y + 1) = bel f s c y + alL f s c y := by
    have s1 := r.s1
    have c1 := r.c1
    have f0 := r.f0
    have s0 := Int.mul_nonneg (show 0 ≤ s by omega) (show 0 ≤ c - 1 by omega)
    unfold alL
    by_cases h1 : f ≤ y
    · by_cases h2 : y ≤ f + s * (c - 1)
      · rw [bel_mid r (show f ≤ y + 1 by omega) (by omega), bel_mid r h1 (by omega), Int.fmod_eq_emod_of_nonneg _ (show 0 ≤ s by omega)]
        have e1 := Int.mul_ediv_add_emod (y - f) s
        have m0 := Int.emod_nonneg (y - f) (show s ≠ 0 by omega)
        have m1 := Int.emod_lt_of_pos (y - f) (show 0 < s by omega)
        have q1 : (y + 1 - f + s - 1) / s = (y - f) / s + 1 := by
          rw [show y + 1 - f + s - 1 = y - f + 1 * s by omega, Int.add_mul_ediv_right _ _ (by omega)]
        rw [q1]
        by_cases h3 : (y - f) % s = 0
        · rw [if_pos ⟨h1, h2, h3⟩]
          have q2 : (y - f + s - 1) / s = (y - f) / s := by
            have : y - f + s - 1 = (s - 1) + s * ((y - f) / s) := by omega
            rw [this, Int.add_mul_ediv_left _ _ (by omega), Int.ediv_eq_zero_of_lt (by omega) (by omega)]
            omega
          omega
        · rw [if_neg (fun h => h3 h.2.2)]
          have q2 : (y - f + s - 1) / s = (y - f) / s + 1 := by
            have : y - f + s - 1 = ((y - f) % s - 1) + s * ((y - f) / s + 1) := by
              rw [Int.mul_add]
              omega
            rw [this, Int.add_mul_ediv_left _ _ (by omega), Int.ediv_eq_zero_of_lt (by omega) (by omega)]
            omega
          omega
      · rw [if_neg (fun h => h2 h.2.1), bel_hi r (by omega), bel_hi r (by omega)]
        omega
    · rw [if_neg (fun h => h1 h.1), bel_lo (by omega), bel_lo (by omega)]
      omega
  unfold wonL wonV
  rw [e, k]
  generalize bel f s c y = b
  rw [show c - (c - (b + alL f s c y)) - b = alL f s c y by omega]
  omega
def PairAt (H : Hp) (a : Addr) (p : Int × Int) : Prop := H a = some (.tup [.int p.1, .int p.2])
theorem pair_keep {H H' : Hp} {z : Addr} {p : Pla} {x : Int × Int} (h : PairAt H z x) (hP : Pool H p) (k : Keeps H H' p) : PairAt H' z x := by
  obtain ⟨ns, i, b, c, d, hp, _⟩ := hP
  exact k _ _ h (ne_of h hp (by intro z; cases z))
theorem tup_keep {H H' : Hp} {z : Addr} {p : Pla} {xs : List V} (h : H z = some (.tup xs)) (hP : Pool H p) (k : Keeps H H' p) : H' z = some (.tup xs) := by
  obtain ⟨ns, i, b, c, d, hp, _⟩ := hP
  exact k _ _ h (ne_of h hp (by intro z; cases z))
/-- the pair at t tells the fraction r -/
def RV (b : Nat) (H : Hp) (t : Addr) (r : Rat) : Prop := ∃ n d : Int, H t = some (.tup [.int n, .int d]) ∧ 0 < d ∧ n.natAbs < 2 ^ b ∧ d.natAbs < 2 ^ b ∧ rq (n, d) = r
theorem RV.same {b : Nat} {H H' : Hp} {t : Addr} {r : Rat} (h : RV b H t r) (s : Same H H') : RV b H' t r := by
  obtain ⟨n, d, h1, h2⟩ := h
  exact ⟨n, d, s _ _ h1, h2⟩
theorem RV.keep {b : Nat} {H H' : Hp} {t : Addr} {r : Rat} {p : Pla} (h : RV b H t r) (hP : Pool H p) (k : Keeps H H' p) : RV b H' t r := by
  obtain ⟨n, d, h1, h2⟩ := h
  exact ⟨n, d, pair_keep (x := (n, d)) h1 hP k, h2⟩
theorem RV.up {b b' : Nat} {H : Hp} {t : Addr} {r : Rat} (h : RV b H t r) (l : b ≤ b') : RV b' H t r := by
  obtain ⟨n, d, h1, h2, h3, h4, h5⟩ := h
  exact ⟨n, d, h1, h2, nb_up h3 l, nb_up h4 l, h5⟩
theorem RV.of {b : Nat} {H : Hp} {t : Addr} {n d : Int} (h : H t = some (.tup [.int n, .int d])) (h1 : 0 < d) (b1 : n.natAbs < 2 ^ b) (b2 : d.natAbs < 2 ^ b) : RV b H t (rq (n, d)) := ⟨n, d, h, h1, b1, b2, rfl⟩
theorem RV.pv {b : Nat} {H : Hp} {t : Addr} {n d : Int} (h : PV b H t n d) (d0 : 0 < d) : RV b H t (rq (n, d)) := by
  obtain ⟨n', d', h1, h2, h3, h4, h5⟩ := h
  exact ⟨n', d', h1, by omega, h4, h5, (rq_eq (a := (n', d')) (b := (n, d)) (show 0 < d' by omega) d0).2 h3⟩
theorem RV.nT {b : Nat} {H : Hp} {t : Addr} {n d : Int} (h : H t = some (.tup [.int (nT n d), .int (nU n d)])) (d0 : 0 < d) (b1 : n.natAbs < 2 ^ b) (b2 : d.natAbs < 2 ^ b) : RV b H t (rq (n, d)) := RV.pv ⟨_, _, h, nU_pos (Int.ne_of_gt d0), n_cross n d, Nat.lt_of_le_of_lt (nT_le (Int.ne_of_gt d0)) b1, Nat.lt_of_le_of_lt (nU_le (Int.ne_of_gt d0)) b2⟩ d0
section
variable {P : Program} {w : World} {K : PySem.W.Frag} {mg : Str → Option Value} {base : Heap}

def spGcd2 : Sp := fun vs H Q _ => ∃ (a b : Int), vs = [.int a, .int b] ∧ ∀ g : Int, 1 ≤ g → g ∣ a → g ∣ b → Q (.int g) H
theorem ok_gcd2 (B : Blt mg) (D : Dfn K mg "_law_gcd" "_law_gcd" s_gcd ["_law_one", "_law_other"]) : Cal P w K mg base 1 "_law_gcd" ["_law_one", "_law_other"] spGcd2 := by
  refine D.cal sc_gcd (fun vs H Q E h => ?_) (fun f cdv A outer st H vs Q E hr h => ?_)
  · obtain ⟨a, b, rfl, _⟩ := h
    rfl
  · obtain ⟨a, b, rfl, q⟩ := h
    refine ⟨_, (pss_cons (ps_set (i := 0) sc_gcd.nd rfl (Or.inl rfl) (pe_callB call_abs (by rfl) B.abs (by decide +kernel) (pa_cons (pv 0) pa_nil)))
      (pss_cons (ps_set (i := 1) sc_gcd.nd rfl (Or.inl rfl) (pe_callB call_abs (by rfl) B.abs (by decide +kernel) (pa_cons (pv 1) pa_nil)))
      (pss_cons (ps_for PassesOwn.never rfl (pi_range1 (by rfl) B.range (pa_cons (pe_int) pa_nil)) (pg_name (i := 2) sc_gcd.nd rfl (Or.inl rfl)) (pss_cons (ps_if (pt_cmpR op_eq (pv 1) (pe_int) (nomark _)) (pss_one (ps_ret (pe_callB (call_max2 rfl) (by rfl) B.max (by decide +kernel) (pa_cons (pe_int) (pa_cons (pv 0) pa_nil))))) pss_nil)
      (pss_one (ps_par (i := 0) (j := 1) (by rfl) sc_gcd.nd rfl rfl (by decide) rfl rfl (pa_cons (pv 1) (pa_cons (pe_op op_modN (pe_callTy call_int1 (by rfl) B.int (by decide +kernel) (pa_cons (pv 0) pa_nil)) (pv 1)) pa_nil)) (by rfl)))))
      (pss_one (ps_ret (pe_int)))))), ?_⟩
    walk_at "go"
    refine ⟨by decide, by decide, for_range (n := 600) (fun i σ H' => ∃ (x y : Nat) (v : Option V), σ = [some (.int x), some (.int y), v] ∧ Nat.gcd x y = Nat.gcd a.natAbs b.natAbs ∧ H' = H)
      ⟨a.natAbs, b.natAbs, none, ?_, rfl, rfl⟩ ?_ ?_⟩
    · rw [← abs_if, ← abs_if]
      rfl
    · rintro i σ H1 hi ⟨x, y, v, rfl, hg, rfl⟩
      walk_at "go"
      walk_at "if"
      · intro hy
        have hy' : y = 0 := by omega
        subst hy'
        walk_at "go"
        rw [Nat.gcd_zero_right] at hg
        refine ⟨_, _, rfl, q _ ?_ ?_ ?_⟩
        · show 1 ≤ if (x : Int) > 1 then (x : Int) else 1
          split <;> omega
        · show (if (x : Int) > 1 then (x : Int) else 1) ∣ a
          split
          · rw [hg]
            first | exact Int.gcd_dvd_left _ _ | exact Int.gcd_dvd_left
          · exact Int.one_dvd _
        · show (if (x : Int) > 1 then (x : Int) else 1) ∣ b
          split
          · rw [hg]
            first | exact Int.gcd_dvd_right _ _ | exact Int.gcd_dvd_right
          · exact Int.one_dvd _
      · intro hy
        walk_at "go"
        refine ⟨_, _, rfl, y, x % y, some (V.int (0 + (i : Int))), ?_, ?_, rfl⟩
        · have e : (x : Int).fmod (y : Int) = ((x % y : Nat) : Int) := by
            rw [Int.fmod_eq_emod_of_nonneg _ (by omega)]
            rfl
          rw [← e]
          rfl
        · rw [← hg, Nat.gcd_comm x y, Nat.gcd_rec y x, Nat.gcd_comm]
    · rintro σ H1 ⟨x, y, v, rfl, _, rfl⟩
      exact q 1 (by decide) (Int.one_dvd _) (Int.one_dvd _)

def spLow2 : Sp := fun vs H Q _ => ∃ (n m : Int), vs = [.int n, .int m] ∧ 1 ≤ m ∧ m.natAbs < 2 ^ 900000 ∧ ∀ (z : Addr) (n' m' : Int) (H' : Hp), Same H H' → H' z = some (.tup [.int n', .int m']) → n' * m = n * m' → 1 ≤ m' → n'.natAbs ≤ n.natAbs → m'.natAbs ≤ m.natAbs → Q (.ref z) H'
abbrev CalLow2 (P : Program) (w : World) (K : PySem.W.Frag) (mg : Str → Option Value) (base : Heap) := Cal P w K mg base 33 "_law_low" ["_law_top", "_law_under"] spLow2
theorem ok_low2 (S : SeerK K P) (C_gcd : Cal P w K mg base 1 "_law_gcd" ["_law_one", "_law_other"] spGcd2) (D : Dfn K mg "_law_low" "_law_low" s_low ["_law_top", "_law_under"]) : CalLow2 P w K mg base := by
  refine D.cal sc_low (fun vs H Q E h => ?_) (fun f cdv A outer st H vs Q E hr h => ?_)
  · obtain ⟨n, m, rfl, _⟩ := h
    rfl
  · obtain ⟨n, m, rfl, m1, mb, q⟩ := h
    refine ⟨_, (pss_cons (ps_set (i := 2) sc_low.nd rfl (Or.inl rfl) (pe_cal C_gcd (hr.mono (by decide)) (pa_cons (pv 0) (pa_cons (pv 1) pa_nil))))
      (pss_one (ps_ret (pe_tup (pa_cons (pe_op (op_fdivP S hr) (pv 0) (pv 2)) (pa_cons (pe_op (op_fdivP S hr) (pv 1) (pv 2)) pa_nil)))))), ?_⟩
    refine ⟨_, rfl, _, rfl, n, m, rfl, fun g g1 d1 d2 => ?_⟩
    obtain ⟨e, l1, l2, l3⟩ := low2_ok g1 d1 d2 m1
    have g0 : g ≠ 0 := by omega
    exact ⟨_, rfl, _, rfl, _, _, rfl, rfl, g0, _, rfl, _, rfl, _, _, rfl, rfl, g0, (by show 2 ≤ sizeLine; decide), fun z hz => q z _ _ _ (same_upd hz) upd_same e l1 l2 l3⟩
theorem cal_imp {k : Nat} {x : Str} {ps : List Str} {sp sp' : Sp} (C : Cal P w K mg base k x ps sp) (h : ∀ vs H Q E, sp' vs H Q E → sp vs H Q E) : Cal P w K mg base k x ps sp' := by
  obtain ⟨f, fd, F, m, kp, b⟩ := C.ex
  exact ⟨f, fd, F.imp h, m, kp, b⟩
/-- a sum, a product of pairs, told by the numbers that they hold -/
def spPlusR : Sp := fun vs H Q _ => ∃ (t u : Addr) (x y x' y' : Int) (b b' : Nat), vs = [.ref t, .ref u] ∧ H t = some (.tup [.int x, .int y]) ∧ H u = some (.tup [.int x', .int y']) ∧ 1 ≤ y ∧ 1 ≤ y' ∧ x.natAbs < 2 ^ b ∧ y.natAbs < 2 ^ b ∧ x'.natAbs < 2 ^ b' ∧ y'.natAbs < 2 ^ b' ∧ 0 < b ∧ 0 < b' ∧ b + b' + 1 ≤ 900000 ∧
  ∀ (z : Addr) (N M : Int) (H' : Hp), Same H H' → H' z = some (.tup [.int N, .int M]) → 1 ≤ M → N * (y * y') = (x * y' + x' * y) * M → N.natAbs ≤ (x * y' + x' * y).natAbs → M.natAbs ≤ (y * y').natAbs → Q (.ref z) H'
abbrev CalPlusR (P : Program) (w : World) (K : PySem.W.Frag) (mg : Str → Option Value) (base : Heap) := Cal P w K mg base 34 "_law_plus" ["_law_one", "_law_other"] spPlusR
theorem ok_plusR (C_low : CalLow2 P w K mg base) (D : Dfn K mg "_law_plus" "_law_plus" s_plus ["_law_one", "_law_other"]) : CalPlusR P w K mg base := by
  refine D.cal sc_plus (fun vs H Q E h => ?_) (fun f cdv A outer st H vs Q E hr h => ?_)
  · obtain ⟨t, u, x, y, x', y', b, b', rfl, _⟩ := h
    rfl
  · obtain ⟨t, u, x, y, x', y', b, b', rfl, ht, hu, y1, y1', bx, by_, bx', by', b0, b0', cap, q⟩ := h
    refine ⟨_, (pss_one (ps_ret (pe_cal C_low (hr.mono (by decide)) (pa_cons (pe_op op_add (pe_op op_mulW (pe_ix ix_tup (pv 0) (pe_int) (fun _ _ => rfl)) (pe_ix ix_tup (pv 1) (pe_int) (fun _ _ => rfl))) (pe_op op_mulW (pe_ix ix_tup (pv 1) (pe_int) (fun _ _ => rfl)) (pe_ix ix_tup (pv 0) (pe_int) (fun _ _ => rfl)))) (pa_cons (pe_op op_mulW (pe_ix ix_tup (pv 0) (pe_int) (fun _ _ => rfl)) (pe_ix ix_tup (pv 1) (pe_int) (fun _ _ => rfl))) pa_nil))))), ?_⟩
    refine ⟨_, rfl, _, _, _, _, rfl, rfl, SqT.of (ht), rfl, _, rfl, _, _, _, _, rfl, rfl, SqT.of (hu), rfl, _, _, rfl, rfl, wide_mul bx by' b0 b0' (by omega), ?_⟩
    refine ⟨_, rfl, _, _, _, _, rfl, rfl, SqT.of (hu), rfl, _, rfl, _, _, _, _, rfl, rfl, SqT.of (ht), rfl, _, _, rfl, rfl, wide_mul bx' by_ b0' b0 (by omega), _, _, rfl, rfl, ?_⟩
    refine ⟨_, rfl, _, _, _, _, rfl, rfl, SqT.of (ht), rfl, _, rfl, _, _, _, _, rfl, rfl, SqT.of (hu), rfl, _, _, rfl, rfl, wide_mul by_ by' b0 b0' (by omega), ?_⟩
    have p : 1 ≤ y * y' := by
      have := Int.mul_pos (show 0 < y by omega) (show 0 < y' by omega)
      omega
    have k1 := nb_mul by_ by'
    exact ⟨_, _, rfl, p, nb_up k1 (by omega), fun z N M H' s hz e m1 l1 l2 => q z N M H' s hz m1 e l1 l2⟩
def spPlus2 : Sp := fun vs H Q _ => ∃ (t u : Addr) (n d n' d' : Int) (b b' : Nat), vs = [.ref t, .ref u] ∧ PV b H t n d ∧ PV b' H u n' d' ∧ 0 < b ∧ 0 < b' ∧ b + b' + 1 ≤ 900000 ∧ ∀ (z : Addr) (H' : Hp), Same H H' → PV (b + b' + 1) H' z (n * d' + n' * d) (d * d') → Q (.ref z) H'
abbrev CalPlus2 (P : Program) (w : World) (K : PySem.W.Frag) (mg : Str → Option Value) (base : Heap) := Cal P w K mg base 34 "_law_plus" ["_law_one", "_law_other"] spPlus2
theorem ok_plus2 (C : CalPlusR P w K mg base) : CalPlus2 P w K mg base := cal_imp C fun vs H Q E h => by
  obtain ⟨t, u, n, d, n', d', b, b', rfl, ⟨x, y, ht, y1, e1, bx, by_⟩, ⟨x', y', hu, y1', e2, bx', by'⟩, b0, b0', cap, q⟩ := h
  refine ⟨t, u, x, y, x', y', b, b', rfl, ht, hu, y1, y1', bx, by_, bx', by', b0, b0', cap, fun z N M H' s hz m1 e l1 l2 => ?_⟩
  have k1 := nb_mul by_ by'
  have k2 := ba (nb_mul bx by') (nb_up (nb_mul bx' by_) (show b' + b ≤ b + b' by omega))
  exact q z H' s ⟨N, M, hz, m1, add_val e1 e2 e y1 y1', nb_le k2 l1, nb_up (nb_le k1 l2) (by omega)⟩
def spTimesR : Sp := fun vs H Q _ => ∃ (t u : Addr) (x y x' y' : Int) (b b' : Nat), vs = [.ref t, .ref u] ∧ H t = some (.tup [.int x, .int y]) ∧ H u = some (.tup [.int x', .int y']) ∧ 1 ≤ y ∧ 1 ≤ y' ∧ x.natAbs < 2 ^ b ∧ y.natAbs < 2 ^ b ∧ x'.natAbs < 2 ^ b' ∧ y'.natAbs < 2 ^ b' ∧ 0 < b ∧ 0 < b' ∧ b + b' ≤ 900000 ∧
  ∀ (z : Addr) (N M : Int) (H' : Hp), Same H H' → H' z = some (.tup [.int N, .int M]) → 1 ≤ M → N * (y * y') = x * x' * M → N.natAbs ≤ (x * x').natAbs → M.natAbs ≤ (y * y').natAbs → Q (.ref z) H'
abbrev CalTimesR (P : Program) (w : World) (K : PySem.W.Frag) (mg : Str → Option Value) (base : Heap) := Cal P w K mg base 34 "_law_times" ["_law_one", "_law_other"] spTimesR
theorem ok_timesR (C_low : CalLow2 P w K mg base) (D : Dfn K mg "_law_times" "_law_times" s_times ["_law_one", "_law_other"]) : CalTimesR P w K mg base := by
  refine D.cal sc_times (fun vs H Q E h => ?_) (fun f cdv A outer st H vs Q E hr h => ?_)
  · obtain ⟨t, u, x, y, x', y', b, b', rfl, _⟩ := h
    rfl
  · obtain ⟨t, u, x, y, x', y', b, b', rfl, ht, hu, y1, y1', bx, by_, bx', by', b0, b0', cap, q⟩ := h
    refine ⟨_, (pss_one (ps_ret (pe_cal C_low (hr.mono (by decide)) (pa_cons (pe_op op_mulW (pe_ix ix_tup (pv 0) (pe_int) (fun _ _ => rfl)) (pe_ix ix_tup (pv 1) (pe_int) (fun _ _ => rfl))) (pa_cons (pe_op op_mulW (pe_ix ix_tup (pv 0) (pe_int) (fun _ _ => rfl)) (pe_ix ix_tup (pv 1) (pe_int) (fun _ _ => rfl))) pa_nil))))), ?_⟩
    refine ⟨_, rfl, _, _, _, _, rfl, rfl, SqT.of (ht), rfl, _, rfl, _, _, _, _, rfl, rfl, SqT.of (hu), rfl, _, _, rfl, rfl, wide_mul bx bx' b0 b0' (by omega), ?_⟩
    refine ⟨_, rfl, _, _, _, _, rfl, rfl, SqT.of (ht), rfl, _, rfl, _, _, _, _, rfl, rfl, SqT.of (hu), rfl, _, _, rfl, rfl, wide_mul by_ by' b0 b0' (by omega), ?_⟩
    have p : 1 ≤ y * y' := by
      have := Int.mul_pos (show 0 < y by omega) (show 0 < y' by omega)
      omega
    have k1 := nb_mul by_ by'
    exact ⟨_, _, rfl, p, nb_up k1 (by omega), fun z N M H' s hz e m1 l1 l2 => q z N M H' s hz m1 e l1 l2⟩
def spTimes2 : Sp := fun vs H Q _ => ∃ (t u : Addr) (n d n' d' : Int) (b b' : Nat), vs = [.ref t, .ref u] ∧ PV b H t n d ∧ PV b' H u n' d' ∧ 0 < b ∧ 0 < b' ∧ b + b' ≤ 900000 ∧ ∀ (z : Addr) (H' : Hp), Same H H' → PV (b + b') H' z (n * n') (d * d') → Q (.ref z) H'
abbrev CalTimes2 (P : Program) (w : World) (K : PySem.W.Frag) (mg : Str → Option Value) (base : Heap) := Cal P w K mg base 34 "_law_times" ["_law_one", "_law_other"] spTimes2
theorem ok_times2 (C : CalTimesR P w K mg base) : CalTimes2 P w K mg base := cal_imp C fun vs H Q E h => by
  obtain ⟨t, u, n, d, n', d', b, b', rfl, ⟨x, y, ht, y1, e1, bx, by_⟩, ⟨x', y', hu, y1', e2, bx', by'⟩, b0, b0', cap, q⟩ := h
  refine ⟨t, u, x, y, x', y', b, b', rfl, ht, hu, y1, y1', bx, by_, bx', by', b0, b0', cap, fun z N M H' s hz m1 e l1 l2 => ?_⟩
  exact q z H' s ⟨N, M, hz, m1, mul_val e1 e2 e y1 y1', nb_le (nb_mul bx bx') l1, nb_le (nb_mul by_ by') l2⟩
theorem pv_lt {x y x' y' n d n' d' : Int} (e1 : x * d = n * y) (e2 : x' * d' = n' * y') (y1 : 1 ≤ y) (y2 : 1 ≤ y') (d0 : 0 < d) (d1 : 0 < d') : x * y' < x' * y ↔ n * d' < n' * d := by
  have X : 0 < d * d' := Int.mul_pos d0 d1
  have Y : 0 < y * y' := Int.mul_pos (by omega) (by omega)
  have h1 : x * y' * (d * d') = n * d' * (y * y') := by grind
  have h2 : x' * y * (d * d') = n' * d * (y * y') := by grind
  rw [← Int.mul_lt_mul_right X, h1, h2, Int.mul_lt_mul_right Y]
def Row3 (H : Hp) (r : Addr) (f s c : Int) : Prop := H r = some (.tup [.int f, .int s, .int c])
structure Rb (f s c : Int) : Prop where
  f0 : 0 ≤ f
  s1 : 1 ≤ s
  c1 : 1 ≤ c
  fb : f.natAbs < 2 ^ 130
  sb : s.natAbs < 2 ^ 130
  cb : c.natAbs < 2 ^ 130
def spLast3 : Sp := fun vs H Q _ => ∃ (r : Addr) (f s c : Int), vs = [.ref r] ∧ Row3 H r f s c ∧ Rb f s c ∧ Q (.int (f + s * (c - 1))) H
theorem ok_last3 (D : Dfn K mg "_law_last" "_law_last" s_last ["_law_row"]) : Cal P w K mg base 1 "_law_last" ["_law_row"] spLast3 := by
  refine D.cal sc_last (fun vs H Q E h => ?_) (fun f cdv A outer st H vs Q E hr h => ?_)
  · obtain ⟨r, f, s, c, rfl, _⟩ := h
    rfl
  · obtain ⟨r, f, s, c, rfl, hrow, rb, q⟩ := h
    refine ⟨_, (pss_one (ps_ret (pe_op op_add (pe_ix ix_tup (pv 0) (pe_int) (fun _ _ => rfl)) (pe_op op_mulW (pe_ix ix_tup (pv 0) (pe_int) (fun _ _ => rfl)) (pe_op op_sub (pe_ix ix_tup (pv 0) (pe_int) (fun _ _ => rfl)) (pe_int)))))), ?_⟩
    have c1 := rb.c1
    have cb := rb.cb
    refine ⟨_, rfl, _, _, _, _, rfl, rfl, SqT.of (hrow), rfl, _, rfl, _, _, _, _, rfl, rfl, SqT.of (hrow), rfl, _, rfl, _, _, _, _, rfl, rfl, SqT.of (hrow), rfl, _, _, rfl, rfl, _, _, rfl, rfl, wide_mul rb.sb (show (c - 1).natAbs < 2 ^ 130 by omega) (by decide) (by decide) (by decide), _, _, rfl, rfl, q⟩
def spIn3 : Sp := fun vs H Q _ => ∃ (r : Addr) (f s c y : Int), vs = [.ref r, .int y] ∧ Row3 H r f s c ∧ Rb f s c ∧ ∀ k : Bool, (k = true ↔ f ≤ y ∧ y ≤ f + s * (c - 1) ∧ (y - f).fmod s = 0) → Q (.bl k) H
theorem ok_in3 (B : Blt mg) (C_last : Cal P w K mg base 1 "_law_last" ["_law_row"] spLast3) (D : Dfn K mg "_law_in" "_law_in" s_in ["_law_row", "_law_y"]) : Cal P w K mg base 2 "_law_in" ["_law_row", "_law_y"] spIn3 := by
  refine D.cal sc_in (fun vs H Q E h => ?_) (fun f cdv A outer st H vs Q E hr h => ?_)
  · obtain ⟨r, f, s, c, y, rfl, _⟩ := h
    rfl
  · obtain ⟨r, f, s, c, y, rfl, hrow, rb, q⟩ := h
    refine ⟨_, (pss_one (ps_ret ((pe_and (pe_chain op_le op_le (pe_ix ix_tup (pv 0) (pe_int) (fun _ _ => rfl)) (pv 1) (pe_cal C_last (hr.mono (by decide)) (pa_cons (pv 0) pa_nil))) (pe_one (pe_cmpR op_eq (pe_op op_modN (pe_callTy call_int1 (by rfl) B.int (by decide +kernel) (pa_cons (pe_op op_sub (pv 1) (pe_ix ix_tup (pv 0) (pe_int) (fun _ _ => rfl))) pa_nil)) (pe_ix ix_tup (pv 0) (pe_int) (fun _ _ => rfl))) (pe_int) (nomark _))))))), ?_⟩
    have s1 := rb.s1
    refine ⟨_, rfl, _, _, _, _, rfl, rfl, SqT.of (hrow), rfl, _, rfl, _, _, rfl, rfl, _, rfl, ?_⟩
    by_cases h1 : f ≤ y
    · rw [decide_eq_true h1]
      refine iteT ?_
      refine ⟨_, rfl, r, f, s, c, rfl, hrow, rb, _, _, rfl, rfl, ?_⟩
      refine ⟨_, rfl, ifD (fun h2 => ?_) (fun h2 => ?_)⟩
      · refine ⟨_, rfl, _, rfl, _, _, _, _, rfl, rfl, SqT.of (hrow), rfl, _, _, rfl, rfl, .inl ⟨_, rfl, ?_⟩⟩
        refine ⟨_, rfl, _, _, _, _, rfl, rfl, SqT.of (hrow), rfl, _, _, rfl, rfl, (show s ≠ 0 by omega), rfl, ?_⟩
        refine q _ ⟨fun h => ⟨h1, h2, ?_⟩, fun h => decide_eq_true (show V.int ((y - f).fmod s) = V.int 0 by rw [h.2.2])⟩
        have h := of_decide_eq_true h
        injection h
      · exact q _ ⟨fun h => Bool.noConfusion h, fun h => absurd h.2.1 h2⟩
    · rw [decide_eq_false h1]
      refine iteF ?_
      exact ⟨_, rfl, iteF (q _ ⟨fun h => Bool.noConfusion h, fun h => absurd h.1 h1⟩)⟩

def spPlusQ : Sp := fun vs H Q _ => ∃ (t u : Addr) (x y : Rat) (b b' : Nat), vs = [.ref t, .ref u] ∧ RV b H t x ∧ RV b' H u y ∧ 0 < b ∧ 0 < b' ∧ b + b' + 1 ≤ 900000 ∧ ∀ (z : Addr) (H' : Hp), Same H H' → RV (b + b' + 1) H' z (x + y) → Q (.ref z) H'
abbrev CalPlusQ (P : Program) (w : World) (K : PySem.W.Frag) (mg : Str → Option Value) (base : Heap) := Cal P w K mg base 34 "_law_plus" ["_law_one", "_law_other"] spPlusQ
theorem ok_PlusQ (C : CalPlus2 P w K mg base) : CalPlusQ P w K mg base := cal_imp C fun vs H Q E h => by
  obtain ⟨t, u, x, y, b, b', rfl, ⟨n, d, ht, d0, bn, bd, rfl⟩, ⟨n', d', hu, d0', bn', bd', rfl⟩, b0, b0', cap, q⟩ := h
  refine ⟨t, u, n, d, n', d', b, b', rfl, PV.of ht d0 bn bd, PV.of hu d0' bn' bd', b0, b0', by omega, fun z H' s hz => q z H' s ?_⟩
  rw [rq_add d0 d0']
  exact RV.up (RV.pv hz (Int.mul_pos d0 d0')) (by omega)

def spTimesQ : Sp := fun vs H Q _ => ∃ (t u : Addr) (x y : Rat) (b b' : Nat), vs = [.ref t, .ref u] ∧ RV b H t x ∧ RV b' H u y ∧ 0 < b ∧ 0 < b' ∧ b + b' + 1 ≤ 900000 ∧ ∀ (z : Addr) (H' : Hp), Same H H' → RV (b + b' + 1) H' z (x * y) → Q (.ref z) H'
abbrev CalTimesQ (P : Program) (w : World) (K : PySem.W.Frag) (mg : Str → Option Value) (base : Heap) := Cal P w K mg base 34 "_law_times" ["_law_one", "_law_other"] spTimesQ
theorem ok_TimesQ (C : CalTimes2 P w K mg base) : CalTimesQ P w K mg base := cal_imp C fun vs H Q E h => by
  obtain ⟨t, u, x, y, b, b', rfl, ⟨n, d, ht, d0, bn, bd, rfl⟩, ⟨n', d', hu, d0', bn', bd', rfl⟩, b0, b0', cap, q⟩ := h
  refine ⟨t, u, n, d, n', d', b, b', rfl, PV.of ht d0 bn bd, PV.of hu d0' bn' bd', b0, b0', by omega, fun z H' s hz => q z H' s ?_⟩
  rw [rq_times]
  exact RV.up (RV.pv hz (Int.mul_pos d0 d0')) (by omega)

end
end L

set_option Elab.async false
set_option linter.all false
set_option maxRecDepth 100000
set_option maxHeartbeats 4000000
set_option pp.maxSteps 160
set_option pp.deepTerms false
namespace L
open PySem PySem.Spec PyProof.Rows L2 Fl
local macro_rules | `(tactic| walk_at "side") => `(tactic| first | (exact .inl ⟨by omega, by omega⟩) | (exact .inr ⟨by omega, by omega⟩) | (exact .inr ⟨by decide, by decide⟩) | (show (_ : Int) ≠ _; omega) | (exact ⟨by omega, by decide⟩) | (exact ⟨by decide, by decide, by decide⟩))
local macro_rules | `(tactic| walk_at "go") => `(tactic| repeat (first | refine ⟨_, rfl, ?_⟩ | refine ⟨_, _, rfl, rfl, ?_⟩ | refine .inl ⟨_, rfl, ?_⟩ | refine ⟨rfl, ?_⟩ | refine ⟨(by walk_at "side"), ?_⟩))
local macro_rules | `(tactic| walk_at "see") => `(tactic| (set_option pp.maxSteps 110 in set_option pp.deepTerms false in trace_state))
local macro_rules | `(tactic| walk_at "if") => `(tactic| first | refine ifE ?_ ?_ | refine ifNE ?_ ?_ | refine ifD ?_ ?_ | refine ifN ?_ ?_ | refine ifB ?_ ?_)
open Bx
def Row (H : Hp) (t : Addr) (f s c : Int) : Prop := H t = some (.tup [.int f, .int s, .int c])
theorem Row.ne_pool {H : Hp} {t : Addr} {p : Pla} {f s c : Int} (h : Row H t f s c) (hp : Pool H p) : t ≠ p := by
  obtain ⟨ns, i, b, c, d, h1, _⟩ := hp
  exact ne_of h h1 (by intro z; cases z)
theorem Row.keep {H H' : Hp} {t p : Addr} {f s c : Int} (h : Row H t f s c) (k : Keeps H H' p) (n : t ≠ p) : Row H' t f s c := k _ _ h n
structure RowOk (f s c : Int) : Prop where
  ok : RunOk f s c
  fb : f < 10 ^ 60
  cb : c ≤ 10 ^ 60
  one : c = 1 → s = 1
def lastP (p : Pt) : Int := p.f + p.s * (p.c - 1)

/-! ### the law's rows -/
def RowP (H : Hp) (v : V) (p : Pt) : Prop := ∃ t r, v = .ref t ∧ H t = some (.tup [.int p.n, .ref r]) ∧ Row H r p.f p.s p.c
theorem rowP_mono : Mono RowP := fun _ _ _ _ k ⟨t, r, e, h1, h2⟩ => ⟨t, r, e, k _ _ h1, k _ _ h2⟩
structure POk (p : Pt) : Prop where
  n1 : 1 ≤ p.n
  nb : p.n ≤ 10 ^ 60
  ok : RowOk p.f p.s p.c
def cprod : List Pt → Int
  | [] => 1
  | p :: r => p.c * cprod r
structure PsOk (ps : List Pt) : Prop where
  l1 : 0 < ps.length
  l64 : ps.length ≤ 64
  ok : ∀ p ∈ ps, POk p
  nd : ∀ (i j : Nat) (p q : Pt), ps[i]? = some p → ps[j]? = some q → sameRun p q = true → i = j
  pc : (cprod ps).natAbs < 2 ^ 1900
def wsum (ps : List Pt) : Int := sumI (ps.map Pt.n)
theorem sumI_eq : ∀ ns : List Int, ns.sum = sumI ns
  | [] => rfl
  | n :: r => by
    show n + r.sum = n + sumI r
    rw [sumI_eq r]
theorem POk.nlt {p : Pt} (h : POk p) : p.n.natAbs < 2 ^ 200 := by
  have := h.n1
  have := h.nb
  omega
theorem wsum_bd {ps : List Pt} (h : PsOk ps) : (wsum ps).natAbs < 2 ^ 210 := by
  have e := sumI_bd (b := 200) (ns := ps.map Pt.n) fun n hn => by
    obtain ⟨p, hp, rfl⟩ := List.mem_map.mp hn
    exact (h.ok p hp).nlt
  rw [List.length_map] at e
  have l := h.l64
  have : ps.length * 2 ^ 200 ≤ 64 * 2 ^ 200 := Nat.mul_le_mul_right _ l
  have k : 64 * 2 ^ 200 < 2 ^ 210 := by decide
  show (sumI (ps.map Pt.n)).natAbs < _
  omega
theorem sumI_nn : ∀ {ns : List Int}, (∀ n ∈ ns, 0 ≤ n) → 0 ≤ sumI ns
  | [], _ => by show (0 : Int) ≤ 0; omega
  | n :: r, h => by
    have := h n (List.mem_cons_self ..)
    have := sumI_nn (ns := r) fun m hm => h m (List.mem_cons_of_mem _ hm)
    show 0 ≤ n + sumI r
    omega
theorem wsum_pos {ps : List Pt} (h : PsOk ps) : 0 < wsum ps := by
  have l := h.l1
  cases ps with
  | nil => simp at l
  | cons p r =>
    have h1 := (h.ok p (List.mem_cons_self ..)).n1
    have h2 : 0 ≤ sumI (r.map Pt.n) := sumI_nn fun n hn => by
      obtain ⟨q, hq, rfl⟩ := List.mem_map.mp hn
      have := (h.ok q (List.mem_cons_of_mem _ hq)).n1
      omega
    show 0 < p.n + sumI (r.map Pt.n)
    omega
theorem noNeg {ps : List Pt} (h : PsOk ps) : anyNeg (ps.map Pt.n) = false := by
  unfold anyNeg
  rw [Bool.eq_false_iff]
  intro z
  rw [List.any_eq_true] at z
  obtain ⟨b, hb, e⟩ := z
  obtain ⟨n, hn, rfl⟩ := List.mem_map.mp hb
  obtain ⟨p, hp, rfl⟩ := List.mem_map.mp hn
  have := (h.ok p hp).n1
  have e2 : decide (p.n < 0) = true := e
  rw [decide_eq_true_iff] at e2
  omega
theorem ps_bd {ps : List Pt} (h : PsOk ps) : Bd (ps.map Pt.n) (wsum ps) := ⟨wsum_pos h, ub (wsum_bd h) (by decide), fun n hn => by
  obtain ⟨p, hp, rfl⟩ := List.mem_map.mp hn
  exact ub (h.ok p hp).nlt (by decide), by rw [List.length_map]; have := h.l64; omega⟩
/-- unlike runs stay as they are -/
theorem tog_self : ∀ {ps : List Pt} (_ : ∀ p ∈ ps, POk p) (_ : ∀ (i j : Nat) (p q : Pt), ps[i]? = some p → ps[j]? = some q → sameRun p q = true → i = j) (i : Nat), tog (ps.take i) = ps.take i
  | ps, ok, nd, 0 => rfl
  | ps, ok, nd, i + 1 => by
    cases h : ps[i]? with
    | none =>
      rw [List.getElem?_eq_none_iff] at h
      rw [List.take_of_length_le (show ps.length ≤ i + 1 by omega)]
      have := tog_self ok nd i
      rw [List.take_of_length_le h] at this
      exact this
    | some p =>
      rw [tog_snoc h, tog_self ok nd i, take_snoc h]
      unfold tog1
      have n1 := (ok p (mem_at h)).n1
      rw [if_neg (by omega), if_neg]
      intro z
      obtain ⟨j, q, hj, e⟩ := any_at z
      have jl : j < i := by
        have := (List.getElem?_eq_some_iff.mp hj).1
        rw [List.length_take] at this
        omega
      rw [List.getElem?_take, if_pos jl] at hj
      have := nd j i q p hj h e
      omega
theorem tog_id {ps : List Pt} (h : PsOk ps) : tog ps = ps := by
  have := tog_self h.ok h.nd ps.length
  rw [List.take_length] at this
  exact this
theorem last_nn {p : Pt} (h : POk p) : 0 ≤ lastP p := by
  have := h.ok.ok.f0
  have := Int.mul_nonneg (show 0 ≤ p.s by have := h.ok.ok.s1; omega) (show 0 ≤ p.c - 1 by have := h.ok.ok.c1; omega)
  unfold lastP
  omega
theorem cprod_app (xs ys : List Pt) : cprod (xs ++ ys) = cprod xs * cprod ys := by
  induction xs with
  | nil => show cprod ys = 1 * cprod ys; rw [Int.one_mul]
  | cons p r ih => show p.c * cprod (r ++ ys) = p.c * cprod r * cprod ys; rw [ih, Int.mul_assoc]
theorem cprod_one (p : Pt) : cprod [p] = p.c := Int.mul_one _

theorem row_eqv (a b c a' b' c' : Int) : PyData.eqv (.tuple [.int a, .int b, .int c]) (.tuple [.int a', .int b', .int c']) = (decide (a = a') && decide (b = b') && decide (c = c')) := by
  have e : PyData.eqv (.tuple [.int a, .int b, .int c]) (.tuple [.int a', .int b', .int c']) = ((a == a') && ((b == b') && ((c == c') && true))) := by simp only [PyData.eqv, PyData.eqvAll]
  rw [e]
  by_cases h1 : a = a' <;> by_cases h2 : b = b' <;> by_cases h3 : c = c' <;> simp [h1, h2, h3]
theorem rowP_updL {H : Hp} {v : V} {p : Pt} {l : Addr} {acc : List V} {o : HO} (h : RowP H v p) (hl : H l = some (.lst acc)) : RowP (upd H l o) v p := by
  obtain ⟨t, r, e, h1, h2⟩ := h
  have h2' : H r = some (.tup [.int p.f, .int p.s, .int p.c]) := h2
  refine ⟨t, r, e, ?_, ?_⟩
  · rw [upd_ne (ne_of h1 hl (by intro z; cases z))]; exact h1
  · show upd H l o r = _
    rw [upd_ne (ne_of h2' hl (by intro z; cases z))]; exact h2'
theorem rowP_keep {H H' : Hp} {v : V} {q : Pt} {p : Pla} (h : RowP H v q) (hP : Pool H p) (k : Keeps H H' p) : RowP H' v q := by
  obtain ⟨t, r, e, h1, h2⟩ := h
  have h2' : H r = some (.tup [.int q.f, .int q.s, .int q.c]) := h2
  obtain ⟨ns, i, b, c, d, hp, _⟩ := hP
  exact ⟨t, r, e, k _ _ h1 (ne_of h1 hp (by intro z; cases z)), k _ _ h2' (ne_of h2' hp (by intro z; cases z))⟩
theorem rows_keep {H H' : Hp} {L : Addr} {ps : List Pt} {p : Pla} (h : LAt RowP H L ps) (hP : Pool H p) (n : L ≠ p) (k : Keeps H H' p) : LAt RowP H' L ps := by
  obtain ⟨vs, h1, h2, h3⟩ := h
  refine ⟨vs, k _ _ h1 n, h2, fun i x hx => ?_⟩
  obtain ⟨v, hv, r⟩ := h3 i x hx
  exact ⟨v, hv, rowP_keep r hP k⟩
theorem rows_add {H : Hp} {L : Addr} {us : List V} {ps : List Pt} {v : V} {p : Pt} (hL : H L = some (.lst us)) (hlen : us.length = ps.length) (hall : ∀ (i : Nat) (x : Pt), ps[i]? = some x → ∃ v, us[i]? = some v ∧ RowP H v x) (hv : RowP H v p) : LAt RowP (upd H L (.lst (us ++ [v]))) L (ps ++ [p]) := by
  refine ⟨us ++ [v], upd_same, by rw [List.length_append, List.length_append, hlen]; rfl, fun i x hx => ?_⟩
  by_cases hi : i < ps.length
  · rw [List.getElem?_append_left hi] at hx
    obtain ⟨u, hu, r⟩ := hall i x hx
    exact ⟨u, by rw [List.getElem?_append_left (by omega)]; exact hu, rowP_updL r hL⟩
  · rw [List.getElem?_append_right (by omega)] at hx
    have e : i = ps.length := by
      rcases Nat.lt_or_ge (i - ps.length) 1 with h | h
      · omega
      · rw [List.getElem?_eq_none (by simpa using h)] at hx
        cases hx
    subst e
    rw [Nat.sub_self] at hx
    cases hx
    exact ⟨v, by rw [← hlen, List.getElem?_append_right (Nat.le_refl _), Nat.sub_self]; rfl, rowP_updL hv hL⟩
def Unlike (ps : List Pt) : Prop := ∀ (i j : Nat) (p q : Pt), ps[i]? = some p → ps[j]? = some q → sameRun p q = true → i = j
theorem unlike_add {ps : List Pt} {p : Pt} (h : Unlike ps) (hn : ps.any (fun q => sameRun q p) = false) : Unlike (ps ++ [p]) := by
  have at_ : ∀ {i : Nat} {x : Pt}, (ps ++ [p])[i]? = some x → ps[i]? = some x ∨ (i = ps.length ∧ x = p) := fun {i x} hx => by
    by_cases hi : i < ps.length
    · rw [List.getElem?_append_left hi] at hx
      exact .inl hx
    · rw [List.getElem?_append_right (by omega)] at hx
      have e : i = ps.length := by
        rcases Nat.lt_or_ge (i - ps.length) 1 with h | h
        · omega
        · rw [List.getElem?_eq_none (by simpa using h)] at hx
          cases hx
      subst e
      rw [Nat.sub_self] at hx
      cases hx
      exact .inr ⟨rfl, rfl⟩
  intro i j x y hx hy e
  rcases at_ hx with hx' | ⟨ei, ex⟩ <;> rcases at_ hy with hy' | ⟨ej, ey⟩
  · exact h i j x y hx' hy' e
  · rw [ey] at e
    rw [any_of hx' e] at hn
    cases hn
  · rw [ex] at e
    rw [any_of hy' (sr_comm e)] at hn
    cases hn
  · omega
structure Bag (i : Nat) (ps : List Pt) : Prop where
  le : ps.length ≤ i
  pos : 0 < i → 0 < ps.length
  ok : ∀ p ∈ ps, POk p
  nd : Unlike ps
  pc : (cprod ps).natAbs < 2 ^ (204 * i + 1)
theorem Bag.add {i : Nat} {ps : List Pt} {p : Pt} (h : Bag i ps) (po : POk p) (hn : ps.any (fun q => sameRun q p) = false) : Bag (i + 1) (ps ++ [p]) := by
  refine ⟨by rw [List.length_append]; have := h.le; show _ + 1 ≤ _; omega, fun _ => by rw [List.length_append]; show 0 < _ + 1; omega, fun q hq => ?_, unlike_add h.nd hn, ?_⟩
  · rcases List.mem_append.mp hq with hq | hq
    · exact h.ok q hq
    · rw [List.mem_singleton.mp hq]; exact po
  · rw [cprod_app, cprod_one]
    have cb : p.c.natAbs < 2 ^ 204 := by have := po.ok.cb; have := po.ok.ok.c1; omega
    have := wide_lt h.pc cb
    rw [show 204 * (i + 1) + 1 = 204 * i + 1 + 204 by omega]
    exact this
theorem Bag.skip {i : Nat} {ps : List Pt} (h : Bag i ps) (l : 0 < ps.length) : Bag (i + 1) ps :=
  ⟨by have := h.le; omega, fun _ => l, h.ok, h.nd, Nat.lt_of_lt_of_le h.pc (Nat.pow_le_pow_right (by decide) (by omega))⟩
theorem Bag.ps {i : Nat} {ps : List Pt} (h : Bag i ps) (h1 : 0 < i) (h6 : i ≤ 9) : PsOk ps :=
  ⟨h.pos h1, by have := h.le; omega, h.ok, h.nd, Nat.lt_of_lt_of_le h.pc (Nat.pow_le_pow_right (by decide) (by omega))⟩
theorem keeps_late {H0 H : Hp} {D p : Addr} {o : HO} (s : Keeps H0 H p) (h : H0 D = none) : Keeps H0 (upd H D o) p := fun b u e n => by
  rw [upd_ne (ne_of_none e h)]
  exact s b u e n
/-- the k-th long row -/
def longP (w r : Nat → Int) (i : Nat) : Pt := ⟨w i, 3 * (i : Int) + r i, 1, 1⟩

/-- what is known of a drawn part -/
structure PBd (w : Bool) (p : Pt) : Prop where
  n : p.n ≤ 9
  f : p.f < 10 ^ 31
  c : p.c ≤ 10 ^ 31
  w : w = false → p.f ≤ 8 ∧ p.c ≤ 7
structure BagB (w : Bool) (i : Nat) (ps : List Pt) : Prop where
  bag : Bag i ps
  bd : ∀ p ∈ ps, PBd w p
theorem BagB.add {w : Bool} {i : Nat} {ps : List Pt} {p : Pt} (h : BagB w i ps) (po : POk p) (hn : ps.any (fun q => sameRun q p) = false) (b : PBd w p) : BagB w (i + 1) (ps ++ [p]) := ⟨h.bag.add po hn, fun q hq => by
  rcases List.mem_append.mp hq with hq | hq
  · exact h.bd q hq
  · rw [List.mem_singleton.mp hq]
    exact b⟩
section
variable {P : Program} {w : World} {K : PySem.W.Frag} {mg : Str → Option Value} {base : Heap}

def spDrawA : Sp := fun vs H Q _ => ∃ (p : Pla) (m : Int), vs = [.ref p, .int m] ∧ Pool H p ∧ 1 ≤ m ∧ m < 1073741824 ∧ ∀ (r : Int) (H' : Hp), 0 ≤ r → r < m → Pool H' p → Keeps H H' p → Q (.int r) H'
abbrev CalDrawA (P : Program) (w : World) (K : PySem.W.Frag) (mg : Str → Option Value) (base : Heap) := Cal P w K mg base 2 "_law_draw" ["_law_pool_here", "_law_many"] spDrawA
theorem ok_drawA (B : Blt mg) (D : Dfn K mg "_law_draw" "_law_draw" s_draw ["_law_pool_here", "_law_many"]) (C_mix : CalMix P w K mg base) : CalDrawA P w K mg base := by
  refine D.cal sc_draw (fun vs H Q E h => ?_) (fun f cdv A outer st H vs Q E hr h => ?_)
  · obtain ⟨p, m, rfl, _⟩ := h
    rfl
  · obtain ⟨p, m, rfl, hP, h1, h3, k⟩ := h
    rcases (by omega : m = 1 ∨ 2 ≤ m) with rfl | h2
    · have q := k 0 H (by decide) (by decide) hP (Keeps.refl _ _)
      refine ⟨_, (pss_cons (ps_if (PW.pt (pw_or (pt_cmpR op_lt (pv 1) (pe_int) (nomark _)) (pw_or1 (pt_cmpR op_eq (pe_callB call_len_seq (by rfl) B.len PySem.boot_len (pa_cons (pe_ix ix_list (pv 0) (pe_int) (fun _ _ => rfl)) pa_nil)) (pe_int) (nomark _))))) (pss_one (ps_ret (pe_int))) pss_nil)
      (pss_cons (ps_asg (pe_op op_add (pe_ix ix_list (pv 0) (pe_int) (fun _ _ => rfl)) (pe_int)) (pg_sub (pv 0) (pe_int) set_list))
      (pss_cons (ps_for PassesOwn.never rfl (pi_range1 (by rfl) B.range (pa_cons (pe_int) pa_nil)) (pg_name (i := 2) sc_draw.nd rfl (Or.inl rfl)) (pss_cons (ps_if (pt_cmpR op_gt (pe_ix ix_list (pv 0) (pe_int) (fun _ _ => rfl)) (pe_int) (nomark _)) (pss_cons (ps_set (i := 3) sc_draw.nd rfl (Or.inl rfl) (pe_op op_modN (pe_callTy call_int1 (by rfl) B.int (by decide +kernel) (pa_cons (pe_ix ix_list (pv 0) (pe_int) (fun _ _ => rfl)) pa_nil)) (pv 1)))
      (pss_cons (ps_asg (pe_op op_fdivA (pe_ix ix_list (pv 0) (pe_int) (fun _ _ => rfl)) (pv 1)) (pg_sub (pv 0) (pe_int) set_list))
      (pss_one (ps_ret (pv 3))))) pss_nil)
      (pss_cons (ps_if (pt_cmpR op_ge (pe_ix ix_list (pv 0) (pe_int) (fun _ _ => rfl)) (pe_callB call_len_seq (by rfl) B.len PySem.boot_len (pa_cons (pe_ix ix_list (pv 0) (pe_int) (fun _ _ => rfl)) pa_nil)) (nomark _)) (pss_one (ps_ret (pe_cal C_mix (hr.mono (by decide)) (pa_cons (pe_ix ix_list (pv 0) (pe_int) (fun _ _ => rfl)) (pa_cons (pe_ix ix_list (pv 0) (pe_int) (fun _ _ => rfl)) (pa_cons (pv 1) pa_nil)))))) pss_nil)
      (pss_cons (ps_set (i := 4) sc_draw.nd rfl (Or.inl rfl) (pe_ix ix_list (pe_ix ix_list (pv 0) (pe_int) (fun _ _ => rfl)) (pe_ix ix_list (pv 0) (pe_int) (fun _ _ => rfl)) (fun _ _ => rfl)))
      (pss_cons (ps_asg (pe_op op_add (pe_ix ix_list (pv 0) (pe_int) (fun _ _ => rfl)) (pe_int)) (pg_sub (pv 0) (pe_int) set_list))
      (pss_cons (ps_asg (pe_op op_modN (pe_callTy call_int1 (by rfl) B.int (by decide +kernel) (pa_cons (pe_op op_add (pe_op op_add (pe_op op_mul (pe_ix ix_list (pv 0) (pe_int) (fun _ _ => rfl)) (pe_int)) (pe_op op_mul (pv 4) (pe_int))) (pe_int)) pa_nil)) (pe_int)) (pg_sub (pv 0) (pe_int) set_list))
      (pss_cons (ps_if (pt_cmpR op_lt (pv 4) (pe_op op_pow (pe_int) (pe_int)) (nomark _)) (pss_one (ps_ret (pe_cal C_mix (hr.mono (by decide)) (pa_cons (pe_ix ix_list (pv 0) (pe_int) (fun _ _ => rfl)) (pa_cons (pe_ix ix_list (pv 0) (pe_int) (fun _ _ => rfl)) (pa_cons (pv 1) pa_nil)))))) pss_nil)
      (pss_one (ps_asg (pe_op op_sub (pv 4) (pe_op op_pow (pe_int) (pe_int))) (pg_sub (pv 0) (pe_int) set_list))))))))))
      (pss_one (ps_ret (pe_cal C_mix (hr.mono (by decide)) (pa_cons (pe_ix ix_list (pv 0) (pe_int) (fun _ _ => rfl)) (pa_cons (pe_ix ix_list (pv 0) (pe_int) (fun _ _ => rfl)) (pa_cons (pv 1) pa_nil))))))))), ?_⟩
      exact ⟨_, rfl, _, _, rfl, rfl, _, rfl, itT (by decide) q⟩
    obtain ⟨ns, i, b, c, d, hp, hq, hi, hqp⟩ := hP
    refine ⟨_, (pss_cons (ps_if (PW.pt (pw_or (pt_cmpR op_lt (pv 1) (pe_int) (nomark _)) (pw_or1 (pt_cmpR op_eq (pe_callB call_len_seq (by rfl) B.len PySem.boot_len (pa_cons (pe_ix ix_list (pv 0) (pe_int) (fun _ _ => rfl)) pa_nil)) (pe_int) (nomark _))))) (pss_one (ps_ret (pe_int))) pss_nil)
      (pss_cons (ps_asg (pe_op op_add (pe_ix ix_list (pv 0) (pe_int) (fun _ _ => rfl)) (pe_int)) (pg_sub (pv 0) (pe_int) set_list))
      (pss_cons (ps_for PassesOwn.never rfl (pi_range1 (by rfl) B.range (pa_cons (pe_int) pa_nil)) (pg_name (i := 2) sc_draw.nd rfl (Or.inl rfl)) (pss_cons (ps_if (pt_cmpR op_gt (pe_ix ix_list (pv 0) (pe_int) (fun _ _ => rfl)) (pe_int) (nomark _)) (pss_cons (ps_set (i := 3) sc_draw.nd rfl (Or.inl rfl) (pe_op op_modN (pe_callTy call_int1 (by rfl) B.int (by decide +kernel) (pa_cons (pe_ix ix_list (pv 0) (pe_int) (fun _ _ => rfl)) pa_nil)) (pv 1)))
      (pss_cons (ps_asg (pe_op op_fdivA (pe_ix ix_list (pv 0) (pe_int) (fun _ _ => rfl)) (pv 1)) (pg_sub (pv 0) (pe_int) set_list))
      (pss_one (ps_ret (pv 3))))) pss_nil)
      (pss_cons (ps_if (pt_cmpR op_ge (pe_ix ix_list (pv 0) (pe_int) (fun _ _ => rfl)) (pe_callB call_len_seq (by rfl) B.len PySem.boot_len (pa_cons (pe_ix ix_list (pv 0) (pe_int) (fun _ _ => rfl)) pa_nil)) (nomark _)) (pss_one (ps_ret (pe_cal C_mix (hr.mono (by decide)) (pa_cons (pe_ix ix_list (pv 0) (pe_int) (fun _ _ => rfl)) (pa_cons (pe_ix ix_list (pv 0) (pe_int) (fun _ _ => rfl)) (pa_cons (pv 1) pa_nil)))))) pss_nil)
      (pss_cons (ps_set (i := 4) sc_draw.nd rfl (Or.inl rfl) (pe_ix ix_list (pe_ix ix_list (pv 0) (pe_int) (fun _ _ => rfl)) (pe_ix ix_list (pv 0) (pe_int) (fun _ _ => rfl)) (fun _ _ => rfl)))
      (pss_cons (ps_asg (pe_op op_add (pe_ix ix_list (pv 0) (pe_int) (fun _ _ => rfl)) (pe_int)) (pg_sub (pv 0) (pe_int) set_list))
      (pss_cons (ps_asg (pe_op op_modN (pe_callTy call_int1 (by rfl) B.int (by decide +kernel) (pa_cons (pe_op op_add (pe_op op_add (pe_op op_mul (pe_ix ix_list (pv 0) (pe_int) (fun _ _ => rfl)) (pe_int)) (pe_op op_mul (pv 4) (pe_int))) (pe_int)) pa_nil)) (pe_int)) (pg_sub (pv 0) (pe_int) set_list))
      (pss_cons (ps_if (pt_cmpR op_lt (pv 4) (pe_op op_pow (pe_int) (pe_int)) (nomark _)) (pss_one (ps_ret (pe_cal C_mix (hr.mono (by decide)) (pa_cons (pe_ix ix_list (pv 0) (pe_int) (fun _ _ => rfl)) (pa_cons (pe_ix ix_list (pv 0) (pe_int) (fun _ _ => rfl)) (pa_cons (pv 1) pa_nil)))))) pss_nil)
      (pss_one (ps_asg (pe_op op_sub (pv 4) (pe_op op_pow (pe_int) (pe_int))) (pg_sub (pv 0) (pe_int) set_list))))))))))
      (pss_one (ps_ret (pe_cal C_mix (hr.mono (by decide)) (pa_cons (pe_ix ix_list (pv 0) (pe_int) (fun _ _ => rfl)) (pa_cons (pe_ix ix_list (pv 0) (pe_int) (fun _ _ => rfl)) (pa_cons (pv 1) pa_nil))))))))), ?_⟩
    walk_at "go"
    rw [decide_eq_false (by omega)]
    refine iteF ?_
    walk_at "go"
    refine ⟨_, _, _, _, rfl, rfl, SqL.of hp, rfl, ?_⟩
    refine ⟨_, _, rfl, .inl (SqL.of hq), ?_⟩
    walk_at "go"
    walk_at "if"
    · intro _
      walk_at "go"
      exact k 0 H (by omega) (by omega) ⟨ns, i, b, c, d, hp, hq, hi, hqp⟩ (Keeps.refl _ _)
    intro hlen
    refine ⟨_, rfl, _, _, _, _, rfl, rfl, SqL.of hp, rfl, ?_⟩
    walk_at "go"
    refine ⟨_, _, _, _, rfl, rfl, hp, rfl, ?_⟩
    refine ⟨64, rfl, by decide, by decide, for_range (n := 64) (fun _ σ H' => ∃ v2 v3 v4 : Option V, σ = [some (.ref (p : Addr)), some (.int m), v2, v3, v4] ∧ ∃ i b c d : Int, H' p = some (.lst [.ref p.q, .int i, .int b, .int c, .int d]) ∧ H' p.q = some (.lst (ns.map V.int)) ∧ 0 ≤ i ∧ Keeps H H' p)
      ⟨none, none, none, rfl, i, b, c, d + 1, upd_same, by rw [upd_ne hqp]; exact hq, hi, Keeps.upd⟩ ?_ ?_⟩
    · rintro j σ H1 hj ⟨v2, v3, v4, rfl, i, b, c, d, hp, hq, hi, hk⟩
      refine ⟨_, rfl, _, _, _, _, rfl, rfl, SqL.of hp, rfl, ?_⟩
      walk_at "go"
      walk_at "if"
      · intro hb
        refine ⟨_, rfl, _, _, _, _, rfl, rfl, SqL.of hp, rfl, ?_⟩
        walk_at "go"
        refine ⟨_, _, _, _, rfl, rfl, SqL.of hp, rfl, ?_⟩
        walk_at "go"
        refine ⟨divA (b := 30) (by omega) (by omega) (by decide) (by decide), ?_⟩
        walk_at "go"
        refine ⟨_, _, _, _, rfl, rfl, hp, rfl, ?_⟩
        walk_at "go"
        have b2 := fm b (show (0 : Int) < m by omega)
        exact k _ _ b2.1 b2.2 ⟨ns, i, _, c, d, upd_same, by rw [upd_ne hqp]; exact hq, hi, hqp⟩ (hk.trans Keeps.upd)
      · intro hb
        refine ⟨_, rfl, _, _, _, _, rfl, rfl, SqL.of hp, rfl, ?_⟩
        walk_at "go"
        refine ⟨_, _, _, _, rfl, rfl, SqL.of hp, rfl, ?_⟩
        refine ⟨_, _, rfl, .inl (SqL.of hq), ?_⟩
        walk_at "go"
        walk_at "if"
        · intro hl
          refine ⟨_, rfl, _, _, _, _, rfl, rfl, SqL.of hp, rfl, ?_⟩
          refine ⟨_, rfl, _, _, _, _, rfl, rfl, SqL.of hp, rfl, ?_⟩
          walk_at "go"
          refine ⟨_, _, _, rfl, h2, h3, fun r r0 r1 => ?_⟩
          exact k _ _ r0 r1 ⟨ns, i, b, c, d, hp, hq, hi, hqp⟩ hk
        · intro hl
          have hl2 : i < (ns.length : Int) := by
            have hl' : ¬ ((ns.map V.int).length : Int) ≤ i := hl
            rw [List.length_map] at hl'
            omega
          obtain ⟨n, rfl⟩ : ∃ n : Nat, i = (n : Int) := ⟨i.toNat, by omega⟩
          have hn : n < ns.length := by omega
          refine ⟨_, rfl, _, _, _, _, rfl, rfl, SqL.of hp, rfl, ?_⟩
          refine ⟨_, rfl, _, _, _, _, rfl, rfl, SqL.of hp, rfl, ?_⟩
          refine ⟨_, _, _, _, rfl, rfl, SqL.of hq, atI_nat (ints_at hn), ?_⟩
          refine ⟨_, rfl, _, _, _, _, rfl, rfl, SqL.of hp, rfl, ?_⟩
          walk_at "go"
          refine ⟨_, _, _, _, rfl, rfl, hp, rfl, ?_⟩
          refine ⟨_, rfl, _, _, _, _, rfl, rfl, SqL.of upd_same, rfl, ?_⟩
          walk_at "go"
          refine ⟨_, _, _, _, rfl, rfl, upd_same, rfl, ?_⟩
          walk_at "go"
          walk_at "if"
          · intro hcell
            refine ⟨_, rfl, _, _, _, _, rfl, rfl, SqL.of upd_same, rfl, ?_⟩
            refine ⟨_, rfl, _, _, _, _, rfl, rfl, SqL.of upd_same, rfl, ?_⟩
            walk_at "go"
            refine ⟨_, _, _, rfl, h2, h3, fun r r0 r1 => ?_⟩
            exact k _ _ r0 r1 ⟨ns, _, b, _, d, upd_same, by rw [upd_ne hqp, upd_ne hqp]; exact hq, by omega, hqp⟩ ((hk.trans Keeps.upd).trans Keeps.upd)
          · intro hcell
            walk_at "go"
            refine ⟨_, _, _, _, rfl, rfl, upd_same, rfl, ?_⟩
            exact ⟨_, _, _, rfl, _, _, _, d, upd_same, by rw [upd_ne hqp, upd_ne hqp, upd_ne hqp]; exact hq, by omega, ((hk.trans Keeps.upd).trans Keeps.upd).trans Keeps.upd⟩
    · rintro σ H1 ⟨v2, v3, v4, rfl, i, b, c, d, hp, hq, hi, hk⟩
      refine ⟨_, rfl, _, _, _, _, rfl, rfl, SqL.of hp, rfl, ?_⟩
      refine ⟨_, rfl, _, _, _, _, rfl, rfl, SqL.of hp, rfl, ?_⟩
      walk_at "go"
      refine ⟨_, _, _, rfl, h2, h3, fun r r0 r1 => ?_⟩
      exact k _ _ r0 r1 ⟨ns, i, b, c, d, hp, hq, hi, hqp⟩ hk

def spWeights : Sp := fun vs H Q _ => ∃ (L : Addr) (ps : List Pt), vs = [.ref L] ∧ LAt RowP H L ps ∧ ps.length ≤ 64 ∧ ∀ H', Same H H' → Q (.int (wsum ps)) H'
abbrev CalWeights (P : Program) (w : World) (K : PySem.W.Frag) (mg : Str → Option Value) (base : Heap) := Cal P w K mg base 1 "_law_weights" ["_law_parts_here"] spWeights
theorem ok_weights (B : Blt mg) (Df : Dfn K mg "_law_weights" "_law_weights" s_weights ["_law_parts_here"]) : CalWeights P w K mg base := by
  refine Df.cal sc_weights (fun vs H Q E h => ?_) (fun fA cdv A outer st H vs Q E hr h => ?_)
  · obtain ⟨L, ps, rfl, _⟩ := h
    rfl
  · obtain ⟨L, ps, rfl, ⟨vs, hvs, hlen, hall⟩, l64, q⟩ := h
    refine ⟨_, (pss_one (ps_ret (pe_callB (cr_sum rfl) (by rfl) B.sum (by decide +kernel) (pa_cons (pe_lc (own := [("_law_part", 1)]) (g := gName 1) rfl sc_weights.nd (pi_list (pv 0)) (blkOk_by (N := ["_law_parts_here", "_law_part"]) (sc := defScope s_weights) (by decide +kernel)) (fun _ _ _ _ _ => pg_name (i := 1) sc_weights.nd rfl (Or.inl rfl)) (fun _ _ _ _ _ => pts_nil) (fun _ _ _ _ _ => (pe_ix (show IxR _ (rIxT K) from ix_tup) (pv 1) (pe_int) (fun _ _ => rfl)))) pa_nil)))), ?_⟩
    refine ⟨_, rfl, L, rfl, ⟨_, SqL.of hvs⟩, fun D1 hD1 => lc_build (xs := vs) (fun _ v (b : Int) => v = V.int b) (ps.map Pt.n) (fun _ _ _ _ _ h => h) hD1 (by rw [List.length_map]; exact hlen) (SqL.of hvs) (by rw [List.length_map]; omega) ?_ ?_⟩
    · rintro i y n H2 Kc Ke hy hn s ⟨acc, hacc⟩ kk
      obtain ⟨p, hp⟩ := item hlen hy
      rw [List.getElem?_map, hp] at hn
      cases hn
      obtain ⟨y', hy', t, r, rfl, ht, hrow⟩ := hall i p hp
      rw [hy] at hy'
      cases hy'
      refine ⟨rfl, ?_⟩
      exact ⟨_, rfl, _, _, _, _, rfl, rfl, SqT.of (s _ _ ht), rfl, kk _ H2 (Same.refl _) rfl⟩
    intro H2 s2 hS
    refine ⟨D1, ps.map Pt.n, rfl, SqL.of (hS.map fun v x e => e), ?_⟩
    rw [sumI_eq]
    exact q H2 s2
theorem none_of_same {H H' : Hp} {k : Addr} (s : Same H H') (h : H' k = none) : H k = none := by
  cases e : H k with
  | none => rfl
  | some o => rw [s _ _ e] at h; cases h
def spRunF : Sp := fun vs H Q _ => ∃ (p : Pla), vs = [.ref p, .bl false] ∧ Pool H p ∧ ∀ (t : Addr) (f s c : Int) (H' : Hp), Pool H' p → Keeps H H' p → Row H' t f s c → (RowOk f s c ∧ f < 10 ^ 31 ∧ c ≤ 10 ^ 31 ∧ (false = false → f ≤ 8 ∧ c ≤ 7)) → Q (.ref t) H'
theorem ok_runF (B : Blt mg) (C_draw : CalDrawA P w K mg base) (C_wide : CalWide P w K mg base) (Df : Dfn K mg "_law_run" "_law_run" s_run ["_law_pool_here", "_law_wide_here"]) : Cal P w K mg base 4 "_law_run" ["_law_pool_here", "_law_wide_here"] spRunF := by
  refine Df.cal sc_run (fun vs H Q E h => ?_) (fun fA cdv A outer st H vs Q E hr h => ?_)
  · obtain ⟨p, rfl, _⟩ := h
    rfl
  · obtain ⟨p, rfl, hP, k⟩ := h
    have W := Wd.nil hP
    have S := Keeps.refl H p.p
    refine ⟨_, (pss_cons (ps_set (i := 2) sc_run.nd rfl (Or.inl rfl) (pe_cal C_draw (hr.mono (by decide)) (pa_cons (pv 0) (pa_cons (pe_int) pa_nil))))
      (pss_cons (ps_set (i := 3) sc_run.nd rfl (Or.inl rfl) (pe_op op_add (pe_int) (pe_cal C_draw (hr.mono (by decide)) (pa_cons (pv 0) (pa_cons (pe_int) pa_nil)))))
      (pss_cons (ps_if (PW.pt (pw_and (pt_val (pv 1)) (pw_and1 (pt_cmpR op_eq (pe_cal C_draw (hr.mono (by decide)) (pa_cons (pv 0) (pa_cons (pe_int) pa_nil))) (pe_int) (nomark _))))) (pss_one (ps_set (i := 2) sc_run.nd rfl (Or.inl rfl) (pe_cal C_wide (hr.mono (by decide)) (pa_cons (pv 0) pa_nil)))) pss_nil)
      (pss_cons (ps_if (PW.pt (pw_and (pt_val (pv 1)) (pw_and1 (pt_cmpR op_eq (pe_cal C_draw (hr.mono (by decide)) (pa_cons (pv 0) (pa_cons (pe_int) pa_nil))) (pe_int) (nomark _))))) (pss_one (ps_set (i := 3) sc_run.nd rfl (Or.inl rfl) (pe_op op_add (pe_int) (pe_cal C_wide (hr.mono (by decide)) (pa_cons (pv 0) pa_nil))))) pss_nil)
      (pss_cons (ps_set (i := 4) sc_run.nd rfl (Or.inl rfl) (pe_op op_add (pe_int) (pe_cal C_draw (hr.mono (by decide)) (pa_cons (pv 0) (pa_cons (pe_int) pa_nil)))))
      (pss_cons (ps_if (pt_cmpR op_eq (pv 3) (pe_int) (nomark _)) (pss_one (ps_set (i := 4) sc_run.nd rfl (Or.inl rfl) (pe_int))) pss_nil)
      (pss_one (ps_ret (pe_tup (pa_cons (pv 2) (pa_cons (pv 4) (pa_cons (pv 3) pa_nil)))))))))))), ?_⟩
    refine ⟨_, rfl, p, 9, rfl, W.P, by decide, by decide, fun r1 H2 h0r1 h1r1 hP3 k4 => ?_⟩
    have W := W.keep hP3 k4
    have S := S.trans k4
    refine ⟨_, rfl, p, 7, rfl, W.P, by decide, by decide, fun r5 H6 h0r5 h1r5 hP7 k8 => ?_⟩
    have W := W.keep hP7 k8
    have S := S.trans k8
    refine ⟨_, _, rfl, rfl, _, rfl, _, rfl, iteF ?_⟩
    refine iteF ?_
    refine ⟨_, rfl, _, rfl, iteF ?_⟩
    refine iteF ?_
    refine ⟨_, rfl, p, 4, rfl, W.P, by decide, by decide, fun r9 H10 h0r9 h1r9 hP11 k12 => ?_⟩
    have W := W.keep hP11 k12
    have S := S.trans k12
    refine ⟨_, _, rfl, rfl, _, rfl, rfl, _, rfl, ifE (fun h13 => ?_) (fun h13 => ?_)⟩
    · skip
      refine ⟨_, rfl, _, rfl, _, rfl, (by show 3 ≤ sizeLine; decide), fun t14 ht14 => ?_⟩
      have W := W.new (o := .tup [.int r1, .int 1, .int (1 + r5)]) ht14
      have S := S.trans (same_keeps (same_upd (o := .tup [.int r1, .int 1, .int (1 + r5)]) ht14))
      exact k t14 r1 1 (1 + r5) _ W.P S (W.at (List.Mem.head _)) ⟨⟨⟨by omega, by omega, by omega, by omega⟩, by omega, by omega, fun h => by omega⟩, by omega, by omega, fun _ => ⟨by omega, by omega⟩⟩
    · skip
      refine ⟨_, rfl, _, rfl, _, rfl, (by show 3 ≤ sizeLine; decide), fun t15 ht15 => ?_⟩
      have W := W.new (o := .tup [.int r1, .int (1 + r9), .int (1 + r5)]) ht15
      have S := S.trans (same_keeps (same_upd (o := .tup [.int r1, .int (1 + r9), .int (1 + r5)]) ht15))
      exact k t15 r1 (1 + r9) (1 + r5) _ W.P S (W.at (List.Mem.head _)) ⟨⟨⟨by omega, by omega, by omega, by omega⟩, by omega, by omega, fun h => by omega⟩, by omega, by omega, fun _ => ⟨by omega, by omega⟩⟩

def spPartsF : Sp := fun vs H Q _ => ∃ (p : Pla) (M : Int), vs = [.ref p, .int M, .bl false] ∧ Pool H p ∧ 1 ≤ M ∧ M ≤ 9 ∧ ∀ (L : Addr) (ps : List Pt) (H' : Hp), Pool H' p → Keeps H H' p → L ≠ p → LAt RowP H' L ps → PsOk ps → (∀ x ∈ ps, PBd false x) → ps.length ≤ M.toNat → Q (.ref L) H'
theorem ok_partsF (B : Blt mg) (C_draw : CalDrawA P w K mg base) (C_run : Cal P w K mg base 4 "_law_run" ["_law_pool_here", "_law_wide_here"] spRunF) (Df : Dfn K mg "_law_parts" "_law_parts" s_parts ["_law_pool_here", "_law_most", "_law_wide_here"]) : Cal P w K mg base 6 "_law_parts" ["_law_pool_here", "_law_most", "_law_wide_here"] spPartsF := by
  refine Df.cal sc_parts (fun vs H Q E h => ?_) (fun fA cdv A outer st H vs Q E hr h => ?_)
  · obtain ⟨p, M, rfl, _⟩ := h
    rfl
  · obtain ⟨p, M, rfl, hP, M1, M6, q⟩ := h
    refine ⟨_, (pss_cons (ps_set (i := 3) sc_parts.nd rfl (Or.inl rfl) (pe_lst pa_nil))
      (pss_cons (ps_for PassesOwn.never rfl (pi_range1 (by rfl) B.range (pa_cons (pe_op op_add (pe_int) (pe_cal C_draw (hr.mono (by decide)) (pa_cons (pv 0) (pa_cons (pv 1) pa_nil)))) pa_nil)) (pg_name (i := 4) sc_parts.nd rfl (Or.inl rfl)) (pss_cons (ps_set (i := 5) sc_parts.nd rfl (Or.inl rfl) (pe_op op_add (pe_int) (pe_cal C_draw (hr.mono (by decide)) (pa_cons (pv 0) (pa_cons (pe_int) pa_nil)))))
      (pss_cons (ps_set (i := 6) sc_parts.nd rfl (Or.inr rfl) (pe_cal C_run (hr.mono (by decide)) (pa_cons (pv 0) (pa_cons (pv 2) pa_nil))))
      (pss_one (ps_if (pt_not (pt_truth (pe_lc (own := [("_law_part", 7)]) (g := (gName 7)) rfl sc_parts.nd (pi_list (pv 3)) (blkOk_by (N := ["_law_pool_here", "_law_most", "_law_wide_here", "_law_parts_here", "_law_spare", "_law_weight", "_law_row", "_law_part"]) (sc := defScope s_parts) (by decide +kernel)) (fun _ _ _ _ _ => (pg_name (i := 7) sc_parts.nd rfl (Or.inl rfl))) (fun _ _ _ _ _ => (pts_one (pt_cmpR (show OpR _ _ (rEqD K) from op_eqD hr.units) (pe_ix (show IxR _ (rIxT K) from ix_tup) (pv 7) (pe_int) (fun _ _ => rfl)) (pv 6) (nomark _)))) (fun _ _ _ _ _ => (pv 7))) (fun _ => rfl))) (pss_one ((ps_expr (pe_bm PySem.F.plainAttrs_list PySem.F.slot_list_append PySem.F.type_list_append mt_append (pv 3) (pa_cons (pe_tup (pa_cons (pv 5) (pa_cons (pv 6) pa_nil))) pa_nil))))) pss_nil)))))
      (pss_one (ps_ret (pv 3))))), ?_⟩
    refine ⟨(by show 0 ≤ sizeLine; decide), fun l hl => ?_⟩
    have hP0 := hP.upd (o := .lst []) hl
    have lp := hP.apart hl
    refine ⟨_, rfl, _, rfl, p, M, rfl, hP0, by omega, by omega, fun r6 H1 h0r h1r hP1 k1 => ?_⟩
    have hl1 : H1 l = some (.lst []) := k1 _ _ upd_same lp.1
    have K1 : Keeps H H1 p := (same_keeps (same_upd hl)).trans k1
    refine ⟨_, _, rfl, rfl, _, rfl, by omega, by omega, for_range (n := (1 + r6).toNat) (fun i σ' H' => ∃ (ps : List Pt) (o3 o4 o5 o6 : Option V), LAt RowP H' l ps ∧ BagB false i ps ∧ Pool H' p ∧ Keeps H H' p ∧ σ' = [some (.ref (p : Addr)), some (.int M), some (.bl false), some (.ref l), o3, o4, o5, o6])
      ⟨[], none, none, none, none, ⟨[], hl1, rfl, fun i x h => by simp at h⟩, ⟨⟨Nat.le_refl 0, fun h => absurd h (by omega), (fun _ h => nomatch h), (fun i j p q h => by simp at h), by decide⟩, fun _ h => nomatch h⟩, hP1, K1, rfl⟩ ?_ ?_⟩
    · rintro i σ' H2 hi ⟨ps, o3, o4, o5, o6, hL, bag, hP2, k2, rfl⟩
      refine ⟨_, rfl, p, 9, rfl, hP2, by decide, by decide, fun w0 H3 w00 w01 hP3 k3 => ⟨_, _, rfl, rfl, ?_⟩⟩
      have hL3 := rows_keep hL hP2 lp.1 k3
      obtain ⟨w, hw⟩ : ∃ w, w = 1 + w0 := ⟨_, rfl⟩
      show gName 5 (V.int (1 + w0)) _ _ _
      rw [← hw]
      have w1 : 1 ≤ w := by omega
      have w2 : w ≤ 9 := by omega
      have hL4 := hL3
      have hP4 := hP3
      have k4 := k2.trans k3
      refine ⟨_, rfl, _, rfl, p, rfl, hP4, fun t f s c H5 hP5 k5 hrow hok => ?_⟩
      have hL5 := rows_keep hL4 hP4 lp.1 k5
      have hrow' : H5 t = some (.tup [.int f, .int s, .int c]) := hrow
      obtain ⟨us, hus, hlen, hall⟩ := id hL5
      have i6 : i < 9 := by omega
      refine ⟨_, rfl, l, rfl, ⟨_, SqL.of hus⟩, fun D1 hD1 => lc_list (xs := us) (fun j H' => Same H5 H' ∧ ∃ acc : List V, H' D1 = some (.lst acc) ∧ acc.length ≤ j ∧ (acc.isEmpty = !((ps.take j).any fun q => sameRun q ⟨w, f, s, c⟩)))
        ⟨same_upd hD1, [], upd_same, Nat.le_refl 0, rfl⟩ (fun j H' _ h => SqL.of (h.1 _ _ hus)) ?_ ?_⟩
      · rintro j x H6 hx ⟨s6, acc, hacc, hle, hem⟩
        obtain ⟨qq, hq⟩ := item hlen hx
        obtain ⟨x', hx', t2, r2, rfl, ht2, hr2⟩ := hall j qq hq
        rw [hx] at hx'
        cases hx'
        have jl := (List.getElem?_eq_some_iff.mp hx).1
        have hl6 := bag.bag.le
        have sz : (9 : Nat) ≤ sizeLine := by decide
        have ht6 := s6 _ _ ht2
        have hr6 : H6 r2 = some (.tup [.int qq.f, .int qq.s, .int qq.c]) := s6 _ _ hr2
        have e1 : ((ps.take (j + 1)).any fun q => sameRun q ⟨w, f, s, c⟩) = (((ps.take j).any fun q => sameRun q ⟨w, f, s, c⟩) || sameRun qq ⟨w, f, s, c⟩) := by
          rw [take_snoc hq, List.any_append, List.any_cons, List.any_nil, Bool.or_false]
        refine ⟨rfl, ?_⟩
        refine ⟨_, rfl, _, _, _, _, rfl, rfl, SqT.of (ht6), rfl, _, rfl, .tuple [.int qq.f, .int qq.s, .int qq.c], .tuple [.int f, .int s, .int c], .tup (SqT.of hr6) (.cons (.int _) (.cons (.int _) (.cons (.int _) .nil))), .tup (SqT.of (s6 _ _ hrow')) (.cons (.int _) (.cons (.int _) (.cons (.int _) .nil))), rfl, rfl, _, rfl, ?_⟩
        rw [row_eqv]
        cases hb : sameRun qq ⟨w, f, s, c⟩ with
        | true =>
          have hb' : (decide (qq.f = f) && decide (qq.s = s) && decide (qq.c = c)) = true := hb
          rw [hb']
          refine iteT ?_
          refine ⟨_, rfl, acc, hacc, by omega, same_late s6 hD1, _, upd_same, by rw [List.length_append]; show _ + 1 ≤ _; omega, ?_⟩
          rw [e1, hb, Bool.or_true]
          cases acc <;> rfl
        | false =>
          have hb' : (decide (qq.f = f) && decide (qq.s = s) && decide (qq.c = c)) = false := hb
          rw [hb']
          refine iteF ?_
          exact ⟨s6, acc, hacc, by omega, by rw [e1, hb, Bool.or_false]; exact hem⟩
      · rintro H6 ⟨s6, acc, hacc, hle, hem⟩
        rw [hlen, List.take_length] at hem
        refine ⟨_, .inl ⟨acc, SqL.of hacc, rfl⟩, ?_⟩
        have hus6 := s6 _ _ hus
        have K6 := (k4.trans k5).trans (same_keeps s6)
        have hP6 := hP5.same s6
        cases hb : (ps.any fun q => sameRun q ⟨w, f, s, c⟩) with
        | true =>
          rw [hb] at hem
          rw [hem]
          refine iteF ?_
          have l0 : 0 < ps.length := by
            rw [List.any_eq_true] at hb
            obtain ⟨q, hq, _⟩ := hb
            exact List.length_pos_of_mem hq
          exact ⟨ps, _, _, _, _, hL5.same rowP_mono s6, ⟨bag.bag.skip l0, bag.bd⟩, hP6, K6, rfl⟩
        | false =>
          rw [hb] at hem
          rw [hem]
          refine iteT ?_
          refine ⟨_, rfl, .inl ⟨rfl, _, SqL.of hus6⟩, _, rfl, _, rfl, (by show 2 ≤ sizeLine; decide), fun tn htn => ?_⟩
          have sn := same_upd (o := .tup [.int w, .ref t]) htn
          have hus7 := sn _ _ hus6
          have ul : us.length < sizeLine := by
            have : (9 : Nat) ≤ sizeLine := by decide
            have := bag.bag.le
            omega
          refine ⟨l, us, _, rfl, rfl, hus7, ul, ?_⟩
          refine ⟨ps ++ [⟨w, f, s, c⟩], _, _, _, _, rows_add hus7 hlen (fun i x hx => ?_) ⟨tn, t, rfl, upd_same, (s6.trans sn) _ _ hrow'⟩, bag.add ⟨w1, show w ≤ 10 ^ 60 by omega, hok.1⟩ hb ⟨w2, hok.2.1, hok.2.2.1, hok.2.2.2⟩, (hP6.same sn).store lp.1 lp.2, ?_, rfl⟩
          · obtain ⟨v, hv, r⟩ := hall i x hx
            exact ⟨v, hv, rowP_mono _ _ _ _ (s6.trans sn) r⟩
          · exact keeps_late (K6.trans (same_keeps sn)) hl
    · rintro σ' H2 ⟨ps, o3, o4, o5, o6, hL, bag, hP2, k2, rfl⟩
      exact ⟨_, rfl, q l ps H2 hP2 k2 lp.1 hL (bag.bag.ps (by omega) (by omega)) bag.bd (by have := bag.bag.le; omega)⟩
def spRunT : Sp := fun vs H Q _ => ∃ (p : Pla), vs = [.ref p, .bl true] ∧ Pool H p ∧ ∀ (t : Addr) (f s c : Int) (H' : Hp), Pool H' p → Keeps H H' p → Row H' t f s c → (RowOk f s c ∧ f < 10 ^ 31 ∧ c ≤ 10 ^ 31 ∧ (true = false → f ≤ 8 ∧ c ≤ 7)) → Q (.ref t) H'
theorem ok_runT (B : Blt mg) (C_draw : CalDrawA P w K mg base) (C_wide : CalWide P w K mg base) (Df : Dfn K mg "_law_run" "_law_run" s_run ["_law_pool_here", "_law_wide_here"]) : Cal P w K mg base 4 "_law_run" ["_law_pool_here", "_law_wide_here"] spRunT := by
  refine Df.cal sc_run (fun vs H Q E h => ?_) (fun fA cdv A outer st H vs Q E hr h => ?_)
  · obtain ⟨p, rfl, _⟩ := h
    rfl
  · obtain ⟨p, rfl, hP, k⟩ := h
    have W := Wd.nil hP
    have S := Keeps.refl H p.p
    refine ⟨_, (pss_cons (ps_set (i := 2) sc_run.nd rfl (Or.inl rfl) (pe_cal C_draw (hr.mono (by decide)) (pa_cons (pv 0) (pa_cons (pe_int) pa_nil))))
      (pss_cons (ps_set (i := 3) sc_run.nd rfl (Or.inl rfl) (pe_op op_add (pe_int) (pe_cal C_draw (hr.mono (by decide)) (pa_cons (pv 0) (pa_cons (pe_int) pa_nil)))))
      (pss_cons (ps_if (PW.pt (pw_and (pt_val (pv 1)) (pw_and1 (pt_cmpR op_eq (pe_cal C_draw (hr.mono (by decide)) (pa_cons (pv 0) (pa_cons (pe_int) pa_nil))) (pe_int) (nomark _))))) (pss_one (ps_set (i := 2) sc_run.nd rfl (Or.inl rfl) (pe_cal C_wide (hr.mono (by decide)) (pa_cons (pv 0) pa_nil)))) pss_nil)
      (pss_cons (ps_if (PW.pt (pw_and (pt_val (pv 1)) (pw_and1 (pt_cmpR op_eq (pe_cal C_draw (hr.mono (by decide)) (pa_cons (pv 0) (pa_cons (pe_int) pa_nil))) (pe_int) (nomark _))))) (pss_one (ps_set (i := 3) sc_run.nd rfl (Or.inl rfl) (pe_op op_add (pe_int) (pe_cal C_wide (hr.mono (by decide)) (pa_cons (pv 0) pa_nil))))) pss_nil)
      (pss_cons (ps_set (i := 4) sc_run.nd rfl (Or.inl rfl) (pe_op op_add (pe_int) (pe_cal C_draw (hr.mono (by decide)) (pa_cons (pv 0) (pa_cons (pe_int) pa_nil)))))
      (pss_cons (ps_if (pt_cmpR op_eq (pv 3) (pe_int) (nomark _)) (pss_one (ps_set (i := 4) sc_run.nd rfl (Or.inl rfl) (pe_int))) pss_nil)
      (pss_one (ps_ret (pe_tup (pa_cons (pv 2) (pa_cons (pv 4) (pa_cons (pv 3) pa_nil)))))))))))), ?_⟩
    refine ⟨_, rfl, p, 9, rfl, W.P, by decide, by decide, fun r1 H2 h0r1 h1r1 hP3 k4 => ?_⟩
    have W := W.keep hP3 k4
    have S := S.trans k4
    refine ⟨_, rfl, p, 7, rfl, W.P, by decide, by decide, fun r5 H6 h0r5 h1r5 hP7 k8 => ?_⟩
    have W := W.keep hP7 k8
    have S := S.trans k8
    refine ⟨_, _, rfl, rfl, _, rfl, _, rfl, iteT ?_⟩
    refine ⟨_, rfl, p, 2, rfl, W.P, by decide, by decide, fun r9 H10 h0r9 h1r9 hP11 k12 => ?_⟩
    have W := W.keep hP11 k12
    have S := S.trans k12
    refine ⟨rfl, _, rfl, ifE (fun h13 => ?_) (fun h13 => ?_)⟩
    · skip
      refine ⟨_, rfl, p, rfl, W.P, fun r14 H15 h0r14 h1r14 hP16 k17 => ?_⟩
      have W := W.keep hP16 k17
      have S := S.trans k17
      refine ⟨_, rfl, _, rfl, iteT ?_⟩
      refine ⟨_, rfl, p, 2, rfl, W.P, by decide, by decide, fun r18 H19 h0r18 h1r18 hP20 k21 => ?_⟩
      have W := W.keep hP20 k21
      have S := S.trans k21
      refine ⟨rfl, _, rfl, ifE (fun h22 => ?_) (fun h22 => ?_)⟩
      · skip
        refine ⟨_, rfl, p, rfl, W.P, fun r23 H24 h0r23 h1r23 hP25 k26 => ?_⟩
        have W := W.keep hP25 k26
        have S := S.trans k26
        refine ⟨_, _, rfl, rfl, _, rfl, p, 4, rfl, W.P, by decide, by decide, fun r27 H28 h0r27 h1r27 hP29 k30 => ?_⟩
        have W := W.keep hP29 k30
        have S := S.trans k30
        refine ⟨_, _, rfl, rfl, _, rfl, rfl, _, rfl, ifE (fun h31 => ?_) (fun h31 => ?_)⟩
        · skip
          refine ⟨_, rfl, _, rfl, _, rfl, (by show 3 ≤ sizeLine; decide), fun t32 ht32 => ?_⟩
          have W := W.new (o := .tup [.int r14, .int 1, .int (1 + r23)]) ht32
          have S := S.trans (same_keeps (same_upd (o := .tup [.int r14, .int 1, .int (1 + r23)]) ht32))
          exact k t32 r14 1 (1 + r23) _ W.P S (W.at (List.Mem.head _)) ⟨⟨⟨by omega, by omega, by omega, by omega⟩, by omega, by omega, fun h => by omega⟩, by omega, by omega, fun h => by cases h⟩
        · skip
          refine ⟨_, rfl, _, rfl, _, rfl, (by show 3 ≤ sizeLine; decide), fun t33 ht33 => ?_⟩
          have W := W.new (o := .tup [.int r14, .int (1 + r27), .int (1 + r23)]) ht33
          have S := S.trans (same_keeps (same_upd (o := .tup [.int r14, .int (1 + r27), .int (1 + r23)]) ht33))
          exact k t33 r14 (1 + r27) (1 + r23) _ W.P S (W.at (List.Mem.head _)) ⟨⟨⟨by omega, by omega, by omega, by omega⟩, by omega, by omega, fun h => by omega⟩, by omega, by omega, fun h => by cases h⟩
      · skip
        refine ⟨_, rfl, p, 4, rfl, W.P, by decide, by decide, fun r34 H35 h0r34 h1r34 hP36 k37 => ?_⟩
        have W := W.keep hP36 k37
        have S := S.trans k37
        refine ⟨_, _, rfl, rfl, _, rfl, rfl, _, rfl, ifE (fun h38 => ?_) (fun h38 => ?_)⟩
        · skip
          refine ⟨_, rfl, _, rfl, _, rfl, (by show 3 ≤ sizeLine; decide), fun t39 ht39 => ?_⟩
          have W := W.new (o := .tup [.int r14, .int 1, .int (1 + r5)]) ht39
          have S := S.trans (same_keeps (same_upd (o := .tup [.int r14, .int 1, .int (1 + r5)]) ht39))
          exact k t39 r14 1 (1 + r5) _ W.P S (W.at (List.Mem.head _)) ⟨⟨⟨by omega, by omega, by omega, by omega⟩, by omega, by omega, fun h => by omega⟩, by omega, by omega, fun h => by cases h⟩
        · skip
          refine ⟨_, rfl, _, rfl, _, rfl, (by show 3 ≤ sizeLine; decide), fun t40 ht40 => ?_⟩
          have W := W.new (o := .tup [.int r14, .int (1 + r34), .int (1 + r5)]) ht40
          have S := S.trans (same_keeps (same_upd (o := .tup [.int r14, .int (1 + r34), .int (1 + r5)]) ht40))
          exact k t40 r14 (1 + r34) (1 + r5) _ W.P S (W.at (List.Mem.head _)) ⟨⟨⟨by omega, by omega, by omega, by omega⟩, by omega, by omega, fun h => by omega⟩, by omega, by omega, fun h => by cases h⟩
    · skip
      refine ⟨_, rfl, _, rfl, iteT ?_⟩
      refine ⟨_, rfl, p, 2, rfl, W.P, by decide, by decide, fun r41 H42 h0r41 h1r41 hP43 k44 => ?_⟩
      have W := W.keep hP43 k44
      have S := S.trans k44
      refine ⟨rfl, _, rfl, ifE (fun h45 => ?_) (fun h45 => ?_)⟩
      · skip
        refine ⟨_, rfl, p, rfl, W.P, fun r46 H47 h0r46 h1r46 hP48 k49 => ?_⟩
        have W := W.keep hP48 k49
        have S := S.trans k49
        refine ⟨_, _, rfl, rfl, _, rfl, p, 4, rfl, W.P, by decide, by decide, fun r50 H51 h0r50 h1r50 hP52 k53 => ?_⟩
        have W := W.keep hP52 k53
        have S := S.trans k53
        refine ⟨_, _, rfl, rfl, _, rfl, rfl, _, rfl, ifE (fun h54 => ?_) (fun h54 => ?_)⟩
        · skip
          refine ⟨_, rfl, _, rfl, _, rfl, (by show 3 ≤ sizeLine; decide), fun t55 ht55 => ?_⟩
          have W := W.new (o := .tup [.int r1, .int 1, .int (1 + r46)]) ht55
          have S := S.trans (same_keeps (same_upd (o := .tup [.int r1, .int 1, .int (1 + r46)]) ht55))
          exact k t55 r1 1 (1 + r46) _ W.P S (W.at (List.Mem.head _)) ⟨⟨⟨by omega, by omega, by omega, by omega⟩, by omega, by omega, fun h => by omega⟩, by omega, by omega, fun h => by cases h⟩
        · skip
          refine ⟨_, rfl, _, rfl, _, rfl, (by show 3 ≤ sizeLine; decide), fun t56 ht56 => ?_⟩
          have W := W.new (o := .tup [.int r1, .int (1 + r50), .int (1 + r46)]) ht56
          have S := S.trans (same_keeps (same_upd (o := .tup [.int r1, .int (1 + r50), .int (1 + r46)]) ht56))
          exact k t56 r1 (1 + r50) (1 + r46) _ W.P S (W.at (List.Mem.head _)) ⟨⟨⟨by omega, by omega, by omega, by omega⟩, by omega, by omega, fun h => by omega⟩, by omega, by omega, fun h => by cases h⟩
      · skip
        refine ⟨_, rfl, p, 4, rfl, W.P, by decide, by decide, fun r57 H58 h0r57 h1r57 hP59 k60 => ?_⟩
        have W := W.keep hP59 k60
        have S := S.trans k60
        refine ⟨_, _, rfl, rfl, _, rfl, rfl, _, rfl, ifE (fun h61 => ?_) (fun h61 => ?_)⟩
        · skip
          refine ⟨_, rfl, _, rfl, _, rfl, (by show 3 ≤ sizeLine; decide), fun t62 ht62 => ?_⟩
          have W := W.new (o := .tup [.int r1, .int 1, .int (1 + r5)]) ht62
          have S := S.trans (same_keeps (same_upd (o := .tup [.int r1, .int 1, .int (1 + r5)]) ht62))
          exact k t62 r1 1 (1 + r5) _ W.P S (W.at (List.Mem.head _)) ⟨⟨⟨by omega, by omega, by omega, by omega⟩, by omega, by omega, fun h => by omega⟩, by omega, by omega, fun h => by cases h⟩
        · skip
          refine ⟨_, rfl, _, rfl, _, rfl, (by show 3 ≤ sizeLine; decide), fun t63 ht63 => ?_⟩
          have W := W.new (o := .tup [.int r1, .int (1 + r57), .int (1 + r5)]) ht63
          have S := S.trans (same_keeps (same_upd (o := .tup [.int r1, .int (1 + r57), .int (1 + r5)]) ht63))
          exact k t63 r1 (1 + r57) (1 + r5) _ W.P S (W.at (List.Mem.head _)) ⟨⟨⟨by omega, by omega, by omega, by omega⟩, by omega, by omega, fun h => by omega⟩, by omega, by omega, fun h => by cases h⟩

def spPartsT : Sp := fun vs H Q _ => ∃ (p : Pla) (M : Int), vs = [.ref p, .int M, .bl true] ∧ Pool H p ∧ 1 ≤ M ∧ M ≤ 9 ∧ ∀ (L : Addr) (ps : List Pt) (H' : Hp), Pool H' p → Keeps H H' p → L ≠ p → LAt RowP H' L ps → PsOk ps → (∀ x ∈ ps, PBd true x) → ps.length ≤ M.toNat → Q (.ref L) H'
theorem ok_partsT (B : Blt mg) (C_draw : CalDrawA P w K mg base) (C_run : Cal P w K mg base 4 "_law_run" ["_law_pool_here", "_law_wide_here"] spRunT) (Df : Dfn K mg "_law_parts" "_law_parts" s_parts ["_law_pool_here", "_law_most", "_law_wide_here"]) : Cal P w K mg base 6 "_law_parts" ["_law_pool_here", "_law_most", "_law_wide_here"] spPartsT := by
  refine Df.cal sc_parts (fun vs H Q E h => ?_) (fun fA cdv A outer st H vs Q E hr h => ?_)
  · obtain ⟨p, M, rfl, _⟩ := h
    rfl
  · obtain ⟨p, M, rfl, hP, M1, M6, q⟩ := h
    refine ⟨_, (pss_cons (ps_set (i := 3) sc_parts.nd rfl (Or.inl rfl) (pe_lst pa_nil))
      (pss_cons (ps_for PassesOwn.never rfl (pi_range1 (by rfl) B.range (pa_cons (pe_op op_add (pe_int) (pe_cal C_draw (hr.mono (by decide)) (pa_cons (pv 0) (pa_cons (pv 1) pa_nil)))) pa_nil)) (pg_name (i := 4) sc_parts.nd rfl (Or.inl rfl)) (pss_cons (ps_set (i := 5) sc_parts.nd rfl (Or.inl rfl) (pe_op op_add (pe_int) (pe_cal C_draw (hr.mono (by decide)) (pa_cons (pv 0) (pa_cons (pe_int) pa_nil)))))
      (pss_cons (ps_set (i := 6) sc_parts.nd rfl (Or.inr rfl) (pe_cal C_run (hr.mono (by decide)) (pa_cons (pv 0) (pa_cons (pv 2) pa_nil))))
      (pss_one (ps_if (pt_not (pt_truth (pe_lc (own := [("_law_part", 7)]) (g := (gName 7)) rfl sc_parts.nd (pi_list (pv 3)) (blkOk_by (N := ["_law_pool_here", "_law_most", "_law_wide_here", "_law_parts_here", "_law_spare", "_law_weight", "_law_row", "_law_part"]) (sc := defScope s_parts) (by decide +kernel)) (fun _ _ _ _ _ => (pg_name (i := 7) sc_parts.nd rfl (Or.inl rfl))) (fun _ _ _ _ _ => (pts_one (pt_cmpR (show OpR _ _ (rEqD K) from op_eqD hr.units) (pe_ix (show IxR _ (rIxT K) from ix_tup) (pv 7) (pe_int) (fun _ _ => rfl)) (pv 6) (nomark _)))) (fun _ _ _ _ _ => (pv 7))) (fun _ => rfl))) (pss_one ((ps_expr (pe_bm PySem.F.plainAttrs_list PySem.F.slot_list_append PySem.F.type_list_append mt_append (pv 3) (pa_cons (pe_tup (pa_cons (pv 5) (pa_cons (pv 6) pa_nil))) pa_nil))))) pss_nil)))))
      (pss_one (ps_ret (pv 3))))), ?_⟩
    refine ⟨(by show 0 ≤ sizeLine; decide), fun l hl => ?_⟩
    have hP0 := hP.upd (o := .lst []) hl
    have lp := hP.apart hl
    refine ⟨_, rfl, _, rfl, p, M, rfl, hP0, by omega, by omega, fun r6 H1 h0r h1r hP1 k1 => ?_⟩
    have hl1 : H1 l = some (.lst []) := k1 _ _ upd_same lp.1
    have K1 : Keeps H H1 p := (same_keeps (same_upd hl)).trans k1
    refine ⟨_, _, rfl, rfl, _, rfl, by omega, by omega, for_range (n := (1 + r6).toNat) (fun i σ' H' => ∃ (ps : List Pt) (o3 o4 o5 o6 : Option V), LAt RowP H' l ps ∧ BagB true i ps ∧ Pool H' p ∧ Keeps H H' p ∧ σ' = [some (.ref (p : Addr)), some (.int M), some (.bl true), some (.ref l), o3, o4, o5, o6])
      ⟨[], none, none, none, none, ⟨[], hl1, rfl, fun i x h => by simp at h⟩, ⟨⟨Nat.le_refl 0, fun h => absurd h (by omega), (fun _ h => nomatch h), (fun i j p q h => by simp at h), by decide⟩, fun _ h => nomatch h⟩, hP1, K1, rfl⟩ ?_ ?_⟩
    · rintro i σ' H2 hi ⟨ps, o3, o4, o5, o6, hL, bag, hP2, k2, rfl⟩
      refine ⟨_, rfl, p, 9, rfl, hP2, by decide, by decide, fun w0 H3 w00 w01 hP3 k3 => ⟨_, _, rfl, rfl, ?_⟩⟩
      have hL3 := rows_keep hL hP2 lp.1 k3
      obtain ⟨w, hw⟩ : ∃ w, w = 1 + w0 := ⟨_, rfl⟩
      show gName 5 (V.int (1 + w0)) _ _ _
      rw [← hw]
      have w1 : 1 ≤ w := by omega
      have w2 : w ≤ 9 := by omega
      have hL4 := hL3
      have hP4 := hP3
      have k4 := k2.trans k3
      refine ⟨_, rfl, _, rfl, p, rfl, hP4, fun t f s c H5 hP5 k5 hrow hok => ?_⟩
      have hL5 := rows_keep hL4 hP4 lp.1 k5
      have hrow' : H5 t = some (.tup [.int f, .int s, .int c]) := hrow
      obtain ⟨us, hus, hlen, hall⟩ := id hL5
      have i6 : i < 9 := by omega
      refine ⟨_, rfl, l, rfl, ⟨_, SqL.of hus⟩, fun D1 hD1 => lc_list (xs := us) (fun j H' => Same H5 H' ∧ ∃ acc : List V, H' D1 = some (.lst acc) ∧ acc.length ≤ j ∧ (acc.isEmpty = !((ps.take j).any fun q => sameRun q ⟨w, f, s, c⟩)))
        ⟨same_upd hD1, [], upd_same, Nat.le_refl 0, rfl⟩ (fun j H' _ h => SqL.of (h.1 _ _ hus)) ?_ ?_⟩
      · rintro j x H6 hx ⟨s6, acc, hacc, hle, hem⟩
        obtain ⟨qq, hq⟩ := item hlen hx
        obtain ⟨x', hx', t2, r2, rfl, ht2, hr2⟩ := hall j qq hq
        rw [hx] at hx'
        cases hx'
        have jl := (List.getElem?_eq_some_iff.mp hx).1
        have hl6 := bag.bag.le
        have sz : (9 : Nat) ≤ sizeLine := by decide
        have ht6 := s6 _ _ ht2
        have hr6 : H6 r2 = some (.tup [.int qq.f, .int qq.s, .int qq.c]) := s6 _ _ hr2
        have e1 : ((ps.take (j + 1)).any fun q => sameRun q ⟨w, f, s, c⟩) = (((ps.take j).any fun q => sameRun q ⟨w, f, s, c⟩) || sameRun qq ⟨w, f, s, c⟩) := by
          rw [take_snoc hq, List.any_append, List.any_cons, List.any_nil, Bool.or_false]
        refine ⟨rfl, ?_⟩
        refine ⟨_, rfl, _, _, _, _, rfl, rfl, SqT.of (ht6), rfl, _, rfl, .tuple [.int qq.f, .int qq.s, .int qq.c], .tuple [.int f, .int s, .int c], .tup (SqT.of hr6) (.cons (.int _) (.cons (.int _) (.cons (.int _) .nil))), .tup (SqT.of (s6 _ _ hrow')) (.cons (.int _) (.cons (.int _) (.cons (.int _) .nil))), rfl, rfl, _, rfl, ?_⟩
        rw [row_eqv]
        cases hb : sameRun qq ⟨w, f, s, c⟩ with
        | true =>
          have hb' : (decide (qq.f = f) && decide (qq.s = s) && decide (qq.c = c)) = true := hb
          rw [hb']
          refine iteT ?_
          refine ⟨_, rfl, acc, hacc, by omega, same_late s6 hD1, _, upd_same, by rw [List.length_append]; show _ + 1 ≤ _; omega, ?_⟩
          rw [e1, hb, Bool.or_true]
          cases acc <;> rfl
        | false =>
          have hb' : (decide (qq.f = f) && decide (qq.s = s) && decide (qq.c = c)) = false := hb
          rw [hb']
          refine iteF ?_
          exact ⟨s6, acc, hacc, by omega, by rw [e1, hb, Bool.or_false]; exact hem⟩
      · rintro H6 ⟨s6, acc, hacc, hle, hem⟩
        rw [hlen, List.take_length] at hem
        refine ⟨_, .inl ⟨acc, SqL.of hacc, rfl⟩, ?_⟩
        have hus6 := s6 _ _ hus
        have K6 := (k4.trans k5).trans (same_keeps s6)
        have hP6 := hP5.same s6
        cases hb : (ps.any fun q => sameRun q ⟨w, f, s, c⟩) with
        | true =>
          rw [hb] at hem
          rw [hem]
          refine iteF ?_
          have l0 : 0 < ps.length := by
            rw [List.any_eq_true] at hb
            obtain ⟨q, hq, _⟩ := hb
            exact List.length_pos_of_mem hq
          exact ⟨ps, _, _, _, _, hL5.same rowP_mono s6, ⟨bag.bag.skip l0, bag.bd⟩, hP6, K6, rfl⟩
        | false =>
          rw [hb] at hem
          rw [hem]
          refine iteT ?_
          refine ⟨_, rfl, .inl ⟨rfl, _, SqL.of hus6⟩, _, rfl, _, rfl, (by show 2 ≤ sizeLine; decide), fun tn htn => ?_⟩
          have sn := same_upd (o := .tup [.int w, .ref t]) htn
          have hus7 := sn _ _ hus6
          have ul : us.length < sizeLine := by
            have : (9 : Nat) ≤ sizeLine := by decide
            have := bag.bag.le
            omega
          refine ⟨l, us, _, rfl, rfl, hus7, ul, ?_⟩
          refine ⟨ps ++ [⟨w, f, s, c⟩], _, _, _, _, rows_add hus7 hlen (fun i x hx => ?_) ⟨tn, t, rfl, upd_same, (s6.trans sn) _ _ hrow'⟩, bag.add ⟨w1, show w ≤ 10 ^ 60 by omega, hok.1⟩ hb ⟨w2, hok.2.1, hok.2.2.1, hok.2.2.2⟩, (hP6.same sn).store lp.1 lp.2, ?_, rfl⟩
          · obtain ⟨v, hv, r⟩ := hall i x hx
            exact ⟨v, hv, rowP_mono _ _ _ _ (s6.trans sn) r⟩
          · exact keeps_late (K6.trans (same_keeps sn)) hl
    · rintro σ' H2 ⟨ps, o3, o4, o5, o6, hL, bag, hP2, k2, rfl⟩
      exact ⟨_, rfl, q l ps H2 hP2 k2 lp.1 hL (bag.bag.ps (by omega) (by omega)) bag.bd (by have := bag.bag.le; omega)⟩
end
end L

set_option Elab.async false
set_option linter.all false
set_option maxRecDepth 100000
set_option maxHeartbeats 4000000
set_option pp.maxSteps 160
set_option pp.deepTerms false
namespace L
open PySem PySem.Spec PyProof.Rows L2 Fl
local macro_rules | `(tactic| walk_at "side") => `(tactic| first | (exact .inl ⟨by omega, by omega⟩) | (exact .inr ⟨by omega, by omega⟩) | (exact .inr ⟨by decide, by decide⟩) | (show (_ : Int) ≠ _; omega) | (exact ⟨by omega, by decide⟩) | (exact ⟨by decide, by decide, by decide⟩))
local macro_rules | `(tactic| walk_at "go") => `(tactic| repeat (first | refine ⟨_, rfl, ?_⟩ | refine ⟨_, _, rfl, rfl, ?_⟩ | refine .inl ⟨_, rfl, ?_⟩ | refine ⟨rfl, ?_⟩ | refine ⟨(by walk_at "side"), ?_⟩))
local macro_rules | `(tactic| walk_at "see") => `(tactic| (set_option pp.maxSteps 110 in set_option pp.deepTerms false in trace_state))
local macro_rules | `(tactic| walk_at "if") => `(tactic| first | refine ifE ?_ ?_ | refine ifNE ?_ ?_ | refine ifD ?_ ?_ | refine ifN ?_ ?_ | refine ifB ?_ ?_)
open Bx
theorem rq_same (a b d : Int) : rq (a, d) + rq (b, d) = rq (a + b, d) := by
  unfold rq
  dsimp only
  rw [Rat.intCast_add]
  grind

/-! ### sums over parts, equal runs put together -/
def sumR (φ : Pt → Rat) : List Pt → Rat
  | [] => 0
  | p :: r => φ p + sumR φ r
theorem sumR_app {φ : Pt → Rat} (ys : List Pt) : ∀ xs : List Pt, sumR φ (xs ++ ys) = sumR φ xs + sumR φ ys
  | [] => by
    show sumR φ ys = 0 + _
    grind
  | p :: r => by
    show φ p + sumR φ (r ++ ys) = φ p + sumR φ r + _
    rw [sumR_app ys r]
    grind
theorem sumR_snoc {φ : Pt → Rat} {p : Pt} (xs : List Pt) : sumR φ (xs ++ [p]) = sumR φ xs + φ p := by
  rw [sumR_app]
  show sumR φ xs + (φ p + 0) = _
  grind
def Apt (a b : Pt) : Prop := sameRun a b = false
theorem map_none {φ : Pt → Rat} {p : Pt} : ∀ acc : List Pt, (∀ q ∈ acc, sameRun q p = false) → acc.map (fun q => if sameRun q p = true then { q with n := q.n + p.n } else q) = acc
  | [], _ => rfl
  | q :: r, h => by
    rw [List.map_cons, map_none (φ := φ) r (fun x hx => h x (List.mem_cons_of_mem _ hx)), if_neg (by rw [h q (List.mem_cons_self ..)]; exact Bool.false_ne_true)]
theorem map_once {φ : Pt → Rat} {p : Pt} (add : ∀ q, sameRun q p = true → φ { q with n := q.n + p.n } = φ q + φ p) : ∀ acc : List Pt, acc.Pairwise Apt → acc.any (fun q => sameRun q p) = true → sumR φ (acc.map (fun q => if sameRun q p = true then { q with n := q.n + p.n } else q)) = sumR φ acc + φ p
  | [], _, h => by cases h
  | q :: r, hp, h => by
    rw [List.pairwise_cons] at hp
    cases hq : sameRun q p with
    | true =>
      have none_ : ∀ x ∈ r, sameRun x p = false := fun x hx => by
        cases e : sameRun x p with
        | false => rfl
        | true =>
          have := hp.1 x hx
          have t := sr_trans hq (sr_comm e)
          unfold Apt at this
          rw [t] at this
          cases this
      rw [List.map_cons, map_none (φ := φ) r none_, if_pos hq]
      show φ _ + sumR φ r = φ q + sumR φ r + φ p
      rw [add q hq]
      grind
    | false =>
      have hr : r.any (fun q => sameRun q p) = true := by
        rw [List.any_cons, hq, Bool.false_or] at h
        exact h
      rw [List.map_cons, if_neg (by rw [hq]; exact Bool.false_ne_true)]
      show φ q + sumR φ (r.map _) = φ q + sumR φ r + φ p
      rw [map_once add r hp.2 hr]
      grind
theorem apt_upd {p a b : Pt} : Apt (if sameRun a p = true then { a with n := a.n + p.n } else a) (if sameRun b p = true then { b with n := b.n + p.n } else b) ↔ Apt a b := by
  unfold Apt sameRun
  split <;> split <;> exact Iff.rfl
theorem apt_map {p : Pt} : ∀ acc : List Pt, acc.Pairwise Apt → (acc.map (fun q => if sameRun q p = true then { q with n := q.n + p.n } else q)).Pairwise Apt
  | [], _ => List.Pairwise.nil
  | q :: r, h => by
    rw [List.pairwise_cons] at h
    rw [List.map_cons, List.pairwise_cons]
    refine ⟨fun x hx => ?_, apt_map r h.2⟩
    obtain ⟨y, hy, rfl⟩ := List.mem_map.mp hx
    exact apt_upd.2 (h.1 y hy)
/-- what putting together keeps -/
structure Tg (φ : Pt → Rat) (R : Pt → Prop) (ps acc : List Pt) : Prop where
  ap : acc.Pairwise Apt
  eq : sumR φ acc = sumR φ ps
  run : ∀ q ∈ acc, R q ∧ 1 ≤ q.n
  len : acc.length ≤ ps.length
theorem tg1 {φ : Pt → Rat} {R : Pt → Prop} {p : Pt} {ps acc : List Pt} (hR : ∀ q m, R q → R { q with n := m }) (add : ∀ q, sameRun q p = true → φ { q with n := q.n + p.n } = φ q + φ p) (n1 : 1 ≤ p.n) (rp : R p) (h : Tg φ R ps acc) : Tg φ R (ps ++ [p]) (tog1 acc p) := by
  unfold tog1
  rw [if_neg (by omega)]
  cases ha : acc.any (fun q => sameRun q p) with
  | true =>
    rw [if_pos rfl]
    refine ⟨apt_map acc h.ap, by rw [map_once add acc h.ap ha, sumR_snoc, h.eq], fun q hq => ?_, by rw [List.length_map, List.length_append]; have := h.len; omega⟩
    obtain ⟨x, hx, rfl⟩ := List.mem_map.mp hq
    have r := h.run x hx
    split
    · exact ⟨hR x _ r.1, by show 1 ≤ x.n + p.n; omega⟩
    · exact r
  | false =>
    rw [if_neg Bool.false_ne_true]
    refine ⟨?_, by rw [sumR_snoc, sumR_snoc, h.eq], fun q hq => ?_, by rw [List.length_append, List.length_append]; have := h.len; show _ + 1 ≤ _ + 1; omega⟩
    · rw [List.pairwise_append]
      refine ⟨h.ap, List.pairwise_singleton _ _, fun a ha2 b hb => ?_⟩
      rw [List.mem_singleton.mp hb]
      cases e : sameRun a p with
      | false => exact e
      | true =>
        have : acc.any (fun q => sameRun q p) = true := List.any_eq_true.mpr ⟨a, ha2, e⟩
        rw [ha] at this
        cases this
    · rcases List.mem_append.mp hq with hq | hq
      · exact h.run q hq
      · rw [List.mem_singleton.mp hq]
        exact ⟨rp, n1⟩
theorem tg_all {φ : Pt → Rat} {R : Pt → Prop} {ps : List Pt} (hR : ∀ q m, R q → R { q with n := m }) (add : ∀ p q, sameRun q p = true → φ { q with n := q.n + p.n } = φ q + φ p) (n1 : ∀ p ∈ ps, R p ∧ 1 ≤ p.n) : ∀ i, i ≤ ps.length → Tg φ R (ps.take i) (tog (ps.take i))
  | 0, _ => ⟨List.Pairwise.nil, rfl, (fun _ h => nomatch h), Nat.le_refl _⟩
  | i + 1, h => by
    have hp : ps[i]? = some ps[i] := List.getElem?_eq_getElem (by omega)
    have ih := tg_all hR add n1 i (by omega)
    rw [tog_snoc hp, take_snoc hp]
    exact tg1 hR (add _) (n1 _ (mem_at hp)).2 (n1 _ (mem_at hp)).1 ih
theorem tg_of {φ : Pt → Rat} {R : Pt → Prop} {ps : List Pt} (hR : ∀ q m, R q → R { q with n := m }) (add : ∀ p q, sameRun q p = true → φ { q with n := q.n + p.n } = φ q + φ p) (n1 : ∀ p ∈ ps, R p ∧ 1 ≤ p.n) : Tg φ R ps (tog ps) := by
  have := tg_all hR add n1 ps.length (Nat.le_refl _)
  rw [List.take_length] at this
  exact this
def chT (Dn k : Int) (p : Pt) : Rat := if isin p.f p.s p.c k = true then rq (p.n, Dn) * rq (1, p.c) else 0
theorem chR_sum {Dn k : Int} : ∀ ps : List Pt, chR Dn k ps = sumR (chT Dn k) ps
  | [] => rfl
  | p :: r => by
    show chT Dn k p + chR Dn k r = chT Dn k p + sumR _ r
    rw [chR_sum r]
theorem chT_add {Dn k : Int} (p q : Pt) (h : sameRun q p = true) : chT Dn k { q with n := q.n + p.n } = chT Dn k q + chT Dn k p := by
  obtain ⟨e1, e2, e3⟩ := sameRun_iff.1 h
  unfold chT
  dsimp only
  rw [e1, e2, e3]
  split
  · have := rq_same q.n p.n Dn
    rw [← this]
    grind
  · grind
theorem n_add (p q : Pt) (_ : sameRun q p = true) : (({ q with n := q.n + p.n } : Pt).n : Rat) = (q.n : Rat) + (p.n : Rat) := by
  show ((q.n + p.n : Int) : Rat) = _
  rw [Rat.intCast_add]
theorem sumR_n : ∀ ps : List Pt, sumR (fun p => (p.n : Rat)) ps = ((sumI (ps.map Pt.n) : Int) : Rat)
  | [] => rfl
  | p :: r => by
    show (p.n : Rat) + sumR _ r = ((p.n + sumI (r.map Pt.n) : Int) : Rat)
    rw [Rat.intCast_add, sumR_n r]
theorem mem_le_sum : ∀ {ps : List Pt}, (∀ p ∈ ps, 1 ≤ p.n) → ∀ q ∈ ps, q.n ≤ sumI (ps.map Pt.n)
  | p :: r, h, q, hq => by
    have h2 : 0 ≤ sumI (r.map Pt.n) := sumI_nn fun n hn => by
      obtain ⟨x, hx, rfl⟩ := List.mem_map.mp hn
      have := h x (List.mem_cons_of_mem _ hx)
      omega
    show q.n ≤ p.n + sumI (r.map Pt.n)
    rcases List.mem_cons.mp hq with rfl | hq
    · omega
    · have := mem_le_sum (ps := r) (fun x hx => h x (List.mem_cons_of_mem _ hx)) q hq
      have := h p (List.mem_cons_self ..)
      omega
/-! ### a run cut in two -/
theorem isin_em {f s c k : Int} (s1 : 1 ≤ s) : isin f s c k = true ↔ f ≤ k ∧ k ≤ f + s * (c - 1) ∧ (k - f) % s = 0 := by
  unfold isin
  rw [Bool.and_eq_true, Bool.and_eq_true, decide_eq_true_iff, decide_eq_true_iff, decide_eq_true_iff, and_assoc, Int.fmod_eq_emod_of_nonneg _ (show 0 ≤ s by omega)]
def inN (f s c k : Int) : Int := if isin f s c k = true then 1 else 0
theorem in_one {f s k : Int} (s1 : 1 ≤ s) : inN f s 1 k = inN f 1 1 k := by
  have a := isin_em (f := f) (c := 1) (k := k) s1
  have b := isin_em (f := f) (c := 1) (k := k) (show (1 : Int) ≤ 1 by decide)
  have e : isin f s 1 k = true ↔ isin f 1 1 k = true := by
    rw [a, b]
    constructor
    · rintro ⟨h1, h2, h3⟩
      exact ⟨h1, by omega, by omega⟩
    · rintro ⟨h1, h2, h3⟩
      have : k = f := by omega
      subst this
      rw [Int.sub_self k]
      exact ⟨h1, by omega, Int.zero_emod _⟩
  unfold inN
  cases h : isin f 1 1 k with
  | true => rw [if_pos (e.2 h), if_pos rfl]
  | false => rw [if_neg (fun z => by have := e.1 z; rw [h] at this; cases this), if_neg Bool.false_ne_true]
theorem inN_split {a b c : Bool} (h1 : a = true ↔ (b = true ∨ c = true)) (h2 : ¬ (b = true ∧ c = true)) : ((if b = true then 1 else 0) + (if c = true then 1 else 0) : Int) = if a = true then 1 else 0 := by
  cases a <;> cases b <;> cases c <;> simp at *
theorem in_cut {f s c t k : Int} (r : RunOk f s c) (t1 : 1 ≤ t) (t2 : t < c) : inN f s t k + inN (f + s * t) s (c - t) k = inN f s c k := by
  have s1 := r.s1
  have A := isin_em (f := f) (s := s) (c := t) (k := k) s1
  have B := isin_em (f := f + s * t) (s := s) (c := c - t) (k := k) s1
  have C := isin_em (f := f) (s := s) (c := c) (k := k) s1
  refine inN_split ?_ ?_
  · rw [A, B, C]
    rcases s_cases r with rfl | rfl | rfl | rfl <;> omega
  · rw [A, B]
    rcases s_cases r with rfl | rfl | rfl | rfl <;> omega
theorem in_half {f s c h k : Int} (r : RunOk f s c) (s2 : s < 3) (c2 : 2 ≤ c) (hh : h = c / 2) : inN f (2 * s) (c - h) k + inN (f + s) (2 * s) h k = inN f s c k := by
  have s1 := r.s1
  have A := isin_em (f := f) (s := 2 * s) (c := c - h) (k := k) (by omega)
  have B := isin_em (f := f + s) (s := 2 * s) (c := h) (k := k) (by omega)
  have C := isin_em (f := f) (s := s) (c := c) (k := k) s1
  refine inN_split ?_ ?_
  · rw [A, B, C]
    rcases (by omega : s = 1 ∨ s = 2) with rfl | rfl <;> omega
  · rw [A, B]
    rcases (by omega : s = 1 ∨ s = 2) with rfl | rfl <;> omega
end L

set_option Elab.async false
set_option linter.all false
set_option maxRecDepth 100000
set_option maxHeartbeats 4000000
set_option pp.maxSteps 160
set_option pp.deepTerms false
namespace L
open PySem PySem.Spec PyProof.Rows L2 Fl
local macro_rules | `(tactic| walk_at "side") => `(tactic| first | (exact .inl ⟨by omega, by omega⟩) | (exact .inr ⟨by omega, by omega⟩) | (exact .inr ⟨by decide, by decide⟩) | (show (_ : Int) ≠ _; omega) | (exact ⟨by omega, by decide⟩) | (exact ⟨by decide, by decide, by decide⟩))
local macro_rules | `(tactic| walk_at "go") => `(tactic| repeat (first | refine ⟨_, rfl, ?_⟩ | refine ⟨_, _, rfl, rfl, ?_⟩ | refine .inl ⟨_, rfl, ?_⟩ | refine ⟨rfl, ?_⟩ | refine ⟨(by walk_at "side"), ?_⟩))
local macro_rules | `(tactic| walk_at "see") => `(tactic| (set_option pp.maxSteps 110 in set_option pp.deepTerms false in trace_state))
local macro_rules | `(tactic| walk_at "if") => `(tactic| first | refine ifE ?_ ?_ | refine ifNE ?_ ?_ | refine ifD ?_ ?_ | refine ifN ?_ ?_ | refine ifB ?_ ?_)
open Bx
theorem nU_dvd {t u : Int} (h : u ≠ 0) : nU t u ∣ u := by
  have c := n_cross t u
  have g := n_gcd (t := t) h
  have d : (nU t u).natAbs ∣ (nT t u).natAbs * u.natAbs := by
    rw [← Int.natAbs_mul, c, Int.natAbs_mul]
    exact Nat.dvd_mul_left _ _
  exact Int.natAbs_dvd_natAbs.mp (Nat.Coprime.dvd_of_dvd_mul_left (Nat.Coprime.symm g) d)
theorem cprod_pos : ∀ ps : List Pt, (∀ p ∈ ps, 1 ≤ p.c) → 0 < cprod ps
  | [], _ => by decide
  | p :: r, h => Int.mul_pos (by have := h p (List.mem_cons_self ..); omega) (cprod_pos r fun q hq => h q (List.mem_cons_of_mem _ hq))
theorem dvd_cprod : ∀ (ps : List Pt) (p : Pt), p ∈ ps → p.c ∣ cprod ps
  | q :: r, p, h => by
    rcases List.mem_cons.mp h with rfl | h
    · exact ⟨cprod r, rfl⟩
    · exact Int.dvd_trans (dvd_cprod r p h) ⟨q.c, Int.mul_comm _ _⟩
theorem und_of {W U : Int} {ps : List Pt} (w : W ≠ 0) (h : W * cprod ps ∣ U) : Und U W ps := fun p hp => by
  refine Int.dvd_trans ?_ h
  exact Int.mul_dvd_mul (nU_dvd w) (dvd_cprod ps p hp)
theorem PBd.rb {w : Bool} {p : Pt} (b : PBd w p) (o : POk p) : Rb p.f p.s p.c := by
  obtain ⟨n1, _, ⟨⟨f0, s1, s4, c1⟩, _, _, _⟩⟩ := o
  have := b.f
  have := b.c
  exact ⟨f0, s1, c1, by omega, by omega, by omega⟩
/-- what is known of the drawn parts, heavy or not -/
structure Pk (ps : List Pt) : Prop where
  ok : PsOk ps
  g : ∀ p ∈ ps, POk p ∧ Rb p.f p.s p.c ∧ p.n.natAbs < 2 ^ 104 ∧ p.c.natAbs < 2 ^ 104
  f : ∀ p ∈ ps, p.f.natAbs < 2 ^ 104
  l9 : ps.length ≤ 9
  cp : (cprod ps).natAbs < 2 ^ 415
theorem Pk.w {ps : List Pt} (h : Pk ps) : 0 < wsum ps ∧ (wsum ps).natAbs < 2 ^ 108 := by
  have a := wsum_pos h.ok
  have e := sumI_bd (b := 104) (ns := ps.map Pt.n) fun n hn => by
    obtain ⟨p, hp, rfl⟩ := List.mem_map.mp hn
    exact (h.g p hp).2.2.1
  rw [List.length_map] at e
  have l := h.l9
  have : ps.length * 2 ^ 104 ≤ 9 * 2 ^ 104 := Nat.mul_le_mul_right _ l
  refine ⟨a, ?_⟩
  unfold wsum
  omega
theorem Pk.cw {ps : List Pt} (h : Pk ps) : (wsum ps * cprod ps).natAbs < 2 ^ 525 := ub (wide_lt h.w.2 h.cp) (by decide)
theorem Pk.cw0 {ps : List Pt} (h : Pk ps) : 0 < wsum ps * cprod ps := Int.mul_pos h.w.1 (cprod_pos ps fun p hp => (h.g p hp).1.ok.ok.c1)
theorem Pk.last {ps : List Pt} (h : Pk ps) : ∀ p ∈ ps, 0 ≤ p.f ∧ p.f ≤ lastP p ∧ lastP p < 2 ^ 107 := fun p hp => by
  have fb := h.f p hp
  have cb := (h.g p hp).2.2.2
  have o := (h.ok.ok p hp).ok.ok
  have s1 := o.s1
  have s4 := o.s4
  have c1 := o.c1
  have f0 := o.f0
  have x := Int.mul_nonneg (show 0 ≤ p.s by omega) (show 0 ≤ p.c - 1 by omega)
  have y := Int.mul_le_mul_of_nonneg_right s4 (show 0 ≤ p.c - 1 by omega)
  unfold lastP
  omega
theorem cprod_bd {b : Nat} : ∀ ps : List Pt, (∀ p ∈ ps, p.c.natAbs < 2 ^ b) → (cprod ps).natAbs < 2 ^ (b * ps.length + 1)
  | [], _ => by show (1 : Int).natAbs < 2 ^ (b * 0 + 1); rw [Nat.mul_zero]; decide
  | p :: r, h => by
    have ih := cprod_bd r fun q hq => h q (List.mem_cons_of_mem _ hq)
    have := wide_lt (h p (List.mem_cons_self ..)) ih
    rw [show b * (p :: r).length + 1 = b + (b * r.length + 1) by rw [List.length_cons, Nat.mul_succ]; omega]
    exact this
/-- of the drawn parts -/
theorem Pk.of {w : Bool} {ps : List Pt} (ok : PsOk ps) (bd : ∀ p ∈ ps, PBd w p) (l : ps.length ≤ if w then 4 else 9) : Pk ps := by
  refine ⟨ok, fun p hp => ?_, fun p hp => ?_, by split at l <;> omega, ?_⟩
  · have po := ok.ok p hp
    have b := bd p hp
    have := b.n
    have := b.c
    have := po.n1
    have := po.ok.ok.c1
    exact ⟨po, b.rb po, by omega, by omega⟩
  · have := (bd p hp).f
    have := (ok.ok p hp).ok.ok.f0
    omega
  · cases w with
    | true =>
      have := cprod_bd (b := 103) ps fun p hp => by
        have := (bd p hp).c
        have := (ok.ok p hp).ok.ok.c1
        omega
      have l : ps.length ≤ 4 := l
      exact Nat.lt_of_lt_of_le this (Nat.pow_le_pow_right (by decide) (by omega))
    | false =>
      have := cprod_bd (b := 3) ps fun p hp => by
        have := ((bd p hp).w rfl).2
        have := (ok.ok p hp).ok.ok.c1
        omega
      have l : ps.length ≤ 9 := l
      exact Nat.lt_of_lt_of_le this (Nat.pow_le_pow_right (by decide) (by omega))
/-- the same rows, other weights -/
inductive Hv : List Pt → List Pt → Prop
  | nil : Hv [] []
  | snoc {ps qs : List Pt} {p : Pt} {a : Int} (h : Hv ps qs) (a1 : 1 ≤ a) (a2 : a ≤ 10 ^ 30) : Hv (ps ++ [p]) (qs ++ [⟨a, p.f, p.s, p.c⟩])
theorem Hv.len {ps qs : List Pt} (h : Hv ps qs) : qs.length = ps.length := by
  induction h with
  | nil => rfl
  | snoc h _ _ ih => rw [List.length_append, List.length_append, ih]; rfl
theorem Hv.cp {ps qs : List Pt} (h : Hv ps qs) : cprod qs = cprod ps := by
  induction h with
  | nil => rfl
  | snoc h _ _ ih => rw [cprod_app, cprod_app, ih]; rfl
theorem Hv.at {ps qs : List Pt} (h : Hv ps qs) : ∀ (i : Nat) (q : Pt), qs[i]? = some q → ∃ p, ps[i]? = some p ∧ q.f = p.f ∧ q.s = p.s ∧ q.c = p.c ∧ 1 ≤ q.n ∧ q.n ≤ 10 ^ 30 := by
  induction h with
  | nil => intro i q h; simp at h
  | @snoc ps qs p a h a1 a2 ih =>
    intro i q hq
    have l := h.len
    rcases (by omega : i < qs.length ∨ qs.length ≤ i) with x | x
    · rw [List.getElem?_append_left x] at hq
      rw [List.getElem?_append_left (by omega)]
      exact ih i q hq
    · have il := (List.getElem?_eq_some_iff.mp hq).1
      rw [List.length_append] at il
      have il : i < qs.length + 1 := il
      obtain rfl : i = qs.length := by omega
      rw [List.getElem?_append_right (Nat.le_refl _), Nat.sub_self] at hq
      cases hq
      exact ⟨p, by rw [l, List.getElem?_append_right (Nat.le_refl _), Nat.sub_self]; rfl, rfl, rfl, rfl, a1, a2⟩
theorem Hv.pk {ps qs : List Pt} (h : Hv ps qs) (k : Pk ps) : Pk qs := by
  have each : ∀ q ∈ qs, ∃ p ∈ ps, q.f = p.f ∧ q.s = p.s ∧ q.c = p.c ∧ 1 ≤ q.n ∧ q.n ≤ 10 ^ 30 := fun q hq => by
    obtain ⟨i, hi⟩ := List.mem_iff_getElem?.mp hq
    obtain ⟨p, hp, r⟩ := h.at i q hi
    exact ⟨p, mem_at hp, r⟩
  have po : ∀ q ∈ qs, POk q := fun q hq => by
    obtain ⟨p, hp, e1, e2, e3, a1, a2⟩ := each q hq
    have o := (k.ok.ok p hp).ok
    exact ⟨a1, by omega, by rw [e1, e2, e3]; exact o⟩
  refine ⟨⟨by rw [h.len]; exact k.ok.l1, by rw [h.len]; exact k.ok.l64, po, fun i j p q hi hj hs => ?_, by rw [h.cp]; exact k.ok.pc⟩, fun q hq => ?_, fun q hq => ?_, by rw [h.len]; exact k.l9, by rw [h.cp]; exact k.cp⟩
  · obtain ⟨p', hp', e1, e2, e3, _⟩ := h.at i p hi
    obtain ⟨q', hq', f1, f2, f3, _⟩ := h.at j q hj
    refine k.ok.nd i j p' q' hp' hq' ?_
    unfold sameRun at hs ⊢
    rw [← e1, ← e2, ← e3, ← f1, ← f2, ← f3]
    exact hs
  · obtain ⟨p, hp, e1, e2, e3, a1, a2⟩ := each q hq
    have g := (k.g p hp).2
    exact ⟨po q hq, by rw [e1, e2, e3]; exact g.1, by omega, by rw [e3]; exact g.2.2⟩
  · obtain ⟨p, hp, e1, e2, e3, a1, a2⟩ := each q hq
    rw [e1]
    exact k.f p hp

def RqP (b : Nat) (Dn : Int) : Hp → V → Pt → Prop := fun H v p => ∃ t u r, v = .ref t ∧ H t = some (.tup [.ref u, .ref r]) ∧ RV b H u (rq (p.n, Dn)) ∧ Row H r p.f p.s p.c
theorem rqP_mono {b : Nat} {Dn : Int} : Mono (RqP b Dn) := fun _ _ _ _ k ⟨t, u, r, e, h1, h2, h3⟩ => ⟨t, u, r, e, k _ _ h1, h2.same k, k _ _ h3⟩
/-- anything whose second is a row -/
def RpP : Hp → V → Pt → Prop := fun H v p => ∃ t x r, v = .ref t ∧ H t = some (.tup [x, .ref r]) ∧ Row H r p.f p.s p.c
theorem rpP_mono : Mono RpP := fun _ _ _ _ k ⟨t, x, r, e, h1, h3⟩ => ⟨t, x, r, e, k _ _ h1, k _ _ h3⟩
theorem lat_imp {α : Type} {R S : Hp → V → α → Prop} {H : Hp} {L : Addr} {xs : List α} (h : LAt R H L xs) (k : ∀ v x, R H v x → S H v x) : LAt S H L xs := by
  obtain ⟨vs, h1, h2, h3⟩ := h
  exact ⟨vs, h1, h2, fun i x hx => by
    obtain ⟨v, hv, r⟩ := h3 i x hx
    exact ⟨v, hv, k _ _ r⟩⟩
theorem lat_rp {H : Hp} {L : Addr} {ps : List Pt} (h : LAt RowP H L ps) : LAt RpP H L ps := lat_imp h fun _ _ ⟨t, r, e, h1, h2⟩ => ⟨t, _, r, e, h1, h2⟩
theorem lat_rq {b : Nat} {Dn : Int} {H : Hp} {L : Addr} {ps : List Pt} (h : LAt (RqP b Dn) H L ps) : LAt RpP H L ps := lat_imp h fun _ _ ⟨t, _, r, e, h1, _, h2⟩ => ⟨t, _, r, e, h1, h2⟩
theorem lat_up {b c : Nat} {Dn : Int} {H : Hp} {L : Addr} {ps : List Pt} (h : LAt (RqP b Dn) H L ps) (l : b ≤ c) : LAt (RqP c Dn) H L ps := lat_imp h fun _ _ ⟨t, u, r, e, h1, h2, h3⟩ => ⟨t, u, r, e, h1, h2.up l, h3⟩
theorem rp_keep {H H' : Hp} {L : Addr} {ps : List Pt} {p : Pla} (h : LAt RpP H L ps) (hP : Pool H p) (n : L ≠ p) (k : Keeps H H' p) : LAt RpP H' L ps := by
  obtain ⟨us, h1, h2, h3⟩ := h
  refine ⟨us, k _ _ h1 n, h2, fun i x hx => ?_⟩
  obtain ⟨v, hv, t, y, r, e, ht, hr⟩ := h3 i x hx
  exact ⟨v, hv, t, y, r, e, tup_keep ht hP k, hr.keep k (hr.ne_pool hP)⟩
theorem rq_keep {b : Nat} {Dn : Int} {H H' : Hp} {L : Addr} {ps : List Pt} {p : Pla} (h : LAt (RqP b Dn) H L ps) (hP : Pool H p) (n : L ≠ p) (k : Keeps H H' p) : LAt (RqP b Dn) H' L ps := by
  obtain ⟨us, h1, h2, h3⟩ := h
  refine ⟨us, k _ _ h1 n, h2, fun i x hx => ?_⟩
  obtain ⟨v, hv, t, u, r, e, ht, hu, hr⟩ := h3 i x hx
  exact ⟨v, hv, t, u, r, e, tup_keep ht hP k, hu.keep hP k, hr.keep k (hr.ne_pool hP)⟩
/-- a run that is not too great -/
structure Ru (a : Nat) (p : Pt) : Prop where
  ok : RunOk p.f p.s p.c
  f : p.f.natAbs < 2 ^ (a + 2)
  c : p.c.natAbs < 2 ^ a
theorem Ru.up {a b : Nat} {p : Pt} (h : Ru a p) (l : a ≤ b) : Ru b p := ⟨h.ok, nb_up h.f (by omega), nb_up h.c l⟩
theorem Ru.rb {p : Pt} (h : Ru 105 p) : Rb p.f p.s p.c := by
  obtain ⟨⟨f0, s1, s4, c1⟩, f, c⟩ := h
  exact ⟨f0, s1, c1, by omega, by omega, by omega⟩
theorem Ru.last {p : Pt} (h : Ru 105 p) : 0 ≤ p.f ∧ p.f ≤ lastP p ∧ lastP p < 2 ^ 109 := by
  obtain ⟨⟨f0, s1, s4, c1⟩, fb, cb⟩ := h
  have x := Int.mul_nonneg (show 0 ≤ p.s by omega) (show 0 ≤ p.c - 1 by omega)
  have y := Int.mul_le_mul_of_nonneg_right s4 (show 0 ≤ p.c - 1 by omega)
  have fb : p.f.natAbs < 2 ^ 107 := fb
  unfold lastP
  omega
/-- what is known of weighed rows -/
structure Wk (ps : List Pt) : Prop where
  ok : ∀ p ∈ ps, 1 ≤ p.n ∧ p.n.natAbs < 2 ^ 105 ∧ Ru 104 p
  l1 : 0 < ps.length
  l3 : ps.length ≤ 3
/-- what is known of rows with shares -/
structure Qk (Dn : Int) (ps : List Pt) : Prop where
  d0 : 0 < Dn
  db : Dn.natAbs < 2 ^ 430
  ok : ∀ p ∈ ps, 1 ≤ p.n ∧ Ru 105 p
  sum : sumI (ps.map Pt.n) = Dn
  l1 : 0 < ps.length
  l6 : ps.length ≤ 6
theorem Wk.w {ps : List Pt} (h : Wk ps) : 0 < wsum ps ∧ (wsum ps).natAbs < 2 ^ 107 := by
  have e := sumI_bd (b := 105) (ns := ps.map Pt.n) fun n hn => by
    obtain ⟨p, hp, rfl⟩ := List.mem_map.mp hn
    exact (h.ok p hp).2.1
  rw [List.length_map] at e
  have l := h.l3
  have l1 := h.l1
  have : ps.length * 2 ^ 105 ≤ 3 * 2 ^ 105 := Nat.mul_le_mul_right _ l
  have pos : 0 < wsum ps := by
    have hp : ps[0] ∈ ps := List.getElem_mem _
    have := mem_le_sum (fun p hp => (h.ok p hp).1) ps[0] hp
    have := (h.ok _ hp).1
    unfold wsum
    omega
  refine ⟨pos, ?_⟩
  unfold wsum
  omega
theorem Wk.qk {ps : List Pt} (h : Wk ps) : Qk (wsum ps) ps := ⟨h.w.1, ub h.w.2 (by decide), fun p hp => ⟨(h.ok p hp).1, (h.ok p hp).2.2.up (by decide)⟩, rfl, h.l1, by have := h.l3; omega⟩
section
variable {P : Program} {w : World} {K : PySem.W.Frag} {mg : Str → Option Value} {base : Heap}
def spRunB : Sp := fun vs H Q _ => ∃ (p : Pla) (b : Bool), vs = [.ref p, .bl b] ∧ Pool H p ∧ ∀ (t : Addr) (f s c : Int) (H' : Hp), Pool H' p → Keeps H H' p → Row H' t f s c → (RowOk f s c ∧ f < 10 ^ 31 ∧ c ≤ 10 ^ 31 ∧ (b = false → f ≤ 8 ∧ c ≤ 7)) → Q (.ref t) H'
theorem ok_runB (B : Blt mg) (C_draw : CalDrawA P w K mg base) (C_wide : CalWide P w K mg base) (Df : Dfn K mg "_law_run" "_law_run" s_run ["_law_pool_here", "_law_wide_here"]) : Cal P w K mg base 4 "_law_run" ["_law_pool_here", "_law_wide_here"] spRunB := by
  refine Df.cal sc_run (fun vs H Q E h => ?_) (fun fA cdv A outer st H vs Q E hr h => ?_)
  · obtain ⟨p, b, rfl, _⟩ := h
    rfl
  · obtain ⟨p, b, rfl, hP, k⟩ := h
    cases b with
    | false =>
      have W := Wd.nil hP
      have S := Keeps.refl H p.p
      refine ⟨_, (pss_cons (ps_set (i := 2) sc_run.nd rfl (Or.inl rfl) (pe_cal C_draw (hr.mono (by decide)) (pa_cons (pv 0) (pa_cons (pe_int) pa_nil))))
        (pss_cons (ps_set (i := 3) sc_run.nd rfl (Or.inl rfl) (pe_op op_add (pe_int) (pe_cal C_draw (hr.mono (by decide)) (pa_cons (pv 0) (pa_cons (pe_int) pa_nil)))))
        (pss_cons (ps_if (PW.pt (pw_and (pt_val (pv 1)) (pw_and1 (pt_cmpR op_eq (pe_cal C_draw (hr.mono (by decide)) (pa_cons (pv 0) (pa_cons (pe_int) pa_nil))) (pe_int) (nomark _))))) (pss_one (ps_set (i := 2) sc_run.nd rfl (Or.inl rfl) (pe_cal C_wide (hr.mono (by decide)) (pa_cons (pv 0) pa_nil)))) pss_nil)
        (pss_cons (ps_if (PW.pt (pw_and (pt_val (pv 1)) (pw_and1 (pt_cmpR op_eq (pe_cal C_draw (hr.mono (by decide)) (pa_cons (pv 0) (pa_cons (pe_int) pa_nil))) (pe_int) (nomark _))))) (pss_one (ps_set (i := 3) sc_run.nd rfl (Or.inl rfl) (pe_op op_add (pe_int) (pe_cal C_wide (hr.mono (by decide)) (pa_cons (pv 0) pa_nil))))) pss_nil)
        (pss_cons (ps_set (i := 4) sc_run.nd rfl (Or.inl rfl) (pe_op op_add (pe_int) (pe_cal C_draw (hr.mono (by decide)) (pa_cons (pv 0) (pa_cons (pe_int) pa_nil)))))
        (pss_cons (ps_if (pt_cmpR op_eq (pv 3) (pe_int) (nomark _)) (pss_one (ps_set (i := 4) sc_run.nd rfl (Or.inl rfl) (pe_int))) pss_nil)
        (pss_one (ps_ret (pe_tup (pa_cons (pv 2) (pa_cons (pv 4) (pa_cons (pv 3) pa_nil)))))))))))), ?_⟩
      refine ⟨_, rfl, p, 9, rfl, W.P, by decide, by decide, fun r1 H2 h0r1 h1r1 hP3 k4 => ?_⟩
      have W := W.keep hP3 k4
      have S := S.trans k4
      refine ⟨_, rfl, p, 7, rfl, W.P, by decide, by decide, fun r5 H6 h0r5 h1r5 hP7 k8 => ?_⟩
      have W := W.keep hP7 k8
      have S := S.trans k8
      refine ⟨_, _, rfl, rfl, _, rfl, _, rfl, iteF ?_⟩
      refine iteF ?_
      refine ⟨_, rfl, _, rfl, iteF ?_⟩
      refine iteF ?_
      refine ⟨_, rfl, p, 4, rfl, W.P, by decide, by decide, fun r9 H10 h0r9 h1r9 hP11 k12 => ?_⟩
      have W := W.keep hP11 k12
      have S := S.trans k12
      refine ⟨_, _, rfl, rfl, _, rfl, rfl, _, rfl, ifE (fun h13 => ?_) (fun h13 => ?_)⟩
      · skip
        refine ⟨_, rfl, _, rfl, _, rfl, (by show 3 ≤ sizeLine; decide), fun t14 ht14 => ?_⟩
        have W := W.new (o := .tup [.int r1, .int 1, .int (1 + r5)]) ht14
        have S := S.trans (same_keeps (same_upd (o := .tup [.int r1, .int 1, .int (1 + r5)]) ht14))
        exact k t14 r1 1 (1 + r5) _ W.P S (W.at (List.Mem.head _)) ⟨⟨⟨by omega, by omega, by omega, by omega⟩, by omega, by omega, fun h => by omega⟩, by omega, by omega, fun _ => ⟨by omega, by omega⟩⟩
      · skip
        refine ⟨_, rfl, _, rfl, _, rfl, (by show 3 ≤ sizeLine; decide), fun t15 ht15 => ?_⟩
        have W := W.new (o := .tup [.int r1, .int (1 + r9), .int (1 + r5)]) ht15
        have S := S.trans (same_keeps (same_upd (o := .tup [.int r1, .int (1 + r9), .int (1 + r5)]) ht15))
        exact k t15 r1 (1 + r9) (1 + r5) _ W.P S (W.at (List.Mem.head _)) ⟨⟨⟨by omega, by omega, by omega, by omega⟩, by omega, by omega, fun h => by omega⟩, by omega, by omega, fun _ => ⟨by omega, by omega⟩⟩
    | true =>
      have W := Wd.nil hP
      have S := Keeps.refl H p.p
      refine ⟨_, (pss_cons (ps_set (i := 2) sc_run.nd rfl (Or.inl rfl) (pe_cal C_draw (hr.mono (by decide)) (pa_cons (pv 0) (pa_cons (pe_int) pa_nil))))
        (pss_cons (ps_set (i := 3) sc_run.nd rfl (Or.inl rfl) (pe_op op_add (pe_int) (pe_cal C_draw (hr.mono (by decide)) (pa_cons (pv 0) (pa_cons (pe_int) pa_nil)))))
        (pss_cons (ps_if (PW.pt (pw_and (pt_val (pv 1)) (pw_and1 (pt_cmpR op_eq (pe_cal C_draw (hr.mono (by decide)) (pa_cons (pv 0) (pa_cons (pe_int) pa_nil))) (pe_int) (nomark _))))) (pss_one (ps_set (i := 2) sc_run.nd rfl (Or.inl rfl) (pe_cal C_wide (hr.mono (by decide)) (pa_cons (pv 0) pa_nil)))) pss_nil)
        (pss_cons (ps_if (PW.pt (pw_and (pt_val (pv 1)) (pw_and1 (pt_cmpR op_eq (pe_cal C_draw (hr.mono (by decide)) (pa_cons (pv 0) (pa_cons (pe_int) pa_nil))) (pe_int) (nomark _))))) (pss_one (ps_set (i := 3) sc_run.nd rfl (Or.inl rfl) (pe_op op_add (pe_int) (pe_cal C_wide (hr.mono (by decide)) (pa_cons (pv 0) pa_nil))))) pss_nil)
        (pss_cons (ps_set (i := 4) sc_run.nd rfl (Or.inl rfl) (pe_op op_add (pe_int) (pe_cal C_draw (hr.mono (by decide)) (pa_cons (pv 0) (pa_cons (pe_int) pa_nil)))))
        (pss_cons (ps_if (pt_cmpR op_eq (pv 3) (pe_int) (nomark _)) (pss_one (ps_set (i := 4) sc_run.nd rfl (Or.inl rfl) (pe_int))) pss_nil)
        (pss_one (ps_ret (pe_tup (pa_cons (pv 2) (pa_cons (pv 4) (pa_cons (pv 3) pa_nil)))))))))))), ?_⟩
      refine ⟨_, rfl, p, 9, rfl, W.P, by decide, by decide, fun r1 H2 h0r1 h1r1 hP3 k4 => ?_⟩
      have W := W.keep hP3 k4
      have S := S.trans k4
      refine ⟨_, rfl, p, 7, rfl, W.P, by decide, by decide, fun r5 H6 h0r5 h1r5 hP7 k8 => ?_⟩
      have W := W.keep hP7 k8
      have S := S.trans k8
      refine ⟨_, _, rfl, rfl, _, rfl, _, rfl, iteT ?_⟩
      refine ⟨_, rfl, p, 2, rfl, W.P, by decide, by decide, fun r9 H10 h0r9 h1r9 hP11 k12 => ?_⟩
      have W := W.keep hP11 k12
      have S := S.trans k12
      refine ⟨rfl, _, rfl, ifE (fun h13 => ?_) (fun h13 => ?_)⟩
      · skip
        refine ⟨_, rfl, p, rfl, W.P, fun r14 H15 h0r14 h1r14 hP16 k17 => ?_⟩
        have W := W.keep hP16 k17
        have S := S.trans k17
        refine ⟨_, rfl, _, rfl, iteT ?_⟩
        refine ⟨_, rfl, p, 2, rfl, W.P, by decide, by decide, fun r18 H19 h0r18 h1r18 hP20 k21 => ?_⟩
        have W := W.keep hP20 k21
        have S := S.trans k21
        refine ⟨rfl, _, rfl, ifE (fun h22 => ?_) (fun h22 => ?_)⟩
        · skip
          refine ⟨_, rfl, p, rfl, W.P, fun r23 H24 h0r23 h1r23 hP25 k26 => ?_⟩
          have W := W.keep hP25 k26
          have S := S.trans k26
          refine ⟨_, _, rfl, rfl, _, rfl, p, 4, rfl, W.P, by decide, by decide, fun r27 H28 h0r27 h1r27 hP29 k30 => ?_⟩
          have W := W.keep hP29 k30
          have S := S.trans k30
          refine ⟨_, _, rfl, rfl, _, rfl, rfl, _, rfl, ifE (fun h31 => ?_) (fun h31 => ?_)⟩
          · skip
            refine ⟨_, rfl, _, rfl, _, rfl, (by show 3 ≤ sizeLine; decide), fun t32 ht32 => ?_⟩
            have W := W.new (o := .tup [.int r14, .int 1, .int (1 + r23)]) ht32
            have S := S.trans (same_keeps (same_upd (o := .tup [.int r14, .int 1, .int (1 + r23)]) ht32))
            exact k t32 r14 1 (1 + r23) _ W.P S (W.at (List.Mem.head _)) ⟨⟨⟨by omega, by omega, by omega, by omega⟩, by omega, by omega, fun h => by omega⟩, by omega, by omega, fun h => by cases h⟩
          · skip
            refine ⟨_, rfl, _, rfl, _, rfl, (by show 3 ≤ sizeLine; decide), fun t33 ht33 => ?_⟩
            have W := W.new (o := .tup [.int r14, .int (1 + r27), .int (1 + r23)]) ht33
            have S := S.trans (same_keeps (same_upd (o := .tup [.int r14, .int (1 + r27), .int (1 + r23)]) ht33))
            exact k t33 r14 (1 + r27) (1 + r23) _ W.P S (W.at (List.Mem.head _)) ⟨⟨⟨by omega, by omega, by omega, by omega⟩, by omega, by omega, fun h => by omega⟩, by omega, by omega, fun h => by cases h⟩
        · skip
          refine ⟨_, rfl, p, 4, rfl, W.P, by decide, by decide, fun r34 H35 h0r34 h1r34 hP36 k37 => ?_⟩
          have W := W.keep hP36 k37
          have S := S.trans k37
          refine ⟨_, _, rfl, rfl, _, rfl, rfl, _, rfl, ifE (fun h38 => ?_) (fun h38 => ?_)⟩
          · skip
            refine ⟨_, rfl, _, rfl, _, rfl, (by show 3 ≤ sizeLine; decide), fun t39 ht39 => ?_⟩
            have W := W.new (o := .tup [.int r14, .int 1, .int (1 + r5)]) ht39
            have S := S.trans (same_keeps (same_upd (o := .tup [.int r14, .int 1, .int (1 + r5)]) ht39))
            exact k t39 r14 1 (1 + r5) _ W.P S (W.at (List.Mem.head _)) ⟨⟨⟨by omega, by omega, by omega, by omega⟩, by omega, by omega, fun h => by omega⟩, by omega, by omega, fun h => by cases h⟩
          · skip
            refine ⟨_, rfl, _, rfl, _, rfl, (by show 3 ≤ sizeLine; decide), fun t40 ht40 => ?_⟩
            have W := W.new (o := .tup [.int r14, .int (1 + r34), .int (1 + r5)]) ht40
            have S := S.trans (same_keeps (same_upd (o := .tup [.int r14, .int (1 + r34), .int (1 + r5)]) ht40))
            exact k t40 r14 (1 + r34) (1 + r5) _ W.P S (W.at (List.Mem.head _)) ⟨⟨⟨by omega, by omega, by omega, by omega⟩, by omega, by omega, fun h => by omega⟩, by omega, by omega, fun h => by cases h⟩
      · skip
        refine ⟨_, rfl, _, rfl, iteT ?_⟩
        refine ⟨_, rfl, p, 2, rfl, W.P, by decide, by decide, fun r41 H42 h0r41 h1r41 hP43 k44 => ?_⟩
        have W := W.keep hP43 k44
        have S := S.trans k44
        refine ⟨rfl, _, rfl, ifE (fun h45 => ?_) (fun h45 => ?_)⟩
        · skip
          refine ⟨_, rfl, p, rfl, W.P, fun r46 H47 h0r46 h1r46 hP48 k49 => ?_⟩
          have W := W.keep hP48 k49
          have S := S.trans k49
          refine ⟨_, _, rfl, rfl, _, rfl, p, 4, rfl, W.P, by decide, by decide, fun r50 H51 h0r50 h1r50 hP52 k53 => ?_⟩
          have W := W.keep hP52 k53
          have S := S.trans k53
          refine ⟨_, _, rfl, rfl, _, rfl, rfl, _, rfl, ifE (fun h54 => ?_) (fun h54 => ?_)⟩
          · skip
            refine ⟨_, rfl, _, rfl, _, rfl, (by show 3 ≤ sizeLine; decide), fun t55 ht55 => ?_⟩
            have W := W.new (o := .tup [.int r1, .int 1, .int (1 + r46)]) ht55
            have S := S.trans (same_keeps (same_upd (o := .tup [.int r1, .int 1, .int (1 + r46)]) ht55))
            exact k t55 r1 1 (1 + r46) _ W.P S (W.at (List.Mem.head _)) ⟨⟨⟨by omega, by omega, by omega, by omega⟩, by omega, by omega, fun h => by omega⟩, by omega, by omega, fun h => by cases h⟩
          · skip
            refine ⟨_, rfl, _, rfl, _, rfl, (by show 3 ≤ sizeLine; decide), fun t56 ht56 => ?_⟩
            have W := W.new (o := .tup [.int r1, .int (1 + r50), .int (1 + r46)]) ht56
            have S := S.trans (same_keeps (same_upd (o := .tup [.int r1, .int (1 + r50), .int (1 + r46)]) ht56))
            exact k t56 r1 (1 + r50) (1 + r46) _ W.P S (W.at (List.Mem.head _)) ⟨⟨⟨by omega, by omega, by omega, by omega⟩, by omega, by omega, fun h => by omega⟩, by omega, by omega, fun h => by cases h⟩
        · skip
          refine ⟨_, rfl, p, 4, rfl, W.P, by decide, by decide, fun r57 H58 h0r57 h1r57 hP59 k60 => ?_⟩
          have W := W.keep hP59 k60
          have S := S.trans k60
          refine ⟨_, _, rfl, rfl, _, rfl, rfl, _, rfl, ifE (fun h61 => ?_) (fun h61 => ?_)⟩
          · skip
            refine ⟨_, rfl, _, rfl, _, rfl, (by show 3 ≤ sizeLine; decide), fun t62 ht62 => ?_⟩
            have W := W.new (o := .tup [.int r1, .int 1, .int (1 + r5)]) ht62
            have S := S.trans (same_keeps (same_upd (o := .tup [.int r1, .int 1, .int (1 + r5)]) ht62))
            exact k t62 r1 1 (1 + r5) _ W.P S (W.at (List.Mem.head _)) ⟨⟨⟨by omega, by omega, by omega, by omega⟩, by omega, by omega, fun h => by omega⟩, by omega, by omega, fun h => by cases h⟩
          · skip
            refine ⟨_, rfl, _, rfl, _, rfl, (by show 3 ≤ sizeLine; decide), fun t63 ht63 => ?_⟩
            have W := W.new (o := .tup [.int r1, .int (1 + r57), .int (1 + r5)]) ht63
            have S := S.trans (same_keeps (same_upd (o := .tup [.int r1, .int (1 + r57), .int (1 + r5)]) ht63))
            exact k t63 r1 (1 + r57) (1 + r5) _ W.P S (W.at (List.Mem.head _)) ⟨⟨⟨by omega, by omega, by omega, by omega⟩, by omega, by omega, fun h => by omega⟩, by omega, by omega, fun h => by cases h⟩

def spPartsB : Sp := fun vs H Q _ => ∃ (p : Pla) (M : Int) (b : Bool), vs = [.ref p, .int M, .bl b] ∧ Pool H p ∧ 1 ≤ M ∧ M ≤ 9 ∧ ∀ (L : Addr) (ps : List Pt) (H' : Hp), Pool H' p → Keeps H H' p → L ≠ p → LAt RowP H' L ps → PsOk ps → (∀ x ∈ ps, PBd b x) → ps.length ≤ M.toNat → Q (.ref L) H'
theorem ok_partsB (B : Blt mg) (C_draw : CalDrawA P w K mg base) (C_run : Cal P w K mg base 4 "_law_run" ["_law_pool_here", "_law_wide_here"] spRunB) (Df : Dfn K mg "_law_parts" "_law_parts" s_parts ["_law_pool_here", "_law_most", "_law_wide_here"]) : Cal P w K mg base 6 "_law_parts" ["_law_pool_here", "_law_most", "_law_wide_here"] spPartsB := by
  refine Df.cal sc_parts (fun vs H Q E h => ?_) (fun fA cdv A outer st H vs Q E hr h => ?_)
  · obtain ⟨p, M, b, rfl, _⟩ := h
    rfl
  · obtain ⟨p, M, b, rfl, hP, M1, M6, q⟩ := h
    refine ⟨_, (pss_cons (ps_set (i := 3) sc_parts.nd rfl (Or.inl rfl) (pe_lst pa_nil))
      (pss_cons (ps_for PassesOwn.never rfl (pi_range1 (by rfl) B.range (pa_cons (pe_op op_add (pe_int) (pe_cal C_draw (hr.mono (by decide)) (pa_cons (pv 0) (pa_cons (pv 1) pa_nil)))) pa_nil)) (pg_name (i := 4) sc_parts.nd rfl (Or.inl rfl)) (pss_cons (ps_set (i := 5) sc_parts.nd rfl (Or.inl rfl) (pe_op op_add (pe_int) (pe_cal C_draw (hr.mono (by decide)) (pa_cons (pv 0) (pa_cons (pe_int) pa_nil)))))
      (pss_cons (ps_set (i := 6) sc_parts.nd rfl (Or.inr rfl) (pe_cal C_run (hr.mono (by decide)) (pa_cons (pv 0) (pa_cons (pv 2) pa_nil))))
      (pss_one (ps_if (pt_not (pt_truth (pe_lc (own := [("_law_part", 7)]) (g := (gName 7)) rfl sc_parts.nd (pi_list (pv 3)) (blkOk_by (N := ["_law_pool_here", "_law_most", "_law_wide_here", "_law_parts_here", "_law_spare", "_law_weight", "_law_row", "_law_part"]) (sc := defScope s_parts) (by decide +kernel)) (fun _ _ _ _ _ => (pg_name (i := 7) sc_parts.nd rfl (Or.inl rfl))) (fun _ _ _ _ _ => (pts_one (pt_cmpR (show OpR _ _ (rEqD K) from op_eqD hr.units) (pe_ix (show IxR _ (rIxT K) from ix_tup) (pv 7) (pe_int) (fun _ _ => rfl)) (pv 6) (nomark _)))) (fun _ _ _ _ _ => (pv 7))) (fun _ => rfl))) (pss_one ((ps_expr (pe_bm PySem.F.plainAttrs_list PySem.F.slot_list_append PySem.F.type_list_append mt_append (pv 3) (pa_cons (pe_tup (pa_cons (pv 5) (pa_cons (pv 6) pa_nil))) pa_nil))))) pss_nil)))))
      (pss_one (ps_ret (pv 3))))), ?_⟩
    refine ⟨(by show 0 ≤ sizeLine; decide), fun l hl => ?_⟩
    have hP0 := hP.upd (o := .lst []) hl
    have lp := hP.apart hl
    refine ⟨_, rfl, _, rfl, p, M, rfl, hP0, by omega, by omega, fun r6 H1 h0r h1r hP1 k1 => ?_⟩
    have hl1 : H1 l = some (.lst []) := k1 _ _ upd_same lp.1
    have K1 : Keeps H H1 p := (same_keeps (same_upd hl)).trans k1
    refine ⟨_, _, rfl, rfl, _, rfl, by omega, by omega, for_range (n := (1 + r6).toNat) (fun i σ' H' => ∃ (ps : List Pt) (o3 o4 o5 o6 : Option V), LAt RowP H' l ps ∧ BagB b i ps ∧ Pool H' p ∧ Keeps H H' p ∧ σ' = [some (.ref (p : Addr)), some (.int M), some (.bl b), some (.ref l), o3, o4, o5, o6])
      ⟨[], none, none, none, none, ⟨[], hl1, rfl, fun i x h => by simp at h⟩, ⟨⟨Nat.le_refl 0, fun h => absurd h (by omega), (fun _ h => nomatch h), (fun i j p q h => by simp at h), by decide⟩, fun _ h => nomatch h⟩, hP1, K1, rfl⟩ ?_ ?_⟩
    · rintro i σ' H2 hi ⟨ps, o3, o4, o5, o6, hL, bag, hP2, k2, rfl⟩
      refine ⟨_, rfl, p, 9, rfl, hP2, by decide, by decide, fun w0 H3 w00 w01 hP3 k3 => ⟨_, _, rfl, rfl, ?_⟩⟩
      have hL3 := rows_keep hL hP2 lp.1 k3
      obtain ⟨w, hw⟩ : ∃ w, w = 1 + w0 := ⟨_, rfl⟩
      show gName 5 (V.int (1 + w0)) _ _ _
      rw [← hw]
      have w1 : 1 ≤ w := by omega
      have w2 : w ≤ 9 := by omega
      have hL4 := hL3
      have hP4 := hP3
      have k4 := k2.trans k3
      refine ⟨_, rfl, _, rfl, p, b, rfl, hP4, fun t f s c H5 hP5 k5 hrow hok => ?_⟩
      have hL5 := rows_keep hL4 hP4 lp.1 k5
      have hrow' : H5 t = some (.tup [.int f, .int s, .int c]) := hrow
      obtain ⟨us, hus, hlen, hall⟩ := id hL5
      have i6 : i < 9 := by omega
      refine ⟨_, rfl, l, rfl, ⟨_, SqL.of hus⟩, fun D1 hD1 => lc_list (xs := us) (fun j H' => Same H5 H' ∧ ∃ acc : List V, H' D1 = some (.lst acc) ∧ acc.length ≤ j ∧ (acc.isEmpty = !((ps.take j).any fun q => sameRun q ⟨w, f, s, c⟩)))
        ⟨same_upd hD1, [], upd_same, Nat.le_refl 0, rfl⟩ (fun j H' _ h => SqL.of (h.1 _ _ hus)) ?_ ?_⟩
      · rintro j x H6 hx ⟨s6, acc, hacc, hle, hem⟩
        obtain ⟨qq, hq⟩ := item hlen hx
        obtain ⟨x', hx', t2, r2, rfl, ht2, hr2⟩ := hall j qq hq
        rw [hx] at hx'
        cases hx'
        have jl := (List.getElem?_eq_some_iff.mp hx).1
        have hl6 := bag.bag.le
        have sz : (9 : Nat) ≤ sizeLine := by decide
        have ht6 := s6 _ _ ht2
        have hr6 : H6 r2 = some (.tup [.int qq.f, .int qq.s, .int qq.c]) := s6 _ _ hr2
        have e1 : ((ps.take (j + 1)).any fun q => sameRun q ⟨w, f, s, c⟩) = (((ps.take j).any fun q => sameRun q ⟨w, f, s, c⟩) || sameRun qq ⟨w, f, s, c⟩) := by
          rw [take_snoc hq, List.any_append, List.any_cons, List.any_nil, Bool.or_false]
        refine ⟨rfl, ?_⟩
        refine ⟨_, rfl, _, _, _, _, rfl, rfl, SqT.of (ht6), rfl, _, rfl, .tuple [.int qq.f, .int qq.s, .int qq.c], .tuple [.int f, .int s, .int c], .tup (SqT.of hr6) (.cons (.int _) (.cons (.int _) (.cons (.int _) .nil))), .tup (SqT.of (s6 _ _ hrow')) (.cons (.int _) (.cons (.int _) (.cons (.int _) .nil))), rfl, rfl, _, rfl, ?_⟩
        rw [row_eqv]
        cases hb : sameRun qq ⟨w, f, s, c⟩ with
        | true =>
          have hb' : (decide (qq.f = f) && decide (qq.s = s) && decide (qq.c = c)) = true := hb
          rw [hb']
          refine iteT ?_
          refine ⟨_, rfl, acc, hacc, by omega, same_late s6 hD1, _, upd_same, by rw [List.length_append]; show _ + 1 ≤ _; omega, ?_⟩
          rw [e1, hb, Bool.or_true]
          cases acc <;> rfl
        | false =>
          have hb' : (decide (qq.f = f) && decide (qq.s = s) && decide (qq.c = c)) = false := hb
          rw [hb']
          refine iteF ?_
          exact ⟨s6, acc, hacc, by omega, by rw [e1, hb, Bool.or_false]; exact hem⟩
      · rintro H6 ⟨s6, acc, hacc, hle, hem⟩
        rw [hlen, List.take_length] at hem
        refine ⟨_, .inl ⟨acc, SqL.of hacc, rfl⟩, ?_⟩
        have hus6 := s6 _ _ hus
        have K6 := (k4.trans k5).trans (same_keeps s6)
        have hP6 := hP5.same s6
        cases hb : (ps.any fun q => sameRun q ⟨w, f, s, c⟩) with
        | true =>
          rw [hb] at hem
          rw [hem]
          refine iteF ?_
          have l0 : 0 < ps.length := by
            rw [List.any_eq_true] at hb
            obtain ⟨q, hq, _⟩ := hb
            exact List.length_pos_of_mem hq
          exact ⟨ps, _, _, _, _, hL5.same rowP_mono s6, ⟨bag.bag.skip l0, bag.bd⟩, hP6, K6, rfl⟩
        | false =>
          rw [hb] at hem
          rw [hem]
          refine iteT ?_
          refine ⟨_, rfl, .inl ⟨rfl, _, SqL.of hus6⟩, _, rfl, _, rfl, (by show 2 ≤ sizeLine; decide), fun tn htn => ?_⟩
          have sn := same_upd (o := .tup [.int w, .ref t]) htn
          have hus7 := sn _ _ hus6
          have ul : us.length < sizeLine := by
            have : (9 : Nat) ≤ sizeLine := by decide
            have := bag.bag.le
            omega
          refine ⟨l, us, _, rfl, rfl, hus7, ul, ?_⟩
          refine ⟨ps ++ [⟨w, f, s, c⟩], _, _, _, _, rows_add hus7 hlen (fun i x hx => ?_) ⟨tn, t, rfl, upd_same, (s6.trans sn) _ _ hrow'⟩, bag.add ⟨w1, show w ≤ 10 ^ 60 by omega, hok.1⟩ hb ⟨w2, hok.2.1, hok.2.2.1, hok.2.2.2⟩, (hP6.same sn).store lp.1 lp.2, ?_, rfl⟩
          · obtain ⟨v, hv, r⟩ := hall i x hx
            exact ⟨v, hv, rowP_mono _ _ _ _ (s6.trans sn) r⟩
          · exact keeps_late (K6.trans (same_keeps sn)) hl
    · rintro σ' H2 ⟨ps, o3, o4, o5, o6, hL, bag, hP2, k2, rfl⟩
      exact ⟨_, rfl, q l ps H2 hP2 k2 lp.1 hL (bag.bag.ps (by omega) (by omega)) bag.bd (by have := bag.bag.le; omega)⟩
def spHeavy : Sp := fun vs H Q _ => ∃ (p : Pla) (L : Addr) (ps : List Pt), vs = [.ref p, .ref L] ∧ Pool H p ∧ LAt RowP H L ps ∧ L ≠ p ∧ Pk ps ∧ ∀ (M : Addr) (qs : List Pt) (H' : Hp), Pool H' p → Keeps H H' p → M ≠ p → LAt RowP H' M qs → Pk qs → (qs = ps ∨ Hv ps qs) → Q (.ref M) H'
theorem ok_heavy (B : Blt mg) (C_draw : CalDrawA P w K mg base) (C_wide : CalWide P w K mg base) (Df : Dfn K mg "_law_heavy" "_law_heavy" s_heavy ["_law_pool_here", "_law_parts_here"]) : Cal P w K mg base 4 "_law_heavy" ["_law_pool_here", "_law_parts_here"] spHeavy := by
  refine Df.cal sc_heavy (fun vs H Q E h => ?_) (fun fA cdv A outer st H vs Q E hr h => ?_)
  · obtain ⟨p, L, ps, rfl, _⟩ := h
    rfl
  · obtain ⟨p, L, ps, rfl, hP, hL, nL, pk, q⟩ := h
    refine ⟨_, (pss_cons (ps_if (pt_cmpR op_ne (pe_cal C_draw (hr.mono (by decide)) (pa_cons (pv 0) (pa_cons (pe_int) pa_nil))) (pe_int) (nomark _)) (pss_one (ps_ret (pv 1))) pss_nil)
      (pss_one (ps_ret (pe_lc (own := [("_law_part", 2)]) (g := gName 2) rfl sc_heavy.nd (pi_list (pv 1)) (blkOk_by (N := ["_law_pool_here", "_law_parts_here", "_law_part"]) (sc := defScope s_heavy) (by decide +kernel)) (fun _ _ _ _ _ => pg_name (i := 2) sc_heavy.nd rfl (Or.inl rfl)) (fun _ _ _ _ _ => pts_nil) (fun _ _ _ _ _ => (pe_tup (pa_cons (pe_op op_add (pe_int) (pe_cal C_wide (hr.mono (by decide)) (pa_cons (pv 0) pa_nil))) (pa_cons (pe_ix (show IxR _ (rIxT K) from ix_tup) (pv 2) (pe_int) (fun _ _ => rfl)) pa_nil)))))))), ?_⟩
    refine ⟨_, rfl, p, 3, rfl, hP, by decide, by decide, fun r H1 r0 r1 hP1 k1 => ?_⟩
    have hL1 := rows_keep hL hP nL k1
    refine ⟨rfl, _, rfl, ifNE (fun _ => ?_) (fun _ => ?_)⟩
    · exact ⟨_, rfl, q L ps H1 hP1 k1 nL hL1 pk (.inl rfl)⟩
    obtain ⟨us, hus, hlen, hall⟩ := id hL1
    have l9 := pk.l9
    have sz : (1000 : Nat) ≤ sizeLine := by decide
    refine ⟨_, rfl, L, rfl, ⟨_, SqL.of hus⟩, fun D hD => lc_list (xs := us) (fun j H' => Pool H' p ∧ Keeps H1 H' p ∧ ∃ (qs : List Pt), LAt RowP H' D qs ∧ Hv (ps.take j) qs)
      ⟨hP1.upd hD, same_keeps (same_upd hD), [], ⟨[], upd_same, rfl, fun i x h => by simp at h⟩, .nil⟩ (fun j H' _ h => SqL.of (h.2.1 _ _ hus (by intro e; rw [e] at hus; obtain ⟨_, _, _, _, _, hh, _⟩ := hP1; exact nL e))) ?_ ?_⟩
    · rintro j x H2 hx ⟨hP2, k2, qs, hR, hv⟩
      have nD := hP1.apart hD
      obtain ⟨pp, hpp⟩ := item hlen hx
      have jl := (List.getElem?_eq_some_iff.mp hx).1
      refine ⟨rfl, ?_⟩
      refine ⟨_, rfl, p, rfl, hP2, fun a H3 a0 a1 hP3 k3 => ⟨_, _, rfl, rfl, ?_⟩⟩
      have hR3 := rows_keep hR hP2 nD.1 k3
      obtain ⟨us3, hus3, hlen3, hall3⟩ := rows_keep hL1 hP1 nL (k2.trans k3)
      obtain ⟨x', hx', t2, r2, rfl, ht2, hr2⟩ := hall j pp hpp
      rw [hx] at hx'
      cases hx'
      have ht2 := tup_keep ht2 hP1 (k2.trans k3)
      have hr2 : H3 r2 = some (.tup [.int pp.f, .int pp.s, .int pp.c]) := tup_keep hr2 hP1 (k2.trans k3)
      refine ⟨_, rfl, _, _, _, _, rfl, rfl, SqT.of (ht2), rfl, (by show 2 ≤ sizeLine; decide), fun z hz => ?_⟩
      have sz2 := same_upd (o := .tup [.int (1 + a), .ref r2]) hz
      obtain ⟨vs, hvs, hl, ha⟩ := hR3.same rowP_mono sz2
      have e := hv.len
      rw [List.length_take] at e
      refine ⟨vs, hvs, by omega, (hP3.same sz2).store nD.1 nD.2, keeps_late ((k2.trans k3).trans (same_keeps sz2)) hD, qs ++ [⟨1 + a, pp.f, pp.s, pp.c⟩], rows_add hvs hl ha ⟨z, r2, rfl, upd_same, sz2 _ _ hr2⟩, ?_⟩
      rw [take_snoc hpp]
      exact .snoc hv (by omega) (by omega)
    · rintro H2 ⟨hP2, k2, qs, hR, hv⟩
      rw [hlen, List.take_length] at hv
      exact q D qs H2 hP2 (k1.trans k2) (hP1.apart hD).1 hR (hv.pk pk) (.inr hv)

def spNear : Sp := fun vs H Q _ => ∃ (p : Pla) (L : Addr) (ps : List Pt), vs = [.ref p, .ref L] ∧ Pool H p ∧ LAt RpP H L ps ∧ L ≠ p ∧ (∀ x ∈ ps, Ru 105 x) ∧ 0 < ps.length ∧ ps.length ≤ 12 ∧ ∀ (y : Int) (H' : Hp), Pool H' p → Keeps H H' p → 0 ≤ y → y < 2 ^ 109 + 4 → Q (.int y) H'
theorem ok_near (B : Blt mg) (C_draw : CalDrawA P w K mg base) (C_wide : CalWide P w K mg base) (C_last : Cal P w K mg base 1 "_law_last" ["_law_row"] spLast3) (Df : Dfn K mg "_law_near" "_law_near" s_near ["_law_pool_here", "_law_parts_here"]) : Cal P w K mg base 5 "_law_near" ["_law_pool_here", "_law_parts_here"] spNear := by
  refine Df.cal sc_near (fun vs H Q E h => ?_) (fun fA cdv A outer st H vs Q E hr h => ?_)
  · obtain ⟨p, L, ps, rfl, _⟩ := h
    rfl
  · obtain ⟨p, L, ps, rfl, hP, hL, nL, ru, l1, l9, q⟩ := h
    refine ⟨_, (pss_cons (ps_set (i := 2) sc_near.nd rfl (Or.inl rfl) (pe_ix ix_list (pv 1) (pe_cal C_draw (hr.mono (by decide)) (pa_cons (pv 0) (pa_cons (pe_callB call_len_seq (by rfl) B.len PySem.boot_len (pa_cons (pv 1) pa_nil)) pa_nil))) (fun _ _ => rfl)))
      (pss_cons (ps_set (i := 3) sc_near.nd rfl (Or.inl rfl) (pe_cal C_draw (hr.mono (by decide)) (pa_cons (pv 0) (pa_cons (pe_int) pa_nil))))
      (pss_cons (ps_if (pt_cmpR op_eq (pv 3) (pe_int) (nomark _)) (pss_one (ps_ret (pe_cal C_wide (hr.mono (by decide)) (pa_cons (pv 0) pa_nil)))) pss_nil)
      (pss_cons (ps_if (pt_cmpR op_eq (pv 3) (pe_int) (nomark _)) (pss_one (ps_ret (pe_op op_add (pe_ix ix_tup (pe_ix ix_tup (pv 2) (pe_int) (fun _ _ => rfl)) (pe_int) (fun _ _ => rfl)) (pe_cal C_draw (hr.mono (by decide)) (pa_cons (pv 0) (pa_cons (pe_int) pa_nil)))))) pss_nil)
      (pss_cons (ps_if (pt_cmpR op_eq (pv 3) (pe_int) (nomark _)) (pss_one (ps_ret (pe_op op_add (pe_cal C_last (hr.mono (by decide)) (pa_cons (pe_ix ix_tup (pv 2) (pe_int) (fun _ _ => rfl)) pa_nil)) (pe_cal C_draw (hr.mono (by decide)) (pa_cons (pv 0) (pa_cons (pe_int) pa_nil)))))) pss_nil)
      (pss_one (ps_ret (pe_op op_add (pe_ix ix_tup (pe_ix ix_tup (pv 2) (pe_int) (fun _ _ => rfl)) (pe_int) (fun _ _ => rfl)) (pe_op op_modN (pe_callTy call_int1 (by rfl) B.int (by decide +kernel) (pa_cons (pe_cal C_wide (hr.mono (by decide)) (pa_cons (pv 0) pa_nil)) pa_nil)) (pe_op op_add (pe_op op_sub (pe_cal C_last (hr.mono (by decide)) (pa_cons (pe_ix ix_tup (pv 2) (pe_int) (fun _ _ => rfl)) pa_nil)) (pe_ix ix_tup (pe_ix ix_tup (pv 2) (pe_int) (fun _ _ => rfl)) (pe_int) (fun _ _ => rfl))) (pe_int))))))))))), ?_⟩
    obtain ⟨us, hus, hlen, hall⟩ := id hL
    refine ⟨_, rfl, _, rfl, _, rfl, _, _, rfl, .inl (SqL.of hus), p, _, rfl, hP, by omega, by omega, fun r H1 r0 r1 hP1 k1 => ?_⟩
    have hL1 := rp_keep hL hP nL k1
    obtain ⟨us1, hus1, hlen1, hall1⟩ := id hL1
    obtain ⟨i, rfl⟩ : ∃ i : Nat, r = i := ⟨r.toNat, by omega⟩
    have il : i < ps.length := by omega
    have hp : ps[i]? = some ps[i] := List.getElem?_eq_getElem il
    generalize ps[i] = pt at hp
    obtain ⟨v, hv, t, xx, rr, rfl, ht, hr'⟩ := hall1 i pt hp
    have hr' : H1 rr = some (.tup [.int pt.f, .int pt.s, .int pt.c]) := hr'
    have lst := (ru pt (mem_at hp)).last
    have rb := (ru pt (mem_at hp)).rb
    refine ⟨_, _, _, _, rfl, rfl, SqL.of hus1, at_of (j := i) (by omega) hv, ?_⟩
    refine ⟨_, rfl, p, 4, rfl, hP1, by decide, by decide, fun w0 H2 w00 w01 hP2 k2 => ?_⟩
    have ht2 : H2 t = some (.tup [xx, .ref rr]) := tup_keep ht hP1 k2
    have hr2 : H2 rr = some (.tup [.int pt.f, .int pt.s, .int pt.c]) := tup_keep hr' hP1 k2
    have k12 := k1.trans k2
    have la : pt.f + pt.s * (pt.c - 1) = lastP pt := rfl
    refine ⟨_, rfl, rfl, _, rfl, ifE (fun _ => ?_) (fun _ => ?_)⟩
    · exact ⟨_, rfl, p, rfl, hP2, fun a H3 a0 a1 hP3 k3 => q a H3 hP3 (k12.trans k3) a0 (by omega)⟩
    refine ⟨_, rfl, rfl, _, rfl, ifE (fun _ => ?_) (fun _ => ?_)⟩
    · exact ⟨_, rfl, _, _, _, _, rfl, rfl, SqT.of (ht2), rfl, _, _, _, _, rfl, rfl, SqT.of (hr2), rfl, _, rfl, p, 3, rfl, hP2, by decide, by decide, fun a H3 a0 a1 hP3 k3 => ⟨_, _, rfl, rfl, q _ H3 hP3 (k12.trans k3) (by omega) (by omega)⟩⟩
    refine ⟨_, rfl, rfl, _, rfl, ifE (fun _ => ?_) (fun _ => ?_)⟩
    · refine ⟨_, rfl, _, _, _, _, rfl, rfl, SqT.of (ht2), rfl, rr, pt.f, pt.s, pt.c, rfl, hr2, rb, ?_⟩
      rw [la]
      exact ⟨_, rfl, p, 3, rfl, hP2, by decide, by decide, fun a H3 a0 a1 hP3 k3 => ⟨_, _, rfl, rfl, q _ H3 hP3 (k12.trans k3) (by omega) (by omega)⟩⟩
    refine ⟨_, rfl, _, _, _, _, rfl, rfl, SqT.of (ht2), rfl, _, _, _, _, rfl, rfl, SqT.of (hr2), rfl, _, rfl, p, rfl, hP2, fun a H3 a0 a1 hP3 k3 => ?_⟩
    have ht3 : H3 t = some (.tup [xx, .ref rr]) := tup_keep ht2 hP2 k3
    have hr3 : H3 rr = some (.tup [.int pt.f, .int pt.s, .int pt.c]) := tup_keep hr2 hP2 k3
    refine .inl ⟨a, rfl, ?_⟩
    refine ⟨_, rfl, _, _, _, _, rfl, rfl, SqT.of (ht3), rfl, rr, pt.f, pt.s, pt.c, rfl, hr3, rb, ?_⟩
    rw [la]
    refine ⟨_, rfl, _, _, _, _, rfl, rfl, SqT.of (ht3), rfl, _, _, _, _, rfl, rfl, SqT.of (hr3), rfl, ?_⟩
    have m0 := Int.fmod_nonneg_of_pos a (show 0 < lastP pt - pt.f + 2 by omega)
    have m1 := Int.fmod_lt_of_pos a (show 0 < lastP pt - pt.f + 2 by omega)
    exact ⟨_, _, rfl, rfl, _, _, rfl, rfl, _, _, rfl, rfl, by omega, _, _, rfl, rfl, q _ H3 hP3 (k12.trans k3) (by omega) (by omega)⟩

def spSpot : Sp := fun vs H Q _ => ∃ (p : Pla) (L : Addr) (ps : List Pt), vs = [.ref p, .ref L] ∧ Pool H p ∧ LAt RpP H L ps ∧ L ≠ p ∧ (∀ x ∈ ps, Ru 105 x) ∧ 0 < ps.length ∧ ps.length ≤ 12 ∧ ∀ (y : Int) (H' : Hp), Pool H' p → Keeps H H' p → 0 ≤ y → y < 2 ^ 120 → Q (.int y) H'
theorem ok_spot (C_draw : CalDrawA P w K mg base) (C_near : Cal P w K mg base 5 "_law_near" ["_law_pool_here", "_law_parts_here"] spNear) (Df : Dfn K mg "_law_spot" "_law_spot" s_spot ["_law_pool_here", "_law_parts_here"]) : Cal P w K mg base 6 "_law_spot" ["_law_pool_here", "_law_parts_here"] spSpot := by
  refine Df.cal sc_spot (fun vs H Q E h => ?_) (fun fA cdv A outer st H vs Q E hr h => ?_)
  · obtain ⟨p, L, ps, rfl, _⟩ := h
    rfl
  · obtain ⟨p, L, ps, rfl, hP, hL, nL, ru, l1, l9, q⟩ := h
    refine ⟨_, (pss_cons (ps_set (i := 2) sc_spot.nd rfl (Or.inl rfl) (pe_cal C_near (hr.mono (by decide)) (pa_cons (pv 0) (pa_cons (pv 1) pa_nil))))
      (pss_cons (ps_if (pt_cmpR op_eq (pe_cal C_draw (hr.mono (by decide)) (pa_cons (pv 0) (pa_cons (pe_int) pa_nil))) (pe_int) (nomark _)) (pss_one (ps_set (i := 2) sc_spot.nd rfl (Or.inl rfl) (pe_op op_add (pe_op op_mulW (pv 2) (pe_int)) (pe_cal C_draw (hr.mono (by decide)) (pa_cons (pv 0) (pa_cons (pe_int) pa_nil)))))) pss_nil)
      (pss_one (ps_ret (pv 2))))), ?_⟩
    refine ⟨_, rfl, _, rfl, p, L, ps, rfl, hP, hL, nL, ru, l1, l9, fun y H1 hP1 k1 y0 y1 => ?_⟩
    refine ⟨_, rfl, p, 4, rfl, hP1, by decide, by decide, fun w0 H2 _ _ hP2 k2 => ?_⟩
    refine ⟨rfl, _, rfl, ifE (fun _ => ?_) (fun _ => ?_)⟩
    · refine ⟨_, rfl, _, _, rfl, rfl, wide_mul (a := 110) (b := 10) (show y.natAbs < 2 ^ 110 by omega) (show (1000 : Int).natAbs < 2 ^ 10 by decide) (by decide) (by decide) (by decide), ?_⟩
      refine ⟨_, rfl, p, 1000, rfl, hP2, by decide, by decide, fun a H3 a0 a1 hP3 k3 => ⟨_, _, rfl, rfl, ?_⟩⟩
      exact ⟨_, rfl, q _ H3 hP3 ((k1.trans k2).trans k3) (by omega) (by omega)⟩
    · exact ⟨_, rfl, q y H2 hP2 (k1.trans k2) y0 (by omega)⟩


def spRowsL : Sp := fun vs H Q _ => ∃ (L : Addr) (ps : List Pt), vs = [.ref L] ∧ LAt RowP H L ps ∧ Wk ps ∧ ∀ (M : Addr) (H' : Hp), Same H H' → H M = none → LAt (RqP 110 (wsum ps)) H' M ps → Q (.ref M) H'
theorem ok_rowsL (B : Blt mg) (C_low : CalLow2 P w K mg base) (C_weights : CalWeights P w K mg base) (Df : Dfn K mg "_law_rows" "_law_rows" s_rows ["_law_parts_here"]) : Cal P w K mg base 34 "_law_rows" ["_law_parts_here"] spRowsL := by
  refine Df.cal sc_rows (fun vs H Q E h => ?_) (fun fA cdv A outer st H vs Q E hr h => ?_)
  · obtain ⟨L, ps, rfl, _⟩ := h
    rfl
  · obtain ⟨L, ps, rfl, hL, wk, q⟩ := h
    refine ⟨_, (pss_cons (ps_set (i := 1) sc_rows.nd rfl (Or.inr rfl) (pe_cal C_weights (hr.mono (by decide)) (pa_cons (pv 0) pa_nil)))
      (pss_one (ps_ret (pe_lc (own := [("_law_part", 2)]) (g := gName 2) rfl sc_rows.nd (pi_list (pv 0)) (blkOk_by (N := ["_law_parts_here", "_law_total", "_law_part"]) (sc := defScope s_rows) (by decide +kernel)) (fun _ _ _ _ _ => pg_name (i := 2) sc_rows.nd rfl (Or.inl rfl)) (fun _ _ _ _ _ => pts_nil) (fun _ _ _ _ _ => (pe_tup (pa_cons (pe_cal C_low (hr.mono (by decide)) (pa_cons (pe_ix (show IxR _ (rIxT K) from ix_tup) (pv 2) (pe_int) (fun _ _ => rfl)) (pa_cons (pv 1) pa_nil))) (pa_cons (pe_ix (show IxR _ (rIxT K) from ix_tup) (pv 2) (pe_int) (fun _ _ => rfl)) pa_nil)))))))), ?_⟩
    have l3 := wk.l3
    refine ⟨_, rfl, L, ps, rfl, hL, by omega, fun H1 s1 => ?_⟩
    have hL1 := hL.same rowP_mono s1
    obtain ⟨us, hus, hlen, hall⟩ := id hL1
    refine ⟨_, rfl, L, rfl, ⟨_, SqL.of hus⟩, fun D1 hD1 => lc_build (xs := us) (RqP 110 (wsum ps)) ps rqP_mono hD1 hlen (SqL.of hus) (by omega) ?_ ?_⟩
    · rintro i y p H2 Kc Ke hy hp s ⟨acc, hacc⟩ kk
      obtain ⟨y', hy', t, r, rfl, ht, hrow⟩ := hall i p hp
      rw [hy] at hy'
      cases hy'
      obtain ⟨n1, nb, ru⟩ := wk.ok p (mem_at hp)
      obtain ⟨w0, wb⟩ := wk.w
      have ht := s _ _ ht
      refine ⟨rfl, ?_⟩
      refine ⟨_, rfl, _, _, _, _, rfl, rfl, SqT.of (ht), rfl, _, rfl, _, _, rfl, w0, ub wb (by decide), fun z n' m' H3 s3 hz e m1 l1 l2 => ?_⟩
      have ht3 := s3 _ _ ht
      refine ⟨_, rfl, _, _, _, _, rfl, rfl, SqT.of (ht3), rfl, (by show 2 ≤ sizeLine; decide), fun v hv => ?_⟩
      have s4 := same_upd (o := .tup [.ref z, .ref r]) hv
      have s34 := s3.trans s4
      have hacc4 := s34 _ _ hacc
      have hz4 := s4 _ _ hz
      have hr4 := (s.trans s34) _ _ hrow
      have rv : RV 110 (wo (upd H3 v (.tup [.ref z, .ref r])) D1) z (rq (p.n, wsum ps)) := RV.pv ⟨n', m', wo_at hz4 (ne_of hz4 hacc4 (by intro z; cases z)), m1, e, nb_up (nb_le nb l1) (by decide), nb_up (nb_le wb l2) (by decide)⟩ w0
      exact kk _ _ s34 ⟨v, z, r, rfl, wo_at upd_same (ne_of upd_same hacc4 (by intro z; cases z)), rv, wo_at hr4 (ne_of hr4 hacc4 (by intro z; cases z))⟩
    intro H2 s2 hR
    exact q D1 H2 (s1.trans s2) (none_of_same s1 hD1) hR
end
end L

set_option Elab.async false
set_option linter.all false
set_option maxRecDepth 100000
set_option maxHeartbeats 4000000
set_option pp.maxSteps 160
set_option pp.deepTerms false
namespace L
open PySem PySem.Spec PyProof.Rows L2 Fl
local macro_rules | `(tactic| walk_at "side") => `(tactic| first | (exact .inl ⟨by omega, by omega⟩) | (exact .inr ⟨by omega, by omega⟩) | (exact .inr ⟨by decide, by decide⟩) | (show (_ : Int) ≠ _; omega) | (exact ⟨by omega, by decide⟩) | (exact ⟨by decide, by decide, by decide⟩))
local macro_rules | `(tactic| walk_at "go") => `(tactic| repeat (first | refine ⟨_, rfl, ?_⟩ | refine ⟨_, _, rfl, rfl, ?_⟩ | refine .inl ⟨_, rfl, ?_⟩ | refine ⟨rfl, ?_⟩ | refine ⟨(by walk_at "side"), ?_⟩))
local macro_rules | `(tactic| walk_at "see") => `(tactic| (set_option pp.maxSteps 110 in set_option pp.deepTerms false in trace_state))
local macro_rules | `(tactic| walk_at "if") => `(tactic| first | refine ifE ?_ ?_ | refine ifNE ?_ ?_ | refine ifD ?_ ?_ | refine ifN ?_ ?_ | refine ifB ?_ ?_)
open Bx

theorem none_keeps {H H' : Hp} {M p : Addr} (k : Keeps H H' p) (h : H' M = none) (n : M ≠ p) : H M = none := by
  cases e : H M with
  | none => rfl
  | some o => rw [k _ _ e n] at h; cases h
theorem chT_at {Dn k : Int} {p : Pt} {b : Bool} (hb : b = true ↔ (p.f ≤ k ∧ k ≤ p.f + p.s * (p.c - 1) ∧ (k - p.f).fmod p.s = 0)) : chT Dn k p = if b = true then rq (p.n, Dn) * rq (1, p.c) else 0 := by
  have e : isin p.f p.s p.c k = true ↔ b = true := by
    rw [hb]
    unfold isin
    rw [Bool.and_eq_true, Bool.and_eq_true, decide_eq_true_iff, decide_eq_true_iff, decide_eq_true_iff, and_assoc]
  unfold chT
  cases b with
  | true => rw [if_pos (e.2 rfl), if_pos rfl]
  | false => rw [if_neg (fun z => Bool.noConfusion (e.1 z)), if_neg Bool.false_ne_true]
/-- pieces of a row: the weights are their counts -/
structure PcOk (f s c : Int) (qs : List Pt) : Prop where
  n : ∀ q ∈ qs, q.n = q.c
  ok : ∀ q ∈ qs, RunOk q.f q.s q.c ∧ f ≤ q.f ∧ q.f ≤ f + 4 * c ∧ q.c ≤ c
  sum : sumI (qs.map Pt.c) = c
  at_ : ∀ k, sumI (qs.map fun q => inN q.f q.s q.c k) = inN f s c k
  l1 : 0 < qs.length
  l2 : qs.length ≤ 2
/-- a run whose step is 1 if it is a single place -/
def sg (s c : Int) : Int := if c = 1 then 1 else s
theorem in_sg {f s c k : Int} (s1 : 1 ≤ s) : inN f (sg s c) c k = inN f s c k := by
  unfold sg
  split
  · rename_i h
    subst h
    exact (in_one s1).symm
  · rfl
theorem sg_ok {f s c : Int} (r : RunOk f s c) : RunOk f (sg s c) c := by
  obtain ⟨h1, h2, h3, h4⟩ := r
  refine ⟨h1, ?_, ?_, h4⟩ <;> (unfold sg; split <;> omega)
theorem pc_two {f s c f1 s1 c1 f2 s2 c2 : Int} (r1 : RunOk f1 s1 c1) (r2 : RunOk f2 s2 c2) (b1 : f ≤ f1 ∧ f1 ≤ f + 4 * c) (b2 : f ≤ f2 ∧ f2 ≤ f + 4 * c) (e : c1 + c2 = c) (k : ∀ k, inN f1 s1 c1 k + inN f2 s2 c2 k = inN f s c k) : PcOk f s c [⟨c1, f1, sg s1 c1, c1⟩, ⟨c2, f2, sg s2 c2, c2⟩] := by
  have x1 := r1.c1
  have x2 := r2.c1
  refine ⟨fun q hq => ?_, fun q hq => ?_, ?_, fun y => ?_, Nat.succ_pos 1, Nat.le_refl 2⟩
  · rcases List.mem_cons.mp hq with rfl | hq
    · rfl
    · rw [List.mem_singleton.mp hq]
  · rcases List.mem_cons.mp hq with rfl | hq
    · exact ⟨sg_ok r1, b1.1, b1.2, by show c1 ≤ c; omega⟩
    · rw [List.mem_singleton.mp hq]
      exact ⟨sg_ok r2, b2.1, b2.2, by show c2 ≤ c; omega⟩
  · show c1 + (c2 + 0) = c
    omega
  · show inN f1 (sg s1 c1) c1 y + (inN f2 (sg s2 c2) c2 y + 0) = _
    rw [in_sg r1.s1, in_sg r2.s1, ← k y]
    omega
section
variable {P : Program} {w : World} {K : PySem.W.Frag} {mg : Str → Option Value} {base : Heap}

def spChance : Sp := fun vs H Q _ => ∃ (M : Addr) (y Dn : Int) (ps : List Pt), vs = [.ref M, .int y] ∧ LAt (RqP 330 Dn) H M ps ∧ (∀ p ∈ ps, Ru 105 p) ∧ ps.length ≤ 6 ∧ ∀ (z : Addr) (H' : Hp), Same H H' → RV 3000 H' z (chR Dn y ps) → Q (.ref z) H'
theorem ok_chance (C_plus : CalPlusQ P w K mg base) (C_times : CalTimesQ P w K mg base) (C_in : Cal P w K mg base 2 "_law_in" ["_law_row", "_law_y"] spIn3) (Df : Dfn K mg "_law_chance" "_law_chance" s_chance ["_law_rows_here", "_law_y"]) : Cal P w K mg base 35 "_law_chance" ["_law_rows_here", "_law_y"] spChance := by
  refine Df.cal sc_chance (fun vs H Q E h => ?_) (fun fA cdv A outer st H vs Q E hr h => ?_)
  · obtain ⟨M, y, Dn, ps, rfl, _⟩ := h
    rfl
  · obtain ⟨M, y, Dn, ps, rfl, hM, ru, l6, q⟩ := h
    obtain ⟨vs, hvs, hlen, hall⟩ := id hM
    refine ⟨_, (pss_cons (ps_set (i := 2) sc_chance.nd rfl (Or.inl rfl) (pe_tup (pa_cons (pe_int) (pa_cons (pe_int) pa_nil))))
      (pss_cons (ps_for PassesOwn.never rfl (pi_list (pv 0)) (pg_name (i := 3) sc_chance.nd rfl (Or.inl rfl)) (pss_one (ps_if (pt_val (pe_cal C_in (hr.mono (by decide)) (pa_cons (pe_ix ix_tup (pv 3) (pe_int) (fun _ _ => rfl)) (pa_cons (pv 1) pa_nil)))) (pss_one (ps_set (i := 2) sc_chance.nd rfl (Or.inl rfl) (pe_cal C_plus (hr.mono (by decide)) (pa_cons (pv 2) (pa_cons (pe_cal C_times (hr.mono (by decide)) (pa_cons (pe_ix ix_tup (pv 3) (pe_int) (fun _ _ => rfl)) (pa_cons (pe_tup (pa_cons (pe_int) (pa_cons (pe_ix ix_tup (pe_ix ix_tup (pv 3) (pe_int) (fun _ _ => rfl)) (pe_int) (fun _ _ => rfl)) pa_nil))) pa_nil))) pa_nil))))) pss_nil)))
      (pss_one (ps_ret (pv 2))))), ?_⟩
    refine ⟨(by show 2 ≤ sizeLine; decide), fun z0 hz0 => ?_⟩
    have s0 := same_upd (o := .tup [.int 0, .int 1]) hz0
    refine ⟨_, rfl, M, rfl, ⟨_, SqL.of (s0 _ _ hvs)⟩, for_list (K := K) (a := M) (xs := vs) (fun i σ' H' => Same H H' ∧ ∃ (z : Addr) (o4 : Option V), RV (2 + 440 * i) H' z (sumR (chT Dn y) (ps.take i)) ∧ σ' = [some (.ref M), some (.int y), some (.ref z), o4])
      ⟨s0, z0, none, ?_, rfl⟩ (fun i σ' H' _ h => SqL.of (h.1 _ _ hvs)) ?_ ?_⟩
    · have := RV.of (b := 2) (H := upd H z0 (.tup [.int 0, .int 1])) (t := z0) (n := 0) (d := 1) upd_same (by decide) (by decide) (by decide)
      rw [rq_zero] at this
      exact this
    · rintro i v σ' H1 hv ⟨s1, z, o4, hz, rfl⟩
      obtain ⟨p, hp⟩ := item hlen hv
      obtain ⟨v', hv', t, u, r, rfl, ht, hu, hrow⟩ := hall i p hp
      rw [hv] at hv'
      cases hv'
      have il := (List.getElem?_eq_some_iff.mp hp).1
      have rp := ru p (mem_at hp)
      have ht := s1 _ _ ht
      have hu := hu.same s1
      have hrow : H1 r = some (.tup [.int p.f, .int p.s, .int p.c]) := s1 _ _ hrow
      refine ⟨_, rfl, _, _, _, _, rfl, rfl, SqT.of (ht), rfl, _, rfl, r, p.f, p.s, p.c, y, rfl, hrow, rp.rb, fun k hk => ?_⟩
      have ec := chT_at (Dn := Dn) hk
      refine ⟨_, rfl, ?_⟩
      rw [take_snoc hp]
      cases k with
      | true =>
        rw [if_pos rfl] at ec
        refine iteT ?_
        refine ⟨_, rfl, _, rfl, _, _, _, _, rfl, rfl, SqT.of (ht), rfl, _, rfl, _, _, _, _, rfl, rfl, SqT.of (ht), rfl, _, _, _, _, rfl, rfl, SqT.of (hrow), rfl, (by show 2 ≤ sizeLine; decide), fun t1 ht1 => ?_⟩
        have s2 := same_upd (o := .tup [.int 1, .int p.c]) ht1
        have h1 : RV 105 (upd H1 t1 (.tup [.int 1, .int p.c])) t1 (rq (1, p.c)) := RV.of upd_same (by have := rp.ok.c1; omega) (by decide) rp.c
        refine ⟨u, t1, _, _, 330, 105, rfl, hu.same s2, h1, by decide, by decide, by decide, fun e H3 s3 he => ?_⟩
        have s23 := s2.trans s3
        refine ⟨z, e, _, _, 2 + 440 * i, 330 + 105 + 1, rfl, hz.same s23, he, by omega, by decide, by omega, fun z' H4 s4 hz' => ?_⟩
        refine ⟨s1.trans (s23.trans s4), z', _, ?_, rfl⟩
        rw [sumR_snoc, ec]
        exact hz'.up (by omega)
      | false =>
        rw [if_neg Bool.false_ne_true] at ec
        refine iteF ⟨s1, z, _, ?_, rfl⟩
        rw [sumR_snoc, ec]
        have := hz.up (b' := 2 + 440 * (i + 1)) (by omega)
        rw [show sumR (chT Dn y) (List.take i ps) + 0 = sumR (chT Dn y) (List.take i ps) by grind]
        exact this
    · rintro σ' H1 ⟨s1, z, o4, hz, rfl⟩
      rw [List.take_of_length_le (by omega), ← chR_sum] at hz
      exact ⟨_, rfl, q z H1 s1 (hz.up (by omega))⟩
def spApart : Sp := fun vs H Q _ => ∃ (M N : Addr) (y D1 D2 : Int) (ps qs : List Pt), vs = [.ref M, .ref N, .int y] ∧ LAt (RqP 330 D1) H M ps ∧ LAt (RqP 330 D2) H N qs ∧ (∀ p ∈ ps, Ru 105 p) ∧ (∀ p ∈ qs, Ru 105 p) ∧ ps.length ≤ 6 ∧ qs.length ≤ 6 ∧ ∀ (k : Bool) (H' : Hp), Same H H' → (k = true ↔ chR D1 y ps ≠ chR D2 y qs) → Q (.bl k) H'
theorem ok_apart (C_chance : Cal P w K mg base 35 "_law_chance" ["_law_rows_here", "_law_y"] spChance) (Df : Dfn K mg "_law_apart" "_law_apart" s_apart ["_law_one", "_law_other", "_law_y"]) : Cal P w K mg base 36 "_law_apart" ["_law_one", "_law_other", "_law_y"] spApart := by
  refine Df.cal sc_apart (fun vs H Q E h => ?_) (fun fA cdv A outer st H vs Q E hr h => ?_)
  · obtain ⟨M, N, y, D1, D2, ps, qs, rfl, _⟩ := h
    rfl
  · obtain ⟨M, N, y, D1, D2, ps, qs, rfl, hM, hN, r1, r2, l1, l2, q⟩ := h
    refine ⟨_, (pss_cons (ps_set (i := 3) sc_apart.nd rfl (Or.inl rfl) (pe_cal C_chance (hr.mono (by decide)) (pa_cons (pv 0) (pa_cons (pv 2) pa_nil))))
      (pss_cons (ps_set (i := 4) sc_apart.nd rfl (Or.inl rfl) (pe_cal C_chance (hr.mono (by decide)) (pa_cons (pv 1) (pa_cons (pv 2) pa_nil))))
      (pss_one (ps_ret (pe_cmpR op_ne (pe_op op_mulW (pe_ix ix_tup (pv 3) (pe_int) (fun _ _ => rfl)) (pe_ix ix_tup (pv 4) (pe_int) (fun _ _ => rfl))) (pe_op op_mulW (pe_ix ix_tup (pv 4) (pe_int) (fun _ _ => rfl)) (pe_ix ix_tup (pv 3) (pe_int) (fun _ _ => rfl))) (nomark _)))))), ?_⟩
    refine ⟨_, rfl, _, rfl, M, y, D1, ps, rfl, hM, r1, l1, fun a H1 s1 ha => ?_⟩
    refine ⟨_, rfl, _, rfl, N, y, D2, qs, rfl, hN.same rqP_mono s1, r2, l2, fun b H2 s2 hb => ?_⟩
    obtain ⟨n, d, h1, d0, bn, bd, e1⟩ := ha.same s2
    obtain ⟨n', d', h2, d0', bn', bd', e2⟩ := hb
    refine ⟨_, rfl, _, _, _, _, rfl, rfl, SqT.of (h1), rfl, _, rfl, _, _, _, _, rfl, rfl, SqT.of (h2), rfl, _, _, rfl, rfl, wide_mul bn bd' (by decide) (by decide) (by decide), ?_⟩
    refine ⟨_, rfl, _, _, _, _, rfl, rfl, SqT.of (h2), rfl, _, rfl, _, _, _, _, rfl, rfl, SqT.of (h1), rfl, _, _, rfl, rfl, wide_mul bn' bd (by decide) (by decide) (by decide), ?_⟩
    refine ⟨rfl, ?_⟩
    have key := rq_eq (a := (n, d)) (b := (n', d')) d0 d0'
    rw [e1, e2] at key
    have key : chR D1 y ps = chR D2 y qs ↔ n * d' = n' * d := key
    exact q _ H2 (s1.trans s2) (by
      rw [Bool.not_eq_true', decide_eq_false_iff_not]
      constructor
      · intro h e
        exact h (congrArg V.int (key.1 e))
      · intro h e
        injection e with e
        exact h (key.2 e))
def spSingle : Sp := fun vs H Q _ => ∃ (r : Addr) (f s c : Int), vs = [.ref r] ∧ Row3 H r f s c ∧ ∀ (z : Addr) (H' : Hp), Same H H' → Row3 H' z f (sg s c) c → Q (.ref z) H'
theorem ok_single (Df : Dfn K mg "_law_single" "_law_single" s_single ["_law_row"]) : Cal P w K mg base 1 "_law_single" ["_law_row"] spSingle := by
  refine Df.cal sc_single (fun vs H Q E h => ?_) (fun fA cdv A outer st H vs Q E hr h => ?_)
  · obtain ⟨r, f, s, c, rfl, _⟩ := h
    rfl
  · obtain ⟨r, f, s, c, rfl, hrow, q⟩ := h
    have hrow : H r = some (.tup [.int f, .int s, .int c]) := hrow
    refine ⟨_, (pss_cons (ps_if (pt_cmpR op_eq (pe_ix ix_tup (pv 0) (pe_int) (fun _ _ => rfl)) (pe_int) (nomark _)) (pss_one (ps_ret (pe_tup (pa_cons (pe_ix ix_tup (pv 0) (pe_int) (fun _ _ => rfl)) (pa_cons (pe_int) (pa_cons (pe_int) pa_nil)))))) pss_nil)
      (pss_one (ps_ret (pv 0)))), ?_⟩
    refine ⟨_, rfl, _, _, _, _, rfl, rfl, SqT.of (hrow), rfl, rfl, _, rfl, ifE (fun e => ?_) (fun ne => ?_)⟩
    · refine ⟨_, rfl, _, _, _, _, rfl, rfl, SqT.of (hrow), rfl, (by show 3 ≤ sizeLine; decide), fun z hz => q z _ (same_upd hz) ?_⟩
      unfold sg
      rw [if_pos e, e]
      exact upd_same
    · refine ⟨_, rfl, q r H (Same.refl H) ?_⟩
      unfold sg
      rw [if_neg ne]
      exact hrow
end
end L

set_option Elab.async false
set_option linter.all false
set_option maxRecDepth 100000
set_option maxHeartbeats 4000000
set_option pp.maxSteps 160
set_option pp.deepTerms false
namespace L
open PySem PySem.Spec PyProof.Rows L2 Fl
local macro_rules | `(tactic| walk_at "side") => `(tactic| first | (exact .inl ⟨by omega, by omega⟩) | (exact .inr ⟨by omega, by omega⟩) | (exact .inr ⟨by decide, by decide⟩) | (show (_ : Int) ≠ _; omega) | (exact ⟨by omega, by decide⟩) | (exact ⟨by decide, by decide, by decide⟩))
local macro_rules | `(tactic| walk_at "go") => `(tactic| repeat (first | refine ⟨_, rfl, ?_⟩ | refine ⟨_, _, rfl, rfl, ?_⟩ | refine .inl ⟨_, rfl, ?_⟩ | refine ⟨rfl, ?_⟩ | refine ⟨(by walk_at "side"), ?_⟩))
local macro_rules | `(tactic| walk_at "see") => `(tactic| (set_option pp.maxSteps 110 in set_option pp.deepTerms false in trace_state))
local macro_rules | `(tactic| walk_at "if") => `(tactic| first | refine ifE ?_ ?_ | refine ifNE ?_ ?_ | refine ifD ?_ ?_ | refine ifN ?_ ?_ | refine ifB ?_ ?_)
open Bx
section
variable {P : Program} {w : World} {K : PySem.W.Frag} {mg : Str → Option Value} {base : Heap}

def spPieces : Sp := fun vs H Q _ => ∃ (p : Pla) (r : Addr) (f s c : Int), vs = [.ref p, .ref r] ∧ Pool H p ∧ Row3 H r f s c ∧ RunOk f s c ∧ f.natAbs < 2 ^ 106 ∧ c.natAbs < 2 ^ 104 ∧ ∀ (M : Addr) (qs : List Pt) (H' : Hp), Pool H' p → Keeps H H' p → M ≠ p → H M = none → LAt RowP H' M qs → PcOk f s c qs → Q (.ref M) H'
theorem two_at {H : Hp} {M t1 t2 r1 r2 : Addr} {n1 f1 s1 c1 n2 f2 s2 c2 : Int} (h : H M = some (.lst [.ref t1, .ref t2])) (h1 : H t1 = some (.tup [.int n1, .ref r1])) (h2 : H t2 = some (.tup [.int n2, .ref r2])) (k1 : Row3 H r1 f1 s1 c1) (k2 : Row3 H r2 f2 s2 c2) : LAt RowP H M [⟨n1, f1, s1, c1⟩, ⟨n2, f2, s2, c2⟩] := ⟨_, h, rfl, fun i z hz => by
  rcases i with _ | _ | i
  · cases hz
    exact ⟨_, rfl, t1, r1, rfl, h1, k1⟩
  · cases hz
    exact ⟨_, rfl, t2, r2, rfl, h2, k2⟩
  · cases hz⟩
theorem ok_pieces (B : Blt mg) (C_draw : CalDrawA P w K mg base) (C_wide : CalWide P w K mg base) (C_single : Cal P w K mg base 1 "_law_single" ["_law_row"] spSingle) (Df : Dfn K mg "_law_pieces" "_law_pieces" s_pieces ["_law_pool_here", "_law_row"]) : Cal P w K mg base 5 "_law_pieces" ["_law_pool_here", "_law_row"] spPieces := by
  refine Df.cal sc_pieces (fun vs H Q E h => ?_) (fun fA cdv A outer st H vs Q E hr h => ?_)
  · obtain ⟨p, r, f, s, c, rfl, _⟩ := h
    rfl
  · obtain ⟨p, r, f, s, c, rfl, hP, hrow, ok, fb, cb, q⟩ := h
    have hrow : H r = some (.tup [.int f, .int s, .int c]) := hrow
    have s1 := ok.s1
    have s4 := ok.s4
    have c1 := ok.c1
    refine ⟨_, (pss_cons (ps_if (pt_cmpR op_eq (pe_ix ix_tup (pv 1) (pe_int) (fun _ _ => rfl)) (pe_int) (nomark _)) (pss_one (ps_ret (pe_lst (pa_cons (pe_tup (pa_cons (pe_int) (pa_cons (pv 1) pa_nil))) pa_nil)))) pss_nil)
      (Evl.pss_cut (ps_if (PW.pt (pw_and (pt_cmpR op_lt (pe_ix ix_tup (pv 1) (pe_int) (fun _ _ => rfl)) (pe_int) (nomark _)) (pw_and1 (pt_cmpR op_eq (pe_cal C_draw (hr.mono (by decide)) (pa_cons (pv 0) (pa_cons (pe_int) pa_nil))) (pe_int) (nomark _))))) (pss_cons (ps_set (i := 2) sc_pieces.nd rfl (Or.inl rfl) (pe_op op_fdivA (pe_ix ix_tup (pv 1) (pe_int) (fun _ _ => rfl)) (pe_int)))
      (pss_cons (ps_set (i := 3) sc_pieces.nd rfl (Or.inl rfl) (pe_tup (pa_cons (pe_ix ix_tup (pv 1) (pe_int) (fun _ _ => rfl)) (pa_cons (pe_op op_mulW (pe_int) (pe_ix ix_tup (pv 1) (pe_int) (fun _ _ => rfl))) (pa_cons (pe_op op_sub (pe_ix ix_tup (pv 1) (pe_int) (fun _ _ => rfl)) (pv 2)) pa_nil)))))
      (pss_cons (ps_set (i := 4) sc_pieces.nd rfl (Or.inl rfl) (pe_tup (pa_cons (pe_op op_add (pe_ix ix_tup (pv 1) (pe_int) (fun _ _ => rfl)) (pe_ix ix_tup (pv 1) (pe_int) (fun _ _ => rfl))) (pa_cons (pe_op op_mulW (pe_int) (pe_ix ix_tup (pv 1) (pe_int) (fun _ _ => rfl))) (pa_cons (pv 2) pa_nil)))))
      (pss_one (ps_ret (pe_lst (pa_cons (pe_tup (pa_cons (pe_op op_sub (pe_ix ix_tup (pv 1) (pe_int) (fun _ _ => rfl)) (pv 2)) (pa_cons (pe_cal C_single (hr.mono (by decide)) (pa_cons (pv 3) pa_nil)) pa_nil))) (pa_cons (pe_tup (pa_cons (pv 2) (pa_cons (pe_cal C_single (hr.mono (by decide)) (pa_cons (pv 4) pa_nil)) pa_nil))) pa_nil)))))))) pss_nil)
      (pss_cons (ps_set (i := 5) sc_pieces.nd rfl (Or.inl rfl) (pe_op op_add (pe_int) (pe_op op_modN (pe_callTy call_int1 (by rfl) B.int (by decide +kernel) (pa_cons (pe_cal C_wide (hr.mono (by decide)) (pa_cons (pv 0) pa_nil)) pa_nil)) (pe_op op_sub (pe_ix ix_tup (pv 1) (pe_int) (fun _ _ => rfl)) (pe_int)))))
      (pss_cons (ps_set (i := 6) sc_pieces.nd rfl (Or.inl rfl) (pe_tup (pa_cons (pe_op op_add (pe_ix ix_tup (pv 1) (pe_int) (fun _ _ => rfl)) (pe_op op_mulW (pe_ix ix_tup (pv 1) (pe_int) (fun _ _ => rfl)) (pv 5))) (pa_cons (pe_ix ix_tup (pv 1) (pe_int) (fun _ _ => rfl)) (pa_cons (pe_op op_sub (pe_ix ix_tup (pv 1) (pe_int) (fun _ _ => rfl)) (pv 5)) pa_nil)))))
      (pss_one (ps_ret (pe_lst (pa_cons (pe_tup (pa_cons (pv 5) (pa_cons (pe_cal C_single (hr.mono (by decide)) (pa_cons (pe_tup (pa_cons (pe_ix ix_tup (pv 1) (pe_int) (fun _ _ => rfl)) (pa_cons (pe_ix ix_tup (pv 1) (pe_int) (fun _ _ => rfl)) (pa_cons (pv 5) pa_nil)))) pa_nil)) pa_nil))) (pa_cons (pe_tup (pa_cons (pe_op op_sub (pe_ix ix_tup (pv 1) (pe_int) (fun _ _ => rfl)) (pv 5)) (pa_cons (pe_cal C_single (hr.mono (by decide)) (pa_cons (pv 6) pa_nil)) pa_nil))) pa_nil))))))))), ?_⟩
    refine ⟨_, rfl, _, _, _, _, rfl, rfl, SqT.of (hrow), rfl, rfl, _, rfl, ifE (fun e => ?_) (fun ne => ?_)⟩
    · subst e
      refine ⟨_, rfl, (by show 2 ≤ sizeLine; decide), fun t ht => ?_⟩
      have st := same_upd (o := .tup [.int 1, .ref r]) ht
      refine ⟨(by show 1 ≤ sizeLine; decide), fun M hM => ?_⟩
      have sM := same_upd (o := .lst [.ref t]) hM
      have nM := (hP.same st).apart hM
      refine q M [⟨1, f, s, 1⟩] _ ((hP.same st).same sM) ((same_keeps st).trans (same_keeps sM)) nM.1 (none_of_same st hM) ⟨_, upd_same, rfl, fun i z hz => ?_⟩ ⟨fun q hq => ?_, fun q hq => ?_, rfl, fun k => ?_, Nat.succ_pos 0, Nat.le_succ 1⟩
      · rcases i with _ | i
        · cases hz
          exact ⟨_, rfl, t, r, rfl, sM _ _ upd_same, sM _ _ (st _ _ hrow)⟩
        · cases hz
      · rw [List.mem_singleton.mp hq]
      · rw [List.mem_singleton.mp hq]
        exact ⟨ok, Int.le_refl _, by show f ≤ f + 4 * 1; omega, Int.le_refl _⟩
      · show inN f s 1 k + 0 = _
        omega
    have c2 : 2 ≤ c := by omega
    refine ⟨fun σ' H' => σ' = [some (.ref (p : Addr)), some (.ref r), none, none, none, none, none] ∧ Pool H' p ∧ Keeps H H' p, ?_, ?_⟩
    · refine ⟨_, rfl, _, _, _, _, rfl, rfl, SqT.of (hrow), rfl, _, _, rfl, rfl, _, rfl, ifD (fun s3 => ?_) (fun _ => iteF ⟨rfl, hP, Keeps.refl H p⟩)⟩
      refine ⟨_, rfl, p, 2, rfl, hP, by decide, by decide, fun w0 H1 _ _ hP1 k1 => ⟨rfl, _, rfl, ifE (fun _ => ?_) (fun _ => ⟨rfl, hP1, k1⟩)⟩⟩
      have hrow1 : H1 r = some (.tup [.int f, .int s, .int c]) := tup_keep hrow hP k1
      refine ⟨_, rfl, _, _, _, _, rfl, rfl, SqT.of (hrow1), rfl, _, _, rfl, rfl, divA (b := 2) (by decide) (by decide) (by decide) (by decide), ?_⟩
      have hf : c.fdiv 2 = c / 2 := Int.fdiv_eq_ediv_of_nonneg c (by decide)
      show gName 2 (V.int (c.fdiv 2)) _ _ _
      rw [hf]
      obtain ⟨h, hh⟩ : ∃ h, h = c / 2 := ⟨_, rfl⟩
      rw [← hh]
      have wm := wide_mul (a := 2) (b := 3) (show (2 : Int).natAbs < 2 ^ 2 by decide) (show s.natAbs < 2 ^ 3 by omega) (by decide) (by decide) (by decide)
      refine ⟨_, rfl, _, _, _, _, rfl, rfl, SqT.of (hrow1), rfl, _, rfl, _, _, _, _, rfl, rfl, SqT.of (hrow1), rfl, _, _, rfl, rfl, wm, _, rfl, _, _, _, _, rfl, rfl, SqT.of (hrow1), rfl, _, rfl, _, _, rfl, rfl, (by show 3 ≤ sizeLine; decide), fun ev hev => ?_⟩
      have s2 := same_upd (o := .tup [.int f, .int (2 * s), .int (c - h)]) hev
      have hev' : Row3 (upd H1 ev (.tup [.int f, .int (2 * s), .int (c - h)])) ev f (2 * s) (c - h) := upd_same
      have hrow2 := s2 _ _ hrow1
      generalize upd H1 ev (.tup [.int f, .int (2 * s), .int (c - h)]) = H2 at *
      refine ⟨_, rfl, _, _, _, _, rfl, rfl, SqT.of (hrow2), rfl, _, rfl, _, _, _, _, rfl, rfl, SqT.of (hrow2), rfl, _, _, rfl, rfl, _, rfl, _, _, _, _, rfl, rfl, SqT.of (hrow2), rfl, _, _, rfl, rfl, wm, _, rfl, (by show 3 ≤ sizeLine; decide), fun od hod => ?_⟩
      have s3' := same_upd (o := .tup [.int (f + s), .int (2 * s), .int h]) hod
      have hod' : Row3 (upd H2 od (.tup [.int (f + s), .int (2 * s), .int h])) od (f + s) (2 * s) h := upd_same
      have hrow3 := s3' _ _ hrow2
      have hev3 : Row3 _ ev f (2 * s) (c - h) := s3' _ _ hev'
      generalize upd H2 od (.tup [.int (f + s), .int (2 * s), .int h]) = H3 at *
      refine ⟨_, rfl, _, _, _, _, rfl, rfl, SqT.of (hrow3), rfl, _, rfl, _, _, rfl, rfl, _, rfl, ev, f, 2 * s, c - h, rfl, hev3, fun z1 H4 s4 hz1 => ?_⟩
      refine ⟨(by show 2 ≤ sizeLine; decide), fun t1 ht1 => ?_⟩
      have s5 := same_upd (o := .tup [.int (c - h), .ref z1]) ht1
      have ht1' : upd H4 t1 (.tup [.int (c - h), .ref z1]) t1 = some (.tup [.int (c - h), .ref z1]) := upd_same
      have hz1 : Row3 _ z1 _ _ _ := s5 _ _ hz1
      generalize upd H4 t1 (.tup [.int (c - h), .ref z1]) = H5 at *
      refine ⟨_, rfl, _, rfl, od, f + s, 2 * s, h, rfl, s5 _ _ (s4 _ _ hod'), fun z2 H6 s6 hz2 => ?_⟩
      refine ⟨(by show 2 ≤ sizeLine; decide), fun t2 ht2 => ?_⟩
      have s7 := same_upd (o := .tup [.int h, .ref z2]) ht2
      refine ⟨(by show 2 ≤ sizeLine; decide), fun M hM => ?_⟩
      have s8 := same_upd (o := .lst [.ref t1, .ref t2]) hM
      have sA := s2.trans (s3'.trans (s4.trans (s5.trans (s6.trans s7))))
      have hPA := hP1.same sA
      have nM := hPA.apart hM
      refine q M _ _ (hPA.same s8) ((k1.trans (same_keeps sA)).trans (same_keeps s8)) nM.1 (none_keeps (k1.trans (same_keeps sA)) hM nM.1) (two_at upd_same (s8 _ _ (s7 _ _ (s6 _ _ ht1'))) (s8 _ _ upd_same) (s8 _ _ (s7 _ _ (s6 _ _ hz1))) (s8 _ _ (s7 _ _ hz2))) ?_
      have f0 := ok.f0
      exact pc_two ⟨f0, by omega, by omega, by omega⟩ ⟨by omega, by omega, by omega, by omega⟩ ⟨Int.le_refl _, by omega⟩ ⟨by omega, by omega⟩ (by omega) fun k => in_half ok s3 c2 hh
    rintro σ' H1 ⟨rfl, hP1, k1⟩
    have hrow1 : H1 r = some (.tup [.int f, .int s, .int c]) := tup_keep hrow hP k1
    refine ⟨_, rfl, p, rfl, hP1, fun a H2 a0 a1 hP2 k2 => ?_⟩
    have hrow2 : H2 r = some (.tup [.int f, .int s, .int c]) := tup_keep hrow1 hP1 k2
    refine .inl ⟨a, rfl, _, rfl, _, _, _, _, rfl, rfl, SqT.of (hrow2), rfl, _, _, rfl, rfl, _, _, rfl, rfl, by omega, _, _, rfl, rfl, ?_⟩
    have m0 := Int.fmod_nonneg_of_pos a (show 0 < c - 1 by omega)
    have m1 := Int.fmod_lt_of_pos a (show 0 < c - 1 by omega)
    obtain ⟨t, et⟩ : ∃ t, t = 1 + a.fmod (c - 1) := ⟨_, rfl⟩
    show gName 5 (V.int (1 + a.fmod (c - 1))) _ _ _
    rw [← et]
    have t1 : 1 ≤ t := by omega
    have t2 : t < c := by omega
    have wm := wide_mul (a := 3) (b := 104) (show s.natAbs < 2 ^ 3 by omega) (show t.natAbs < 2 ^ 104 by omega) (by decide) (by decide) (by decide)
    have st0 := Int.mul_nonneg (show 0 ≤ s by omega) (show 0 ≤ t by omega)
    have st4 := Int.mul_le_mul_of_nonneg_right s4 (show 0 ≤ t by omega)
    refine ⟨_, rfl, _, _, _, _, rfl, rfl, SqT.of (hrow2), rfl, _, rfl, _, _, _, _, rfl, rfl, SqT.of (hrow2), rfl, _, rfl, _, _, rfl, rfl, wm, _, _, rfl, rfl, _, rfl, _, _, _, _, rfl, rfl, SqT.of (hrow2), rfl, _, rfl, _, _, _, _, rfl, rfl, SqT.of (hrow2), rfl, _, rfl, _, _, rfl, rfl, (by show 3 ≤ sizeLine; decide), fun bh hbh => ?_⟩
    have s3 := same_upd (o := .tup [.int (f + s * t), .int s, .int (c - t)]) hbh
    have hbh' : Row3 (upd H2 bh (.tup [.int (f + s * t), .int s, .int (c - t)])) bh (f + s * t) s (c - t) := upd_same
    have hrow3 := s3 _ _ hrow2
    generalize upd H2 bh (.tup [.int (f + s * t), .int s, .int (c - t)]) = H3 at *
    refine ⟨_, rfl, _, rfl, _, _, _, _, rfl, rfl, SqT.of (hrow3), rfl, _, rfl, _, _, _, _, rfl, rfl, SqT.of (hrow3), rfl, _, rfl, (by show 3 ≤ sizeLine; decide), fun fi hfi => ?_⟩
    have s4' := same_upd (o := .tup [.int f, .int s, .int t]) hfi
    have hfi' : Row3 (upd H3 fi (.tup [.int f, .int s, .int t])) fi f s t := upd_same
    have hrow4 := s4' _ _ hrow3
    have hbh4 : Row3 _ bh (f + s * t) s (c - t) := s4' _ _ hbh'
    generalize upd H3 fi (.tup [.int f, .int s, .int t]) = H4 at *
    refine ⟨fi, f, s, t, rfl, hfi', fun z1 H5 s5 hz1 => ?_⟩
    refine ⟨(by show 2 ≤ sizeLine; decide), fun u1 hu1 => ?_⟩
    have s6 := same_upd (o := .tup [.int t, .ref z1]) hu1
    have hu1' : upd H5 u1 (.tup [.int t, .ref z1]) u1 = some (.tup [.int t, .ref z1]) := upd_same
    have hz1 : Row3 _ z1 _ _ _ := s6 _ _ hz1
    have hrow6 := s6 _ _ (s5 _ _ hrow4)
    have hbh6 : Row3 _ bh (f + s * t) s (c - t) := s6 _ _ (s5 _ _ hbh4)
    generalize upd H5 u1 (.tup [.int t, .ref z1]) = H6 at *
    refine ⟨_, rfl, _, _, _, _, rfl, rfl, SqT.of (hrow6), rfl, _, rfl, _, _, rfl, rfl, _, rfl, bh, f + s * t, s, c - t, rfl, hbh6, fun z2 H7 s7 hz2 => ?_⟩
    refine ⟨(by show 2 ≤ sizeLine; decide), fun u2 hu2 => ?_⟩
    have s8 := same_upd (o := .tup [.int (c - t), .ref z2]) hu2
    refine ⟨(by show 2 ≤ sizeLine; decide), fun M hM => ?_⟩
    have s9 := same_upd (o := .lst [.ref u1, .ref u2]) hM
    have sA := s3.trans (s4'.trans (s5.trans (s6.trans (s7.trans s8))))
    have hPA := hP2.same sA
    have nM := hPA.apart hM
    refine q M _ _ (hPA.same s9) (((k1.trans k2).trans (same_keeps sA)).trans (same_keeps s9)) nM.1 (none_keeps ((k1.trans k2).trans (same_keeps sA)) hM nM.1) (two_at upd_same (s9 _ _ (s8 _ _ (s7 _ _ hu1'))) (s9 _ _ upd_same) (s9 _ _ (s8 _ _ (s7 _ _ hz1))) (s9 _ _ (s8 _ _ hz2))) ?_
    have f0 := ok.f0
    exact pc_two ⟨f0, s1, s4, t1⟩ ⟨by omega, s1, s4, by omega⟩ ⟨Int.le_refl _, by omega⟩ ⟨by omega, by omega⟩ (by omega) fun k => in_cut ok t1 t2
end
end L

set_option Elab.async false
set_option linter.all false
set_option maxRecDepth 100000
set_option maxHeartbeats 4000000
set_option pp.maxSteps 160
set_option pp.deepTerms false
namespace L
open PySem PySem.Spec PyProof.Rows L2 Fl
local macro_rules | `(tactic| walk_at "side") => `(tactic| first | (exact .inl ⟨by omega, by omega⟩) | (exact .inr ⟨by omega, by omega⟩) | (exact .inr ⟨by decide, by decide⟩) | (show (_ : Int) ≠ _; omega) | (exact ⟨by omega, by decide⟩) | (exact ⟨by decide, by decide, by decide⟩))
local macro_rules | `(tactic| walk_at "go") => `(tactic| repeat (first | refine ⟨_, rfl, ?_⟩ | refine ⟨_, _, rfl, rfl, ?_⟩ | refine .inl ⟨_, rfl, ?_⟩ | refine ⟨rfl, ?_⟩ | refine ⟨(by walk_at "side"), ?_⟩))
local macro_rules | `(tactic| walk_at "see") => `(tactic| (set_option pp.maxSteps 110 in set_option pp.deepTerms false in trace_state))
local macro_rules | `(tactic| walk_at "if") => `(tactic| first | refine ifE ?_ ?_ | refine ifNE ?_ ?_ | refine ifD ?_ ?_ | refine ifN ?_ ?_ | refine ifB ?_ ?_)
open Bx

def mq (CP : Int) (p q : Pt) : Pt := ⟨p.n * q.c * (CP / p.c), q.f, q.s, q.c⟩
/-- the rows so far, otherwise told -/
structure Ot (CP Dn : Int) (ds out : List Pt) : Prop where
  sum : sumI (out.map Pt.n) = CP * sumI (ds.map Pt.n)
  ch : ∀ k, chR (Dn * CP) k out = chR Dn k ds
  ok : ∀ q ∈ out, 1 ≤ q.n ∧ Ru 105 q
  l2 : out.length ≤ 2 * ds.length
  l1 : ds.length ≤ out.length
theorem mq_sum {CP : Int} {p : Pt} : ∀ qs : List Pt, sumI ((qs.map (mq CP p)).map Pt.n) = p.n * (CP / p.c) * sumI (qs.map Pt.c)
  | [] => by
    show 0 = _ * 0
    rw [Int.mul_zero]
  | q :: r => by
    show p.n * q.c * (CP / p.c) + sumI ((r.map (mq CP p)).map Pt.n) = _ * (q.c + sumI (r.map Pt.c))
    rw [mq_sum r, Int.mul_add, Int.mul_assoc p.n q.c, Int.mul_comm q.c, Int.mul_assoc, Int.mul_assoc]
theorem mq_ch {CP Dn k : Int} {p : Pt} (d0 : 0 < Dn) (c0 : 0 < p.c) (e0 : 0 < CP / p.c) (eC : CP = p.c * (CP / p.c)) : ∀ qs : List Pt, (∀ q ∈ qs, 1 ≤ q.c) → chR (Dn * CP) k (qs.map (mq CP p)) = ((sumI (qs.map fun q => inN q.f q.s q.c k) : Int) : Rat) * (rq (p.n, Dn) * rq (1, p.c))
  | [], _ => by
    show (0 : Rat) = ((0 : Int) : Rat) * _
    rw [show ((0 : Int) : Rat) = 0 from rfl]
    grind
  | q :: r, h => by
    have ih := mq_ch d0 c0 e0 eC (k := k) r fun x hx => h x (List.mem_cons_of_mem _ hx)
    have q0 : 0 < q.c := by have := h q (List.mem_cons_self ..); omega
    show (if isin q.f q.s q.c k = true then rq (p.n * q.c * (CP / p.c), Dn * CP) * rq (1, q.c) else 0) + chR (Dn * CP) k (r.map (mq CP p)) = ((inN q.f q.s q.c k + sumI (r.map fun q => inN q.f q.s q.c k) : Int) : Rat) * _
    rw [ih, Rat.intCast_add]
    generalize CP / p.c = e at *
    have key : rq (p.n * q.c * e, Dn * CP) * rq (1, q.c) = rq (p.n, Dn) * rq (1, p.c) := by
      rw [rq_times, rq_times]
      refine (rq_eq (a := (p.n * q.c * e * 1, Dn * CP * q.c)) (b := (p.n * 1, Dn * p.c)) (Int.mul_pos (Int.mul_pos d0 (by rw [eC]; exact Int.mul_pos c0 e0)) q0) (Int.mul_pos d0 c0)).2 ?_
      show p.n * q.c * e * 1 * (Dn * p.c) = p.n * 1 * (Dn * CP * q.c)
      rw [eC]
      clear ih eC
      grind
    rw [key]
    unfold inN
    split
    · rw [show ((1 : Int) : Rat) = 1 from rfl]
      grind
    · rw [show ((0 : Int) : Rat) = 0 from rfl]
      grind
theorem chR_app {Dn k : Int} (ys xs : List Pt) : chR Dn k (xs ++ ys) = chR Dn k xs + chR Dn k ys := by
  rw [chR_sum, chR_sum, chR_sum, sumR_app]
theorem Ot.add {CP Dn : Int} {ds out qs : List Pt} {p : Pt} (h : Ot CP Dn ds out) (d0 : 0 < Dn) (dv : p.c ∣ CP) (C0 : 0 < CP) (n1 : 1 ≤ p.n) (ru : Ru 104 p) (pc : PcOk p.f p.s p.c qs) : Ot CP Dn (ds ++ [p]) (out ++ qs.map (mq CP p)) := by
  have c0 : 0 < p.c := by have := ru.ok.c1; omega
  have eC : CP = p.c * (CP / p.c) := (Int.mul_ediv_cancel' dv).symm
  have e0 : 0 < CP / p.c := by
    rcases (by omega : 0 < CP / p.c ∨ CP / p.c ≤ 0) with x | x
    · exact x
    · have := Int.mul_le_mul_of_nonneg_left x (show 0 ≤ p.c by omega)
      rw [← eC, Int.mul_zero] at this
      omega
  refine ⟨?_, fun k => ?_, fun q hq => ?_, ?_, ?_⟩
  · rw [List.map_append, sumI_app, h.sum, mq_sum, pc.sum, List.map_append, sumI_app, Int.mul_add]
    show _ + p.n * (CP / p.c) * p.c = _ + CP * (p.n + 0)
    rw [Int.add_zero, Int.mul_assoc, Int.mul_comm (CP / p.c), ← eC, Int.mul_comm p.n]
  · rw [chR_app, chR_app, h.ch k, mq_ch d0 c0 e0 eC qs fun q hq => (pc.ok q hq).1.c1, pc.at_ k]
    show _ = _ + ((if isin p.f p.s p.c k = true then rq (p.n, Dn) * rq (1, p.c) else 0) + 0)
    unfold inN
    split
    · rw [show ((1 : Int) : Rat) = 1 from rfl]
      grind
    · rw [show ((0 : Int) : Rat) = 0 from rfl]
      grind
  · rcases List.mem_append.mp hq with hq | hq
    · exact h.ok q hq
    · obtain ⟨x, hx, rfl⟩ := List.mem_map.mp hq
      obtain ⟨rx, b1, b2, b3⟩ := pc.ok x hx
      have xc := rx.c1
      have fb := ru.f
      have cb := ru.c
      have f0 := ru.ok.f0
      refine ⟨?_, rx, ?_, ?_⟩
      · show 1 ≤ p.n * x.c * (CP / p.c)
        have := Int.mul_pos (Int.mul_pos (show 0 < p.n by omega) (show 0 < x.c by omega)) e0
        omega
      · show x.f.natAbs < 2 ^ 107
        have fb : p.f.natAbs < 2 ^ 106 := fb
        omega
      · show x.c.natAbs < 2 ^ 105
        omega
  · rw [List.length_append, List.length_append, List.length_map]
    have := h.l2
    have := pc.l2
    show _ ≤ 2 * (ds.length + 1)
    omega
  · rw [List.length_append, List.length_append, List.length_map]
    have := h.l1
    have := pc.l1
    show ds.length + 1 ≤ _
    omega
theorem rqP_upd {b : Nat} {Dn : Int} {H : Hp} {l : Addr} {us ys : List V} {v : V} {p : Pt} (h : RqP b Dn H v p) (hl : H l = some (.lst us)) : RqP b Dn (upd H l (.lst ys)) v p := by
  obtain ⟨t, u, r, e, ht, ⟨n, d, hu, hh⟩, hr⟩ := h
  have hr' : H r = some (.tup [.int p.f, .int p.s, .int p.c]) := hr
  exact ⟨t, u, r, e, by rw [upd_ne (ne_of ht hl (by intro z; cases z))]; exact ht, ⟨n, d, by rw [upd_ne (ne_of hu hl (by intro z; cases z))]; exact hu, hh⟩, (show upd H l (.lst ys) r = _ by rw [upd_ne (ne_of hr' hl (by intro z; cases z))]; exact hr')⟩
theorem rq_addL {b : Nat} {Dn : Int} {H : Hp} {l : Addr} {us : List V} {ps : List Pt} {v : V} {p : Pt} (hl : H l = some (.lst us)) (hlen : us.length = ps.length) (hall : ∀ (i : Nat) (x : Pt), ps[i]? = some x → ∃ v, us[i]? = some v ∧ RqP b Dn H v x) (hv : RqP b Dn H v p) : LAt (RqP b Dn) (upd H l (.lst (us ++ [v]))) l (ps ++ [p]) := by
  refine LAt.cat (vs := [v]) (ys := [p]) hlen rfl (fun i x hx => ?_) (fun i x hx => ?_) upd_same
  · obtain ⟨u, h1, h2⟩ := hall i x hx
    exact ⟨u, h1, rqP_upd h2 hl⟩
  · rcases i with _ | i
    · cases hx
      exact ⟨v, rfl, rqP_upd hv hl⟩
    · cases hx
section
variable {P : Program} {w : World} {K : PySem.W.Frag} {mg : Str → Option Value} {base : Heap}

def spOther : Sp := fun vs H Q _ => ∃ (p : Pla) (M : Addr) (ps : List Pt), vs = [.ref p, .ref M] ∧ Pool H p ∧ LAt (RqP 110 (wsum ps)) H M ps ∧ M ≠ p ∧ Wk ps ∧ ∀ (N : Addr) (qs : List Pt) (D' : Int) (H' : Hp), Pool H' p → Keeps H H' p → N ≠ p → LAt (RqP 330 D') H' N qs → Qk D' qs → (∀ k, chR D' k qs = chR (wsum ps) k ps) → Q (.ref N) H'
theorem ok_other (C_times : CalTimesQ P w K mg base) (C_pieces : Cal P w K mg base 5 "_law_pieces" ["_law_pool_here", "_law_row"] spPieces) (Df : Dfn K mg "_law_otherwise" "_law_otherwise" s_otherwise ["_law_pool_here", "_law_rows_here"]) : Cal P w K mg base 35 "_law_otherwise" ["_law_pool_here", "_law_rows_here"] spOther := by
  refine Df.cal sc_otherwise (fun vs H Q E h => ?_) (fun fA cdv A outer st H vs Q E hr h => ?_)
  · obtain ⟨p, M, ps, rfl, _⟩ := h
    rfl
  · obtain ⟨p, M, ps, rfl, hP, hM, nM, wk, q⟩ := h
    refine ⟨_, (pss_cons (ps_set (i := 2) sc_otherwise.nd rfl (Or.inl rfl) (pe_lst pa_nil))
      (pss_cons (ps_for PassesOwn.never rfl (pi_list (pv 1)) (pg_name (i := 3) sc_otherwise.nd rfl (Or.inl rfl)) (pss_one (ps_for PassesOwn.never rfl (pi_list (pe_cal C_pieces (hr.mono (by decide)) (pa_cons (pv 0) (pa_cons (pe_ix ix_tup (pv 3) (pe_int) (fun _ _ => rfl)) pa_nil)))) (pg_name (i := 4) sc_otherwise.nd rfl (Or.inl rfl)) (pss_one ((ps_expr (pe_bm PySem.F.plainAttrs_list PySem.F.slot_list_append PySem.F.type_list_append mt_append (pv 2) (pa_cons (pe_tup (pa_cons (pe_cal C_times (hr.mono (by decide)) (pa_cons (pe_ix ix_tup (pv 3) (pe_int) (fun _ _ => rfl)) (pa_cons (pe_tup (pa_cons (pe_ix ix_tup (pv 4) (pe_int) (fun _ _ => rfl)) (pa_cons (pe_ix ix_tup (pe_ix ix_tup (pv 3) (pe_int) (fun _ _ => rfl)) (pe_int) (fun _ _ => rfl)) pa_nil))) pa_nil))) (pa_cons (pe_ix ix_tup (pv 4) (pe_int) (fun _ _ => rfl)) pa_nil))) pa_nil))))))))
      (pss_one (ps_ret (pv 2))))), ?_⟩
    have l3 := wk.l3
    obtain ⟨w0, wb⟩ := wk.w
    have C0 := cprod_pos ps fun p hp => (wk.ok p hp).2.2.ok.c1
    have Cb := cprod_bd (b := 104) ps fun p hp => (wk.ok p hp).2.2.c
    have Cb : (cprod ps).natAbs < 2 ^ 313 := Nat.lt_of_lt_of_le Cb (Nat.pow_le_pow_right (by decide) (by omega))
    refine ⟨(by show 0 ≤ sizeLine; decide), fun l hl => ?_⟩
    have sl := same_upd (o := .lst []) hl
    have hP0 := hP.upd (o := .lst []) hl
    have lp := hP.apart hl
    have hM0 := hM.same rqP_mono sl
    have K0 : Keeps H (upd H l (.lst [])) p := same_keeps sl
    have hl0 : upd H l (.lst []) l = some (.lst []) := upd_same
    have nMl : M ≠ l := by
      obtain ⟨us, h1, _⟩ := hM
      exact ne_of_none h1 hl
    generalize upd H l (.lst []) = H0 at *
    obtain ⟨us, hus, hlen, hall⟩ := id hM0
    refine ⟨_, rfl, M, rfl, ⟨_, SqL.of hus⟩, for_list (K := K) (a := M) (xs := us) (fun i σ' H' => Pool H' p ∧ Keeps H H' p ∧ LAt (RqP 110 (wsum ps)) H' M ps ∧ ∃ (out : List Pt) (o3 o4 : Option V), LAt (RqP 330 (wsum ps * cprod ps)) H' l out ∧ Ot (cprod ps) (wsum ps) (ps.take i) out ∧ H' M = some (.lst us) ∧ σ' = [some (.ref (p : Addr)), some (.ref M), some (.ref l), o3, o4])
      ⟨hP0, K0, hM0, [], none, none, ⟨[], hl0, rfl, fun i x h => by simp at h⟩, ⟨by show (0 : Int) = _ * 0; rw [Int.mul_zero], fun _ => rfl, fun _ h => by simp at h, Nat.zero_le _, by rw [List.take_zero]; exact Nat.le_refl _⟩, hus, rfl⟩ (fun i σ' H' _ h => by obtain ⟨_, _, _, _, _, _, _, _, h, _⟩ := h; exact SqL.of h) ?_ ?_⟩
    · rintro i v σ' H1 hv ⟨hP1, K1, hM1, out, o3, o4, hO, ot, hus1, rfl⟩
      obtain ⟨pp, hpp⟩ := item hlen hv
      obtain ⟨us', hus', _, hall1⟩ := id hM1
      rw [hus1] at hus'
      cases hus'
      obtain ⟨v', hv', t, u, r, rfl, ht, hu, hrow⟩ := hall1 i pp hpp
      rw [hv] at hv'
      cases hv'
      have il := (List.getElem?_eq_some_iff.mp hpp).1
      obtain ⟨n1, nb, ru⟩ := wk.ok pp (mem_at hpp)
      have hrow : H1 r = some (.tup [.int pp.f, .int pp.s, .int pp.c]) := hrow
      refine ⟨_, rfl, _, rfl, _, _, _, _, rfl, rfl, SqT.of (ht), rfl, p, r, pp.f, pp.s, pp.c, rfl, hP1, hrow, ru.ok, ru.f, ru.c, fun N qs H2 hP2 k2 nN fN hN pc => ?_⟩
      have hO2 := rq_keep hO hP1 lp.1 k2
      have hM2 := rq_keep hM1 hP1 nM k2
      have ht2 := tup_keep ht hP1 k2
      have hrow2 := tup_keep hrow hP1 k2
      have hu2 := hu.keep hP1 k2
      have hus2 := k2 _ _ hus1 nM
      have K2 := K1.trans k2
      obtain ⟨ns, hns, hln, han⟩ := id hN
      have nNl : N ≠ l := by
        obtain ⟨z, h1, _⟩ := hO
        intro e
        rw [e, h1] at fN
        cases fN
      have step := ot.add w0 (dvd_cprod ps pp (mem_at hpp)) C0 n1 ru pc
      have l2 := pc.l2
      have ol := ot.l2
      rw [List.length_take] at ol
      have sz : (1000 : Nat) ≤ sizeLine := by decide
      refine ⟨N, rfl, ⟨_, SqL.of hns⟩, for_list (K := K) (a := N) (xs := ns) (fun j σ' H' => Pool H' p ∧ Keeps H H' p ∧ Keeps H2 H' l ∧ ∃ o4 : Option V, LAt (RqP 330 (wsum ps * cprod ps)) H' l (out ++ (qs.take j).map (mq (cprod ps) pp)) ∧ σ' = [some (.ref (p : Addr)), some (.ref M), some (.ref l), some (.ref t), o4])
        ⟨hP2, K2, Keeps.refl _ _, o4, by rw [List.take_zero, List.map_nil, List.append_nil]; exact hO2, rfl⟩ (fun j σ' H' _ h => SqL.of (h.2.2.1 _ _ hns nNl)) ?_ ?_⟩
      · rintro j y σ' H3 hy ⟨hP3, K3, kl, o5, hO3, rfl⟩
        obtain ⟨q0, hq0⟩ := item hln hy
        obtain ⟨y', hy', tq, rqq, rfl, htq, hrq⟩ := han j q0 hq0
        rw [hy] at hy'
        cases hy'
        have jl := (List.getElem?_eq_some_iff.mp hq0).1
        obtain ⟨os, hos, hlo, hao⟩ := id hO3
        obtain ⟨z0, hz0, _⟩ := id hO2
        have tl : ∀ {b : Addr} {xs : List V}, H2 b = some (.tup xs) → H3 b = some (.tup xs) := fun {b xs} h => kl _ _ h (ne_of h hz0 (by intro z; cases z))
        have htq := tl htq
        have hrq : H3 rqq = some (.tup [.int q0.f, .int q0.s, .int q0.c]) := tl hrq
        have ht3 := tl ht2
        have hrow3 := tl hrow2
        have hu3 : RV 110 H3 u (rq (pp.n, wsum ps)) := by
          obtain ⟨a, b, h1, h2⟩ := hu2
          exact ⟨a, b, tl h1, h2⟩
        have qn := pc.n q0 (mem_at hq0)
        obtain ⟨rx, x1, x2, x3⟩ := pc.ok q0 (mem_at hq0)
        have xc := rx.c1
        have pcb := ru.c
        refine ⟨_, rfl, .inl ⟨rfl, _, SqL.of hos⟩, ?_⟩
        refine ⟨_, rfl, _, _, _, _, rfl, rfl, SqT.of (ht3), rfl, _, rfl, _, _, _, _, rfl, rfl, SqT.of (htq), rfl, _, rfl, _, _, _, _, rfl, rfl, SqT.of (ht3), rfl, _, _, _, _, rfl, rfl, SqT.of (hrow3), rfl, (by show 2 ≤ sizeLine; decide), fun t1 ht1 => ?_⟩
        have s4 := same_upd (o := .tup [.int q0.n, .int pp.c]) ht1
        have h1 : RV 104 (upd H3 t1 (.tup [.int q0.n, .int pp.c])) t1 (rq (q0.n, pp.c)) := RV.of upd_same (by have := ru.ok.c1; omega) (by rw [qn]; omega) pcb
        refine ⟨u, t1, _, _, 110, 104, rfl, hu3.same s4, h1, by decide, by decide, by decide, fun e H5 s5 he => ?_⟩
        have s45 := s4.trans s5
        refine ⟨_, rfl, _, _, _, _, rfl, rfl, SqT.of (s45 _ _ htq), rfl, (by show 2 ≤ sizeLine; decide), fun tn htn => ?_⟩
        have s6 := same_upd (o := .tup [.ref e, .ref rqq]) htn
        have s46 := s45.trans s6
        have hos6 := s46 _ _ hos
        have ev : rq (pp.n, wsum ps) * rq (q0.n, pp.c) = rq ((mq (cprod ps) pp q0).n, wsum ps * cprod ps) := by
          have dv := dvd_cprod ps pp (mem_at hpp)
          have eC : cprod ps = pp.c * (cprod ps / pp.c) := (Int.mul_ediv_cancel' dv).symm
          rw [rq_times, qn]
          refine (rq_eq (a := (pp.n * q0.c, wsum ps * pp.c)) (b := (pp.n * q0.c * (cprod ps / pp.c), wsum ps * cprod ps)) (Int.mul_pos w0 (by have := ru.ok.c1; omega)) (Int.mul_pos w0 C0)).2 ?_
          show pp.n * q0.c * (wsum ps * cprod ps) = pp.n * q0.c * (cprod ps / pp.c) * (wsum ps * pp.c)
          generalize cprod ps / pp.c = ee at *
          rw [eC]
          clear step ot eC
          grind
        refine ⟨l, os, _, rfl, rfl, hos6, by rw [hlo, List.length_append, List.length_map, List.length_take]; omega, (hP3.same s46).store lp.1 lp.2, keeps_late (K3.trans (same_keeps s46)) hl, ?_, _, ?_, rfl⟩
        · intro b o hb nb
          rw [upd_ne nb]
          exact s46 _ _ (kl _ _ hb nb)
        · rw [take_snoc hq0, List.map_append, ← List.append_assoc]
          refine rq_addL hos6 hlo (fun i x hx => ?_) ⟨tn, e, rqq, rfl, upd_same, ?_, s46 _ _ hrq⟩
          · obtain ⟨vv, h1, h2⟩ := hao i x hx
            exact ⟨vv, h1, rqP_mono _ _ _ _ s46 h2⟩
          · rw [← ev]
            exact (he.same s6).up (by decide)
      · rintro σ' H3 ⟨hP3, K3, kl, o5, hO3, rfl⟩
        rw [hln, List.take_length] at hO3
        obtain ⟨z0, hz0, _⟩ := id hO2
        refine ⟨hP3, K3, ?_, _, _, _, hO3, by rw [take_snoc hpp]; exact step, kl _ _ hus2 nMl, rfl⟩
        refine ⟨us, kl _ _ hus2 nMl, hlen, fun i x hx => ?_⟩
        obtain ⟨us'', hu'', _, hall2⟩ := id hM2
        rw [hus2] at hu''
        cases hu''
        obtain ⟨vv, h1, t', u', r', e', a1, ⟨n', d', a2, a3⟩, a4⟩ := hall2 i x hx
        have a4 : H2 r' = some (.tup [.int x.f, .int x.s, .int x.c]) := a4
        exact ⟨vv, h1, t', u', r', e', kl _ _ a1 (ne_of a1 hz0 (by intro z; cases z)), ⟨n', d', kl _ _ a2 (ne_of a2 hz0 (by intro z; cases z)), a3⟩, kl _ _ a4 (ne_of a4 hz0 (by intro z; cases z))⟩
    · rintro σ' H1 ⟨hP1, K1, hM1, out, o3, o4, hO, ot, hus1, rfl⟩
      rw [hlen, List.take_length] at ot
      have b2 := wide_lt wb Cb
      refine ⟨_, rfl, q l out (wsum ps * cprod ps) H1 hP1 K1 lp.1 hO ⟨Int.mul_pos w0 C0, ub b2 (by decide), ot.ok, by rw [ot.sum]; exact Int.mul_comm _ _, by have := ot.l1; have := wk.l1; omega, by have := ot.l2; omega⟩ ot.ch⟩
end
end L

set_option Elab.async false
set_option linter.all false
set_option maxRecDepth 100000
set_option maxHeartbeats 4000000
set_option pp.maxSteps 160
set_option pp.deepTerms false
namespace L
open PySem PySem.Spec PyProof.Rows L2 Fl
local macro_rules | `(tactic| walk_at "side") => `(tactic| first | (exact .inl ⟨by omega, by omega⟩) | (exact .inr ⟨by omega, by omega⟩) | (exact .inr ⟨by decide, by decide⟩) | (show (_ : Int) ≠ _; omega) | (exact ⟨by omega, by decide⟩) | (exact ⟨by decide, by decide, by decide⟩))
local macro_rules | `(tactic| walk_at "go") => `(tactic| repeat (first | refine ⟨_, rfl, ?_⟩ | refine ⟨_, _, rfl, rfl, ?_⟩ | refine .inl ⟨_, rfl, ?_⟩ | refine ⟨rfl, ?_⟩ | refine ⟨(by walk_at "side"), ?_⟩))
local macro_rules | `(tactic| walk_at "see") => `(tactic| (set_option pp.maxSteps 110 in set_option pp.deepTerms false in trace_state))
local macro_rules | `(tactic| walk_at "if") => `(tactic| first | refine ifE ?_ ?_ | refine ifNE ?_ ?_ | refine ifD ?_ ?_ | refine ifN ?_ ?_ | refine ifB ?_ ?_)
open Bx

theorem cut_lo (xs : List V) (i : Nat) (h : i ≤ xs.length) : cutV xs none (some (i : Int)) = xs.take i := by
  unfold cutV
  rw [HT.sIx_nat, HT.sIx_none, Nat.min_eq_left h, List.drop_zero, Nat.sub_zero]
theorem cut_hi (xs : List V) (i : Nat) (h : i ≤ xs.length) : cutV xs (some (i : Int)) none = xs.drop i := by
  unfold cutV
  rw [HT.sIx_nat, HT.sIx_none, Nat.min_eq_left h]
  exact List.take_of_length_le (by rw [List.length_drop]; exact Nat.le_refl _)
theorem lat_swap {H : Hp} {T : Addr} {us : List V} {ps : List Pt} {i : Nat} {v : V} {p : Pt} (hl : us.length = ps.length) (hi : i < ps.length) (hall : ∀ (i : Nat) (x : Pt), ps[i]? = some x → ∃ v, us[i]? = some v ∧ RowP H v x) (hv : RowP H v p) (hT : H T = some (.lst ((us.take i ++ [v]) ++ us.drop (i + 1)))) : LAt RowP H T ((ps.take i ++ [p]) ++ ps.drop (i + 1)) := by
  refine LAt.cat (by rw [List.length_append, List.length_append, List.length_take, List.length_take, hl]; rfl) (by rw [List.length_drop, List.length_drop, hl]) (fun j x hx => ?_) (fun j x hx => ?_) hT
  · have jl := (List.getElem?_eq_some_iff.mp hx).1
    rw [List.length_append, List.length_take] at jl
    have jl : j < min i ps.length + 1 := jl
    rcases (by omega : j < i ∨ j = i) with z | rfl
    · rw [List.getElem?_append_left (by rw [List.length_take]; omega), List.getElem?_take, if_pos z] at hx
      rw [List.getElem?_append_left (by rw [List.length_take]; omega), List.getElem?_take, if_pos z]
      exact hall j x hx
    · rw [List.getElem?_append_right (by rw [List.length_take]; omega), List.length_take, show j - min j ps.length = 0 by omega] at hx
      rw [List.getElem?_append_right (by rw [List.length_take]; omega), List.length_take, show j - min j us.length = 0 by omega]
      cases hx
      exact ⟨v, rfl, hv⟩
  · rw [List.getElem?_drop] at hx
    rw [List.getElem?_drop]
    exact hall _ x hx
/-- the answer by a walk to e -/
def Walk (bad : Int → Prop) (e : Int) : Option Int → Prop
  | none => ∀ k, 0 ≤ k → k < e → ¬ bad k
  | some x => 0 ≤ x ∧ x < e ∧ bad x ∧ ∀ k, 0 ≤ k → k < x → ¬ bad k
theorem walk_least {bad : Int → Prop} {e : Int} {r : Option Int} (h : Walk bad e r) (out : ∀ k, e ≤ k → ¬ bad k) : LeastP bad r := by
  cases r with
  | none =>
    intro k k0
    rcases (by omega : k < e ∨ e ≤ k) with z | z
    · exact h k k0 z
    · exact out k z
  | some x => exact ⟨h.1, h.2.2.1, h.2.2.2⟩
theorem leastP_uniq {bad : Int → Prop} {r s : Option Int} (h1 : LeastP bad r) (h2 : LeastP bad s) : s = r := by
  cases r with
  | none =>
    cases s with
    | none => rfl
    | some x => exact absurd h2.2.1 (h1 x h2.1)
  | some y =>
    cases s with
    | none => exact absurd h1.2.1 (h2 y h1.1)
    | some x =>
      have a : x ≤ y := by
        rcases (by omega : x ≤ y ∨ y < x) with z | z
        · exact z
        · exact absurd h1.2.1 (h2.2.2 y h1.1 z)
      have b : y ≤ x := by
        rcases (by omega : y ≤ x ∨ x < y) with z | z
        · exact z
        · exact absurd h2.2.1 (h1.2.2 x h2.1 z)
      rw [show x = y by omega]
theorem chR_out {Dn k : Int} : ∀ ps : List Pt, (∀ p ∈ ps, lastP p < k) → chR Dn k ps = 0
  | [], _ => rfl
  | p :: r, h => by
    have n : ¬ isin p.f p.s p.c k = true := by
      unfold isin
      rw [Bool.and_eq_true, Bool.and_eq_true, decide_eq_true_iff, decide_eq_true_iff]
      intro z
      have := h p (List.mem_cons_self ..)
      unfold lastP at this
      omega
    show (if isin p.f p.s p.c k = true then _ else 0) + chR Dn k r = 0
    rw [if_neg n, chR_out r fun q hq => h q (List.mem_cons_of_mem _ hq)]
    grind
section
variable {P : Program} {w : World} {K : PySem.W.Frag} {mg : Str → Option Value} {base : Heap}

structure Wl (ps : List Pt) : Prop where
  ok : ∀ p ∈ ps, 1 ≤ p.n ∧ p.n ≤ 10 ^ 30 + 9 ∧ RunOk p.f p.s p.c ∧ p.f < 10 ^ 31 ∧ p.c ≤ 10 ^ 31
  l1 : 0 < ps.length
  l3 : ps.length ≤ 3
theorem Wl.wk {ps : List Pt} (h : Wl ps) : Wk ps := ⟨fun p hp => by
  obtain ⟨n1, nb, ok, fb, cb⟩ := h.ok p hp
  have f0 := ok.f0
  have c1 := ok.c1
  exact ⟨n1, by omega, ok, (show p.f.natAbs < 2 ^ 106 by omega), (show p.c.natAbs < 2 ^ 104 by omega)⟩, h.l1, h.l3⟩
theorem wl_of {b : Bool} {ps qs : List Pt} (ok : PsOk ps) (bd : ∀ p ∈ ps, PBd b p) (l3 : ps.length ≤ 3) (h : qs = ps ∨ Hv ps qs) : Wl qs := by
  rcases h with rfl | h
  · refine ⟨fun p hp => ?_, ok.l1, l3⟩
    have o := ok.ok p hp
    have d := bd p hp
    exact ⟨o.n1, by have := d.n; omega, o.ok.ok, d.f, d.c⟩
  · refine ⟨fun q hq => ?_, by rw [h.len]; exact ok.l1, by rw [h.len]; exact l3⟩
    obtain ⟨i, hi⟩ := List.mem_iff_getElem?.mp hq
    obtain ⟨p, hp, e1, e2, e3, a1, a2⟩ := h.at i q hi
    have o := ok.ok p (mem_at hp)
    have d := bd p (mem_at hp)
    exact ⟨a1, by omega, by rw [e1, e2, e3]; exact o.ok.ok, by rw [e1]; exact d.f, by rw [e3]; exact d.c⟩
def spChanged : Sp := fun vs H Q _ => ∃ (p : Pla) (L : Addr) (ps : List Pt), vs = [.ref p, .ref L] ∧ Pool H p ∧ LAt RowP H L ps ∧ L ≠ p ∧ Wl ps ∧ ∀ (M : Addr) (qs : List Pt) (H' : Hp), Pool H' p → Keeps H H' p → M ≠ p → LAt RowP H' M qs → Wk qs → Q (.ref M) H'
theorem ok_changed (B : Blt mg) (C_draw : CalDrawA P w K mg base) (Df : Dfn K mg "_law_changed" "_law_changed" s_changed ["_law_pool_here", "_law_parts_here"]) : Cal P w K mg base 4 "_law_changed" ["_law_pool_here", "_law_parts_here"] spChanged := by
  refine Df.cal sc_changed (fun vs H Q E h => ?_) (fun fA cdv A outer st H vs Q E hr h => ?_)
  · obtain ⟨p, L, ps, rfl, _⟩ := h
    rfl
  · obtain ⟨p, L, ps, rfl, hP, hL, nL, wl, q⟩ := h
    have l1 := wl.l1
    have l3 := wl.l3
    refine ⟨_, (pss_cons (ps_set (i := 2) sc_changed.nd rfl (Or.inl rfl) (pe_cal C_draw (hr.mono (by decide)) (pa_cons (pv 0) (pa_cons (pe_callB call_len_seq (by rfl) B.len PySem.boot_len (pa_cons (pv 1) pa_nil)) pa_nil))))
      (pss_cons (ps_set (i := 3) sc_changed.nd rfl (Or.inl rfl) (pe_cal C_draw (hr.mono (by decide)) (pa_cons (pv 0) (pa_cons (pe_int) pa_nil))))
      (pss_cons (ps_asg (pe_ix ix_list (pv 1) (pv 2) (fun _ _ => rfl)) (pg_tup rfl (pgs_cons (pg_name (i := 4) sc_changed.nd rfl (Or.inl rfl)) (pgs_cons (pg_name (i := 5) sc_changed.nd rfl (Or.inl rfl)) pgs_nil))))
      (Evl.pss_cut (ps_if (pt_cmpR op_eq (pv 3) (pe_int) (nomark _)) (pss_one (ps_set (i := 4) sc_changed.nd rfl (Or.inl rfl) (pe_op op_add (pv 4) (pe_int)))) pss_nil)
      (Evl.pss_cut (ps_if (pt_cmpR op_eq (pv 3) (pe_int) (nomark _)) (pss_one (ps_set (i := 5) sc_changed.nd rfl (Or.inl rfl) (pe_tup (pa_cons (pe_op op_add (pe_ix ix_tup (pv 5) (pe_int) (fun _ _ => rfl)) (pe_int)) (pa_cons (pe_ix ix_tup (pv 5) (pe_int) (fun _ _ => rfl)) (pa_cons (pe_ix ix_tup (pv 5) (pe_int) (fun _ _ => rfl)) pa_nil)))))) pss_nil)
      (Evl.pss_cut (ps_if (pt_cmpR op_eq (pv 3) (pe_int) (nomark _)) (pss_one (ps_set (i := 5) sc_changed.nd rfl (Or.inl rfl) (pe_tup (pa_cons (pe_ix ix_tup (pv 5) (pe_int) (fun _ _ => rfl)) (pa_cons (pe_ix ix_tup (pv 5) (pe_int) (fun _ _ => rfl)) (pa_cons (pe_op op_add (pe_ix ix_tup (pv 5) (pe_int) (fun _ _ => rfl)) (pe_int)) pa_nil)))))) pss_nil)
      (pss_one (ps_ret (pe_op op_cat (pe_op op_cat (pe_slice sl_list (pv 1) po_none (po_some (pv 2))) (pe_lst (pa_cons (pe_tup (pa_cons (pv 4) (pa_cons (pv 5) pa_nil))) pa_nil))) (pe_slice sl_list (pv 1) (po_some (pe_op op_add (pv 2) (pe_int))) po_none)))))))))), ?_⟩
    obtain ⟨us0, hus0, hlen0, _⟩ := id hL
    refine ⟨_, rfl, _, rfl, _, _, rfl, .inl (SqL.of hus0), p, _, rfl, hP, by omega, by omega, fun i0 H1 i00 i01 hP1 k1 => ?_⟩
    obtain ⟨i, rfl⟩ : ∃ i : Nat, i0 = i := ⟨i0.toNat, by omega⟩
    have hL1 := rows_keep hL hP nL k1
    refine ⟨_, rfl, p, 3, rfl, hP1, by decide, by decide, fun w0 H2 _ _ hP2 k2 => ?_⟩
    have hL2 := rows_keep hL1 hP1 nL k2
    have k12 := k1.trans k2
    obtain ⟨us, hus, hlen, hall⟩ := id hL2
    have il : i < ps.length := by omega
    have hp : ps[i]? = some ps[i] := List.getElem?_eq_getElem il
    generalize ps[i] = pt at hp
    obtain ⟨v, hv, t, r, rfl, ht, hrow⟩ := hall i pt hp
    obtain ⟨n1, nb, ok, fb, cb⟩ := wl.ok pt (mem_at hp)
    have f0 := ok.f0
    have c1 := ok.c1
    refine ⟨_, rfl, _, rfl, _, _, _, _, rfl, rfl, SqL.of hus, at_of (j := i) (by omega) hv, ?_⟩
    refine ⟨t, _, rfl, SqT.of ht, rfl, _, _, rfl, _, _, rfl, rfl, ?_⟩
    have hrow : H2 r = some (.tup [.int pt.f, .int pt.s, .int pt.c]) := hrow
    refine ⟨fun σ' H' => ∃ (n : Int) (r : Addr) (f c : Int), σ' = [some (.ref (p : Addr)), some (.ref L), some (.int (i : Int)), some (.int w0), some (.int n), some (.ref r)] ∧ Same H2 H' ∧ H' r = some (.tup [.int f, .int pt.s, .int c]) ∧ 1 ≤ n ∧ n ≤ 10 ^ 30 + 10 ∧ 0 ≤ f ∧ f < 10 ^ 31 + 0 ∧ 1 ≤ c ∧ c ≤ 10 ^ 31 + 0, ?_, ?_⟩
    · refine ⟨_, rfl, rfl, _, rfl, ifE (fun _ => ?_) (fun _ => ?_)⟩
      · exact ⟨_, rfl, _, _, rfl, rfl, pt.n + 1, r, pt.f, pt.c, rfl, Same.refl H2, hrow, by omega, by omega, f0, fb, c1, cb⟩
      · exact ⟨pt.n, r, pt.f, pt.c, rfl, Same.refl H2, hrow, n1, by omega, f0, fb, c1, cb⟩
    rintro σ' H3 ⟨n, r, f, c, rfl, s3, hr3, a1, a2, a3, a4, a5, a6⟩
    refine ⟨fun σ' H' => ∃ (n : Int) (r : Addr) (f c : Int), σ' = [some (.ref (p : Addr)), some (.ref L), some (.int (i : Int)), some (.int w0), some (.int n), some (.ref r)] ∧ Same H2 H' ∧ H' r = some (.tup [.int f, .int pt.s, .int c]) ∧ 1 ≤ n ∧ n ≤ 10 ^ 30 + 10 ∧ 0 ≤ f ∧ f < 10 ^ 31 + 1 ∧ 1 ≤ c ∧ c ≤ 10 ^ 31 + 0, ?_, ?_⟩
    · refine ⟨_, rfl, rfl, _, rfl, ifE (fun _ => ?_) (fun _ => ?_)⟩
      · refine ⟨_, rfl, _, _, _, _, rfl, rfl, SqT.of (hr3), rfl, _, _, rfl, rfl, _, rfl, _, _, _, _, rfl, rfl, SqT.of (hr3), rfl, _, rfl, _, _, _, _, rfl, rfl, SqT.of (hr3), rfl, (by show 3 ≤ sizeLine; decide), fun z hz => ?_⟩
        exact ⟨n, z, f + 1, c, rfl, s3.trans (same_upd hz), upd_same, a1, a2, by omega, by omega, a5, a6⟩
      · exact ⟨n, r, f, c, rfl, s3, hr3, a1, a2, a3, by omega, a5, a6⟩
    rintro σ' H4 ⟨n, r, f, c, rfl, s4, hr4, a1, a2, a3, a4, a5, a6⟩
    refine ⟨fun σ' H' => ∃ (n : Int) (r : Addr) (f c : Int), σ' = [some (.ref (p : Addr)), some (.ref L), some (.int (i : Int)), some (.int w0), some (.int n), some (.ref r)] ∧ Same H2 H' ∧ H' r = some (.tup [.int f, .int pt.s, .int c]) ∧ 1 ≤ n ∧ n ≤ 10 ^ 30 + 10 ∧ 0 ≤ f ∧ f < 10 ^ 31 + 1 ∧ 1 ≤ c ∧ c ≤ 10 ^ 31 + 1, ?_, ?_⟩
    · refine ⟨_, rfl, rfl, _, rfl, ifE (fun _ => ?_) (fun _ => ?_)⟩
      · refine ⟨_, rfl, _, _, _, _, rfl, rfl, SqT.of (hr4), rfl, _, rfl, _, _, _, _, rfl, rfl, SqT.of (hr4), rfl, _, rfl, _, _, _, _, rfl, rfl, SqT.of (hr4), rfl, _, _, rfl, rfl, (by show 3 ≤ sizeLine; decide), fun z hz => ?_⟩
        exact ⟨n, z, f, c + 1, rfl, s4.trans (same_upd hz), upd_same, a1, a2, a3, a4, by omega, by omega⟩
      · exact ⟨n, r, f, c, rfl, s4, hr4, a1, a2, a3, a4, a5, by omega⟩
    rintro σ' H5 ⟨n, r, f, c, rfl, s5, hr5, a1, a2, a3, a4, a5, a6⟩
    have hus5 := s5 _ _ hus
    have sz : (1000 : Nat) ≤ sizeLine := by decide
    refine ⟨_, rfl, _, rfl, _, rfl, L, us, rfl, SqL.of hus5, fun x1 hx1 => ?_⟩
    have s6 := same_upd (o := .lst (cutV us none (some (i : Int)))) hx1
    have y1 : upd H5 x1 (.lst (cutV us none (some (i : Int)))) x1 = some (.lst (us.take i)) := by rw [upd_same, cut_lo us i (by omega)]
    generalize upd H5 x1 (.lst (cutV us none (some (i : Int)))) = H6 at *
    refine ⟨_, rfl, _, rfl, (by show 2 ≤ sizeLine; decide), fun tn htn => ?_⟩
    have s7 := same_upd (o := .tup [.int n, .ref r]) htn
    have ytn : upd H6 tn (.tup [.int n, .ref r]) tn = some (.tup [.int n, .ref r]) := upd_same
    have y1 := s7 _ _ y1
    generalize upd H6 tn (.tup [.int n, .ref r]) = H7 at *
    refine ⟨(by show 1 ≤ sizeLine; decide), fun x2 hx2 => ?_⟩
    have s8 := same_upd (o := .lst [.ref tn]) hx2
    have y2 : upd H7 x2 (.lst [.ref tn]) x2 = some (.lst [.ref tn]) := upd_same
    have y1 := s8 _ _ y1
    generalize upd H7 x2 (.lst [.ref tn]) = H8 at *
    refine ⟨x1, x2, _, _, rfl, rfl, y1, y2, by rw [List.length_take]; show _ + 1 ≤ sizeLine; omega, fun x3 hx3 => ?_⟩
    have s9 := same_upd (o := .lst (us.take i ++ [.ref tn])) hx3
    have y3 : upd H8 x3 (.lst (us.take i ++ [.ref tn])) x3 = some (.lst (us.take i ++ [.ref tn])) := upd_same
    generalize upd H8 x3 (.lst (us.take i ++ [.ref tn])) = H9 at *
    have s69 := s6.trans (s7.trans (s8.trans s9))
    refine ⟨_, rfl, _, rfl, _, _, rfl, rfl, _, rfl, L, us, rfl, SqL.of (s69 _ _ hus5), fun x4 hx4 => ?_⟩
    have sA := same_upd (o := .lst (cutV us (some ((i : Int) + 1)) none)) hx4
    have y4 : upd H9 x4 (.lst (cutV us (some ((i : Int) + 1)) none)) x4 = some (.lst (us.drop (i + 1))) := by rw [upd_same, show (i : Int) + 1 = ((i + 1 : Nat) : Int) by omega, cut_hi us (i + 1) (by omega)]
    have y3 := sA _ _ y3
    generalize upd H9 x4 (.lst (cutV us (some ((i : Int) + 1)) none)) = HA at *
    refine ⟨x3, x4, _, _, rfl, rfl, y3, y4, by rw [List.length_append, List.length_take, List.length_drop]; show _ + 1 + _ ≤ sizeLine; omega, fun M hM => ?_⟩
    have sB := same_upd (o := .lst ((us.take i ++ [.ref tn]) ++ us.drop (i + 1))) hM
    have s2B := s5.trans (s69.trans (sA.trans sB))
    have hPB := hP2.same (s5.trans (s69.trans sA))
    have nM := hPB.apart hM
    have sBt := (s8.trans (s9.trans (sA.trans sB)))
    refine q M _ _ (hPB.same sB) (k12.trans (same_keeps s2B)) nM.1 (lat_swap (p := ⟨n, f, pt.s, c⟩) hlen il (fun j x hx => ?_) ⟨tn, r, rfl, sBt _ _ ytn, (show Row _ r f pt.s c from (s69.trans (sA.trans sB)) _ _ hr5)⟩ upd_same) ⟨fun x hx => ?_, ?_, ?_⟩
    · obtain ⟨vv, h1, h2⟩ := hall j x hx
      exact ⟨vv, h1, rowP_mono _ _ _ _ s2B h2⟩
    · have old : ∀ x ∈ ps, 1 ≤ x.n ∧ x.n.natAbs < 2 ^ 105 ∧ Ru 104 x := fun x hx => wl.wk.ok x hx
      rcases List.mem_append.mp hx with hx | hx
      · rcases List.mem_append.mp hx with hx | hx
        · exact old x (List.mem_of_mem_take hx)
        · rw [List.mem_singleton.mp hx]
          exact ⟨a1, (show n.natAbs < 2 ^ 105 by omega), ⟨a3, ok.s1, ok.s4, a5⟩, (show f.natAbs < 2 ^ 106 by omega), (show c.natAbs < 2 ^ 104 by omega)⟩
      · exact old x (List.mem_of_mem_drop hx)
    · rw [List.length_append, List.length_append]
      show 0 < _ + 1 + _
      omega
    · rw [List.length_append, List.length_append, List.length_take, List.length_drop]
      show _ + 1 + _ ≤ 3
      omega
end
end L

set_option Elab.async false
set_option linter.all false
set_option maxRecDepth 100000
set_option maxHeartbeats 4000000
set_option pp.maxSteps 160
set_option pp.deepTerms false
namespace L
open PySem PySem.Spec PyProof.Rows L2 Fl
local macro_rules | `(tactic| walk_at "side") => `(tactic| first | (exact .inl ⟨by omega, by omega⟩) | (exact .inr ⟨by omega, by omega⟩) | (exact .inr ⟨by decide, by decide⟩) | (show (_ : Int) ≠ _; omega) | (exact ⟨by omega, by decide⟩) | (exact ⟨by decide, by decide, by decide⟩))
local macro_rules | `(tactic| walk_at "go") => `(tactic| repeat (first | refine ⟨_, rfl, ?_⟩ | refine ⟨_, _, rfl, rfl, ?_⟩ | refine .inl ⟨_, rfl, ?_⟩ | refine ⟨rfl, ?_⟩ | refine ⟨(by walk_at "side"), ?_⟩))
local macro_rules | `(tactic| walk_at "see") => `(tactic| (set_option pp.maxSteps 110 in set_option pp.deepTerms false in trace_state))
local macro_rules | `(tactic| walk_at "if") => `(tactic| first | refine ifE ?_ ?_ | refine ifNE ?_ ?_ | refine ifD ?_ ?_ | refine ifN ?_ ?_ | refine ifB ?_ ?_)
open Bx

def nrm (p : Pt) : Pt := ⟨p.n, p.f, if p.c > 1 then p.s else 1, p.c⟩
theorem nrm_ok {p : Pt} (h : RunOk p.f p.s p.c) : RunOk (nrm p).f (nrm p).s (nrm p).c := by
  obtain ⟨h1, h2, h3, h4⟩ := h
  refine ⟨h1, ?_, ?_, h4⟩ <;> (show (_ : Int) ≤ _; unfold nrm; dsimp only; split <;> omega)
theorem nrm_in {p : Pt} {k : Int} (h : RunOk p.f p.s p.c) : isin (nrm p).f (nrm p).s (nrm p).c k = isin p.f p.s p.c k := by
  show isin p.f (if p.c > 1 then p.s else 1) p.c k = _
  split
  · rfl
  · rename_i h1
    have c1 := h.c1
    have e : p.c = 1 := by omega
    have := in_one (f := p.f) (s := p.s) (k := k) h.s1
    rw [e]
    unfold inN at this
    cases a : isin p.f p.s 1 k <;> cases b : isin p.f 1 1 k <;> simp [a, b] at this ⊢
theorem nrm_ch {Dn k : Int} : ∀ ps : List Pt, (∀ p ∈ ps, RunOk p.f p.s p.c) → chR Dn k (ps.map nrm) = chR Dn k ps
  | [], _ => rfl
  | p :: r, h => by
    show (if isin (nrm p).f (nrm p).s (nrm p).c k = true then rq (p.n, Dn) * rq (1, p.c) else 0) + chR Dn k (r.map nrm) = _
    rw [nrm_in (h p (List.mem_cons_self ..)), nrm_ch r fun q hq => h q (List.mem_cons_of_mem _ hq)]
    rfl
theorem nrm_n : ∀ ps : List Pt, (ps.map nrm).map Pt.n = ps.map Pt.n
  | [] => rfl
  | p :: r => by rw [List.map_cons, List.map_cons, nrm_n r]; rfl
/-- the blend's parts of a law's rows -/
def bp (ps : List Pt) : List Pt := tog (ps.map nrm)
theorem bp_ch {Dn k : Int} {ps : List Pt} (qk : Qk Dn ps) : chR Dn k (bp ps) = chR Dn k ps := by
  have t := tg_of (φ := chT Dn k) (R := fun _ => True) (ps := ps.map nrm) (fun _ _ _ => trivial) (fun p q h => chT_add p q h) fun p hp => by
    obtain ⟨x, hx, rfl⟩ := List.mem_map.mp hp
    exact ⟨trivial, (qk.ok x hx).1⟩
  rw [← nrm_ch ps fun p hp => (qk.ok p hp).2.ok, chR_sum, chR_sum]
  exact t.eq
theorem bp_ok {Dn : Int} {ps : List Pt} (qk : Qk Dn ps) : (∀ q ∈ bp ps, (RunOk q.f q.s q.c ∧ q.c.natAbs < 2 ^ 105) ∧ q.n.natAbs < 2 ^ 430) ∧ (bp ps).length ≤ 6 := by
  have t := tg_of (φ := fun p => (p.n : Rat)) (R := fun q => RunOk q.f q.s q.c ∧ q.c.natAbs < 2 ^ 105) (ps := ps.map nrm) (fun _ _ h => h) (fun p q h => n_add p q h) fun p hp => by
    obtain ⟨x, hx, rfl⟩ := List.mem_map.mp hp
    exact ⟨⟨nrm_ok (qk.ok x hx).2.ok, (qk.ok x hx).2.c⟩, (qk.ok x hx).1⟩
  have e := t.eq
  rw [sumR_n, sumR_n, nrm_n, qk.sum] at e
  have e : sumI ((bp ps).map Pt.n) = Dn := by exact_mod_cast e
  refine ⟨fun q hq => ⟨(t.run q hq).1, ?_⟩, ?_⟩
  · have := mem_le_sum (fun x hx => (t.run x hx).2) q hq
    have n1 := (t.run q hq).2
    have db := qk.db
    have this : q.n ≤ sumI ((bp ps).map Pt.n) := this
    generalize (2 : Nat) ^ 430 = z at *
    omega
  · have := t.len
    rw [List.length_map] at this
    have := qk.l6
    show (tog (ps.map nrm)).length ≤ 6
    omega
theorem Qk.fd {D1 D2 : Int} {ps qs : List Pt} (a : Qk D1 ps) (b : Qk D2 qs) : ∃ U, FdOk D1 D2 (bp ps) (bp qs) U := by
  obtain ⟨a1, a2⟩ := bp_ok a
  obtain ⟨b1, b2⟩ := bp_ok b
  have ca := cprod_bd (b := 105) (bp ps) fun p hp => (a1 p hp).1.2
  have cb := cprod_bd (b := 105) (bp qs) fun p hp => (b1 p hp).1.2
  have ca : (cprod (bp ps)).natAbs < 2 ^ 631 := Nat.lt_of_lt_of_le ca (Nat.pow_le_pow_right (by decide) (by omega))
  have cb : (cprod (bp qs)).natAbs < 2 ^ 631 := Nat.lt_of_lt_of_le cb (Nat.pow_le_pow_right (by decide) (by omega))
  have pa := cprod_pos (bp ps) fun p hp => (a1 p hp).1.1.c1
  have pb := cprod_pos (bp qs) fun p hp => (b1 p hp).1.1.c1
  have wa := Int.mul_pos a.d0 pa
  have wb := Int.mul_pos b.d0 pb
  exact ⟨D1 * cprod (bp ps) * (D2 * cprod (bp qs)), a.d0, b.d0, fun p hp => ⟨(a1 p hp).1.1, ub (a1 p hp).2 (by decide)⟩, fun p hp => ⟨(b1 p hp).1.1, ub (b1 p hp).2 (by decide)⟩, by omega, by omega, Int.mul_pos wa wb, ub (wide_lt (wide_lt a.db ca) (wide_lt b.db cb)) (by decide), und_of (Int.ne_of_gt a.d0) ⟨_, rfl⟩, und_of (Int.ne_of_gt b.d0) ⟨_, Int.mul_comm _ _⟩⟩
theorem Qk.bd {Dn : Int} {ps : List Pt} (h : Qk Dn ps) : Bd ((ps.map nrm).map Pt.n) Dn := by
  rw [nrm_n]
  refine ⟨h.d0, ub h.db (by decide), fun n hn => ?_, by rw [List.length_map]; have := h.l6; omega⟩
  obtain ⟨p, hp, rfl⟩ := List.mem_map.mp hn
  have a := mem_le_sum (fun p hp => (h.ok p hp).1) p hp
  rw [h.sum] at a
  have := (h.ok p hp).1
  have db := h.db
  have : p.n.natAbs < 2 ^ 430 := by
    generalize (2 : Nat) ^ 430 = z at *
    omega
  exact ub this (by decide)
theorem Qk.nn {Dn : Int} {ps : List Pt} (h : Qk Dn ps) : anyNeg ((ps.map nrm).map Pt.n) = false := by
  rw [nrm_n]
  unfold anyNeg
  rw [Bool.eq_false_iff]
  intro z
  rw [List.any_eq_true] at z
  obtain ⟨b, hb, e⟩ := z
  obtain ⟨n, hn, rfl⟩ := List.mem_map.mp hb
  obtain ⟨p, hp, rfl⟩ := List.mem_map.mp hn
  have := (h.ok p hp).1
  have e2 : decide (p.n < 0) = true := e
  rw [decide_eq_true_iff] at e2
  omega
theorem lat_catR {b c : Nat} {D1 D2 : Int} {H : Hp} {M N T : Addr} {us ws : List V} {ps qs : List Pt} (hM : LAt (RqP b D1) H M ps) (hN : LAt (RqP c D2) H N qs) (hu : H M = some (.lst us)) (hw : H N = some (.lst ws)) (hT : H T = some (.lst (us ++ ws))) : LAt RpP H T (ps ++ qs) := by
  obtain ⟨us', a1, a2, a3⟩ := lat_rq hM
  obtain ⟨ws', b1, b2, b3⟩ := lat_rq hN
  rw [hu] at a1
  cases a1
  rw [hw] at b1
  cases b1
  exact LAt.cat a2 b2 a3 b3 hT

def ILst (H : Hp) (D : Addr) (ns : List Int) : Prop := H D = some (.lst (ns.map V.int))
def IntP : Hp → V → Int → Prop := fun _ v n => v = .int n
theorem intP_mono : Mono IntP := fun _ _ _ _ _ h => h
theorem ilst_of {H : Hp} {D : Addr} {ns : List Int} (h : LAt IntP H D ns) : ILst H D ns := by
  obtain ⟨vs, h1, h2, h3⟩ := h
  have e : vs = ns.map V.int := by
    refine List.ext_getElem? fun i => ?_
    rcases (by omega : i < ns.length ∨ ns.length ≤ i) with x | x
    · obtain ⟨v, hv, e⟩ := h3 i ns[i] (List.getElem?_eq_getElem x)
      rw [hv, List.getElem?_map, List.getElem?_eq_getElem x, e]
      rfl
    · rw [List.getElem?_eq_none (by omega), List.getElem?_eq_none (by rw [List.length_map]; omega)]
  unfold ILst
  rw [← e]
  exact h1
theorem LAt.ilst {H : Hp} {D : Addr} {ns : List Int} (h : ILst H D ns) : LAt IntP H D ns := ⟨_, h, by rw [List.length_map], fun i n hn => ⟨.int n, by rw [List.getElem?_map, hn]; rfl, rfl⟩⟩
theorem imap_at {ns : List Int} {i : Nat} {v : V} (h : (ns.map V.int)[i]? = some v) : ∃ n, ns[i]? = some n ∧ v = .int n := by
  rw [List.getElem?_map] at h
  cases e : ns[i]? with
  | none => rw [e] at h; cases h
  | some n => rw [e] at h; cases h; exact ⟨n, rfl, rfl⟩
theorem five_at {i : Nat} {v : V} (h : ([.int 1, .int 2, .int 3, .int 4, .int 12] : List V)[i]? = some v) : ∃ k : Int, v = .int k ∧ 1 ≤ k := by
  rcases i with _ | _ | _ | _ | _ | i
  · cases h; exact ⟨_, rfl, by decide⟩
  · cases h; exact ⟨_, rfl, by decide⟩
  · cases h; exact ⟨_, rfl, by decide⟩
  · cases h; exact ⟨_, rfl, by decide⟩
  · cases h; exact ⟨_, rfl, by decide⟩
  · cases h
section
variable {P : Program} {w : World} {K : PySem.W.Frag} {mg : Str → Option Value} {base : Heap}
def spGreatest : Sp := fun vs H Q _ => ∃ (L : Addr) (ps : List Pt), vs = [.ref L] ∧ LAt RpP H L ps ∧ (∀ p ∈ ps, Ru 105 p) ∧ 0 < ps.length ∧ ps.length ≤ 64 ∧ ∀ m : Int, m ∈ ps.map lastP → (∀ y ∈ ps.map lastP, y ≤ m) → Q (.int m) H
abbrev CalGreatest (P : Program) (w : World) (K : PySem.W.Frag) (mg : Str → Option Value) (base : Heap) := Cal P w K mg base 2 "_law_greatest" ["_law_parts_here"] spGreatest
theorem ok_greatest (B : Blt mg) (C_last : Cal P w K mg base 1 "_law_last" ["_law_row"] spLast3) (Df : Dfn K mg "_law_greatest" "_law_greatest" s_greatest ["_law_parts_here"]) : CalGreatest P w K mg base := by
  refine Df.cal sc_greatest (fun vs H Q E h => ?_) (fun fA cdv A outer st H vs Q E hr h => ?_)
  · obtain ⟨L, ps, rfl, _⟩ := h
    rfl
  · obtain ⟨L, ps, rfl, ⟨vs, hvs, hlen, hall⟩, ok, l0, l64, q⟩ := h
    refine ⟨_, (pss_cons (ps_set (i := 1) sc_greatest.nd rfl (Or.inl rfl) (pe_int))
      (pss_cons (ps_for PassesOwn.never rfl (pi_list (pv 0)) (pg_name (i := 2) sc_greatest.nd rfl (Or.inl rfl)) (pss_one (ps_if (pt_cmpR op_gt (pe_cal C_last (hr.mono (by decide)) (pa_cons (pe_ix ix_tup (pv 2) (pe_int) (fun _ _ => rfl)) pa_nil)) (pv 1) (nomark _)) (pss_one (ps_set (i := 1) sc_greatest.nd rfl (Or.inl rfl) (pe_cal C_last (hr.mono (by decide)) (pa_cons (pe_ix ix_tup (pv 2) (pe_int) (fun _ _ => rfl)) pa_nil)))) pss_nil)))
      (pss_one (ps_ret (pv 1))))), ?_⟩
    refine ⟨_, rfl, L, rfl, ⟨_, SqL.of hvs⟩, for_list (K := K) (a := L) (xs := vs) (fun i σ' H' => H' = H ∧ ∃ (m : Int) (o : Option V), σ' = [some (.ref L), some (.int m), o] ∧ 0 ≤ m ∧ (m = 0 ∨ m ∈ (ps.take i).map lastP) ∧ ∀ y ∈ (ps.take i).map lastP, y ≤ m)
      ⟨rfl, 0, none, rfl, Int.le_refl 0, .inl rfl, fun y hy => by simp at hy⟩ (fun i σ' H' _ h => h.1 ▸ SqL.of hvs) ?_ ?_⟩
    · rintro i y σ' H' hy ⟨rfl, m, o, rfl, m0, hm, hle⟩
      obtain ⟨p, hp⟩ := item hlen hy
      obtain ⟨y', hy', t, xx, r, rfl, ht, hrow⟩ := hall i p hp
      rw [hy] at hy'
      cases hy'
      have pk := ok p (mem_at hp)
      have rb := pk.rb
      have hl : 0 ≤ lastP p := by have := pk.last; omega
      have e := take_snoc hp
      refine ⟨_, rfl, _, _, _, _, rfl, rfl, SqT.of (ht), rfl, r, p.f, p.s, p.c, rfl, hrow, rb, _, rfl, _, _, rfl, rfl, _, rfl, ifD (fun hg => ?_) (fun hg => ?_)⟩
      · refine ⟨_, rfl, _, _, _, _, rfl, rfl, SqT.of (ht), rfl, r, p.f, p.s, p.c, rfl, hrow, rb, ?_⟩
        have hg' : lastP p > m := hg
        refine ⟨rfl, lastP p, _, rfl, hl, .inr (by rw [e, List.map_append]; exact List.mem_append_right _ (List.mem_cons_self ..)), fun z hz => ?_⟩
        rw [e, List.map_append, List.mem_append] at hz
        rcases hz with hz | hz
        · have := hle z hz
          omega
        · rw [List.map_cons, List.map_nil, List.mem_singleton] at hz
          omega
      · have hg' : ¬ lastP p > m := hg
        refine ⟨rfl, m, _, rfl, m0, hm.imp id (fun h => by rw [e, List.map_append]; exact List.mem_append_left _ h), fun z hz => ?_⟩
        rw [e, List.map_append, List.mem_append] at hz
        rcases hz with hz | hz
        · exact hle z hz
        · rw [List.map_cons, List.map_nil, List.mem_singleton] at hz
          omega
    · rintro σ' H' ⟨rfl, m, o, rfl, m0, hm, hle⟩
      rw [hlen, List.take_length] at hm hle
      refine ⟨_, rfl, q m ?_ hle⟩
      rcases hm with hm | hm
      · have hp : ps[0]? = some ps[0] := List.getElem?_eq_getElem l0
        have h1 := hle (lastP ps[0]) (List.mem_map_of_mem (mem_at hp))
        have h2 : 0 ≤ lastP ps[0] := by have := (ok _ (mem_at hp)).last; omega
        rw [show m = lastP ps[0] by omega]
        exact List.mem_map_of_mem (mem_at hp)
      · exact hm

def spRowBlend (C D F : Addr) : Sp := fun vs H Q _ => ∃ (M : Addr) (Dn : Int) (ps : List Pt), vs = [.ref M] ∧ LAt (RqP 330 Dn) H M ps ∧ Qk Dn ps ∧ ∀ (x : Addr) (H' : Hp), Same H H' → BlAt C D F Dn H' x (bp ps) → Q (.ref x) H'
theorem ok_rowBlend {C D F BS BN ZU : Addr} (B : Blt mg) (M2 : CalRatio P w K mg base C ZU []) (MR : CalRun P w K mg base D BN) (MB : CalBlend P w K mg base C D F BS) (Df : Dfn K mg "_law_row_blend" "_law_row_blend" s_row_blend ["_law_rows_here"]) : Cal P w K mg base 8 "_law_row_blend" ["_law_rows_here"] (spRowBlend C D F) := by
  refine Df.cal sc_row_blend (fun vs H Q E h => ?_) (fun fA cdv A outer st H vs Q E hr h => ?_)
  · obtain ⟨M, Dn, ps, rfl, _⟩ := h
    rfl
  · obtain ⟨M, Dn, ps, rfl, hM, qk, q⟩ := h
    have l6 := qk.l6
    refine ⟨_, (pss_one (ps_ret (pe_mk MB (hr.mono (by decide)) (pa_cons (pe_lc (own := [("_law_row", 1)]) (g := gName 1) rfl sc_row_blend.nd (pi_list (pv 0)) (blkOk_by (N := ["_law_rows_here", "_law_row"]) (sc := defScope s_row_blend) (by decide +kernel)) (fun _ _ _ _ _ => pg_name (i := 1) sc_row_blend.nd rfl (Or.inl rfl)) (fun _ _ _ _ _ => pts_nil) (fun _ _ _ _ _ => (pe_tup (pa_cons (pe_mk M2 (hr.mono (by decide)) (pa_cons (pe_ix (show IxR _ (rIxT K) from ix_tup) (pe_ix (show IxR _ (rIxT K) from ix_tup) (pv 1) (pe_int) (fun _ _ => rfl)) (pe_int) (fun _ _ => rfl)) (pa_cons (pe_ix (show IxR _ (rIxT K) from ix_tup) (pe_ix (show IxR _ (rIxT K) from ix_tup) (pv 1) (pe_int) (fun _ _ => rfl)) (pe_int) (fun _ _ => rfl)) pa_nil))) (pa_cons (pe_mk MR (hr.mono (by decide)) (pa_cons (pe_ix (show IxR _ (rIxT K) from ix_tup) (pe_ix (show IxR _ (rIxT K) from ix_tup) (pv 1) (pe_int) (fun _ _ => rfl)) (pe_int) (fun _ _ => rfl)) (pa_cons (pe_ix (show IxR _ (rIxT K) from ix_tup) (pe_ix (show IxR _ (rIxT K) from ix_tup) (pv 1) (pe_int) (fun _ _ => rfl)) (pe_int) (fun _ _ => rfl)) (pa_cons (pe_ix (show IxR _ (rIxT K) from ix_tup) (pe_ix (show IxR _ (rIxT K) from ix_tup) (pv 1) (pe_int) (fun _ _ => rfl)) (pe_int) (fun _ _ => rfl)) pa_nil)))) pa_nil))))) pa_nil)))), ?_⟩
    obtain ⟨vs, hvs, hlen, hall⟩ := id hM
    refine ⟨_, rfl, M, rfl, ⟨_, SqL.of hvs⟩, fun D1 hD1 => lc_build (xs := vs) (InP C D Dn) (ps.map nrm) (inP_mono C D _) hD1 (by rw [List.length_map]; exact hlen) (SqL.of hvs) (by rw [List.length_map]; omega) ?_ ?_⟩
    · rintro i y p' H2 Kc Ke hy hp' s ⟨acc, hacc⟩ kk
      obtain ⟨p, hp⟩ := item hlen hy
      rw [List.getElem?_map, hp] at hp'
      cases hp'
      obtain ⟨y', hy', t, u, r, rfl, ht, hu, hrow⟩ := hall i p hp
      rw [hy] at hy'
      cases hy'
      obtain ⟨n1, ru⟩ := qk.ok p (mem_at hp)
      obtain ⟨f0, s1, s4, c1⟩ := ru.ok
      obtain ⟨n', d', hu1, d0, bn, bd, eq⟩ := hu.same s
      have ht := s _ _ ht
      have hrow : H2 r = some (.tup [.int p.f, .int p.s, .int p.c]) := s _ _ hrow
      refine ⟨rfl, ?_⟩
      refine ⟨_, rfl, _, _, _, _, rfl, rfl, SqT.of (ht), rfl, _, _, _, _, rfl, rfl, SqT.of (hu1), rfl, _, rfl, _, _, _, _, rfl, rfl, SqT.of (ht), rfl, _, _, _, _, rfl, rfl, SqT.of (hu1), rfl, fun x dx nx nd ne => ⟨x, dx, n', d', rfl, upd_same, ub bd (by decide), fun _ H3 h3 k3 => ⟨rfl, ?_⟩, fun h => absurd h (by omega)⟩⟩
      have s3 := made nx nd k3
      have ht3 := s3 _ _ ht
      have hr3 := s3 _ _ hrow
      refine ⟨_, rfl, _, _, _, _, rfl, rfl, SqT.of (ht3), rfl, _, _, _, _, rfl, rfl, SqT.of (hr3), rfl, _, rfl, _, _, _, _, rfl, rfl, SqT.of (ht3), rfl, _, _, _, _, rfl, rfl, SqT.of (hr3), rfl, _, rfl, _, _, _, _, rfl, rfl, SqT.of (ht3), rfl, _, _, _, _, rfl, rfl, SqT.of (hr3), rfl, fun u2 du nu ndu neu => ⟨u2, du, p.f, p.s, p.c, rfl, upd_same, fun h => absurd h (by omega), fun _ h => absurd h (by omega), fun _ _ _ h => absurd h (by omega), fun _ _ _ _ H4 h4 k4 => ⟨rfl, ?_⟩⟩⟩
      have s4' := made nu ndu k4
      refine ⟨(by show 2 ≤ sizeLine; decide), fun tm htm => ?_⟩
      have sm := same_upd (o := .tup [.ref x, .ref u2]) htm
      have hacc5 := sm _ _ (s4' _ _ (s3 _ _ hacc))
      refine kk _ _ ((s3.trans s4').trans sm) ?_
      have rr : RatQ C H3 x p.n Dn := RatQ.re (show RatQ C H3 x n' d' from ⟨dx, h3⟩) (Int.ne_of_gt d0) (Int.ne_of_gt qk.d0) ((rq_eq (a := (n', d')) (b := (p.n, Dn)) d0 qk.d0).1 eq)
      exact ⟨tm, .ref x, u2, rfl, wo_at upd_same (ne_of upd_same hacc5 (by intro z; cases z)), NumQ.wo (.inr ⟨x, rfl, rr.same (s4'.trans sm)⟩) hacc5, RunAt.wo ⟨du, sm _ _ h4⟩ hacc5⟩
    intro H2 s2 hS
    refine fun x dx nx nd ne => ⟨x, dx, D1, ps.map nrm, Dn, rfl, upd_same, hS.same (inP_mono C D _) (new2 nx nd ne), qk.bd, by rw [List.length_map]; omega, fun h => absurd h (by rw [qk.nn]; exact Bool.false_ne_true), fun _ h => absurd (by rw [nrm_n]; exact qk.sum) h, fun _ _ k H' kp hk hB hxk hO => ⟨rfl, ?_⟩⟩
    exact q x H' (s2.trans (made nx nd kp)) hB
def spWalked : Sp := fun vs H Q _ => ∃ (M N : Addr) (e D1 D2 : Int) (ps qs : List Pt), vs = [.ref M, .ref N, .int e] ∧ LAt (RqP 330 D1) H M ps ∧ LAt (RqP 330 D2) H N qs ∧ (∀ p ∈ ps, Ru 105 p) ∧ (∀ p ∈ qs, Ru 105 p) ∧ ps.length ≤ 6 ∧ qs.length ≤ 6 ∧ 0 ≤ e ∧ e ≤ 24 ∧ ∀ (r : Option Int) (H' : Hp), Same H H' → Walk (fun k => chR D1 k ps ≠ chR D2 k qs) e r → Q (optV r) H'
theorem ok_walked (B : Blt mg) (C_apart : Cal P w K mg base 36 "_law_apart" ["_law_one", "_law_other", "_law_y"] spApart) (Df : Dfn K mg "_law_walked" "_law_walked" s_walked ["_law_one", "_law_other", "_law_end"]) : Cal P w K mg base 37 "_law_walked" ["_law_one", "_law_other", "_law_end"] spWalked := by
  refine Df.cal sc_walked (fun vs H Q E h => ?_) (fun fA cdv A outer st H vs Q E hr h => ?_)
  · obtain ⟨M, N, e, D1, D2, ps, qs, rfl, _⟩ := h
    rfl
  · obtain ⟨M, N, e, D1, D2, ps, qs, rfl, hM, hN, r1, r2, l1, l2, e0, e24, q⟩ := h
    refine ⟨_, (pss_cons (ps_for PassesOwn.never rfl (pi_range1 (by rfl) B.range (pa_cons (pv 2) pa_nil)) (pg_name (i := 3) sc_walked.nd rfl (Or.inl rfl)) (pss_one (ps_if (pt_val (pe_cal C_apart (hr.mono (by decide)) (pa_cons (pv 0) (pa_cons (pv 1) (pa_cons (pv 3) pa_nil))))) (pss_one (ps_ret (pv 3))) pss_nil)))
      (pss_one (ps_ret (pe_non)))), ?_⟩
    refine ⟨_, rfl, e, rfl, by omega, by omega, for_range (n := e.toNat) (fun i σ' H' => Same H H' ∧ ∃ o : Option V, (∀ k : Int, 0 ≤ k → k < (i : Int) → ¬ chR D1 k ps ≠ chR D2 k qs) ∧ σ' = [some (.ref M), some (.ref N), some (.int e), o])
      ⟨Same.refl H, none, fun k h1 h2 => absurd h2 (by omega), rfl⟩ ?_ ?_⟩
    · rintro i σ' H1 hi ⟨s1, o, old, rfl⟩
      refine ⟨_, rfl, _, rfl, _, rfl, M, N, 0 + (i : Int), D1, D2, ps, qs, rfl, hM.same rqP_mono s1, hN.same rqP_mono s1, r1, r2, l1, l2, fun k H2 s2 hk => ⟨_, rfl, ?_⟩⟩
      cases k with
      | true =>
        refine iteT ?_
        exact ⟨_, rfl, q (some (0 + (i : Int))) H2 (s1.trans s2) ⟨by omega, by omega, hk.1 rfl, fun k h1 h2 => old k h1 (by omega)⟩⟩
      | false =>
        refine iteF ⟨s1.trans s2, _, fun k h1 h2 hb => ?_, rfl⟩
        rcases (by omega : k < i ∨ k = 0 + (i : Int)) with h | rfl
        · exact old k h1 h hb
        · have := hk.2 hb
          cases this
    · rintro σ' H1 ⟨s1, o, old, rfl⟩
      exact q none H1 s1 fun k h1 h2 => old k h1 (by omega)

def spAlike : Sp := fun vs H Q _ => ∃ r : Option Int, vs = [optV r, optV r] ∧ Q (.bl true) H
theorem ok_alike (C_whole : CalWhole P w K mg base) (Df : Dfn K mg "_law_alike" "_law_alike" s_alike ["_law_one", "_law_other"]) : Cal P w K mg base 3 "_law_alike" ["_law_one", "_law_other"] spAlike := by
  refine Df.cal sc_alike (fun vs H Q E h => ?_) (fun fA cdv A outer st H vs Q E hr h => ?_)
  · obtain ⟨r, rfl, _⟩ := h
    rfl
  · obtain ⟨r, rfl, q⟩ := h
    refine ⟨_, (pss_cons (ps_if (PW.pt (pw_or (pt_cmpR op_isN (pv 0) (pe_non) (nomark _)) (pw_or1 (pt_cmpR op_isN (pv 1) (pe_non) (nomark _))))) (pss_one (ps_ret ((pe_and (pe_cmpR op_isN (pv 0) (pe_non) (nomark _)) (pe_one (pe_cmpR op_isN (pv 1) (pe_non) (nomark _))))))) pss_nil)
      (pss_one (ps_ret ((pe_and (pe_cal C_whole (hr.mono (by decide)) (pa_cons (pv 0) pa_nil)) (pe_and (pe_cal C_whole (hr.mono (by decide)) (pa_cons (pv 1) pa_nil)) (pe_one (pe_cmpR op_eq (pv 0) (pv 1) (nomark _))))))))), ?_⟩
    cases r with
    | none =>
      refine ⟨_, rfl, rfl, _, rfl, iteT (iteT ?_)⟩
      refine ⟨_, rfl, rfl, _, rfl, iteT ?_⟩
      exact ⟨_, rfl, rfl, q⟩
    | some x =>
      refine ⟨_, rfl, rfl, _, rfl, iteF ?_⟩
      refine ⟨_, rfl, rfl, _, rfl, iteF ?_⟩
      refine ⟨_, rfl, x, rfl, _, rfl, iteT ?_⟩
      refine ⟨_, rfl, x, rfl, _, rfl, iteT ?_⟩
      refine ⟨_, rfl, _, rfl, rfl, ?_⟩
      rw [show decide (optV (some x) = optV (some x)) = true from decide_eq_true rfl]
      exact q

def spDiffers : Sp := fun vs H Q _ => ∃ (M N pl : Addr) (D1 D2 : Int) (ps qs : List Pt) (ns : List Int) (r : Option Int), vs = [optV r, .ref M, .ref N, .ref pl] ∧ LAt (RqP 330 D1) H M ps ∧ LAt (RqP 330 D2) H N qs ∧ Qk D1 ps ∧ Qk D2 qs ∧ ILst H pl ns ∧ ns.length ≤ 6 ∧ (∀ x ∈ ns, 0 ≤ x) ∧ LeastP (fun k => chR D1 k ps ≠ chR D2 k qs) r ∧ ∀ H', Same H H' → Q (.bl true) H'
theorem ok_differs (B : Blt mg) (C_whole : CalWhole P w K mg base) (C_last : Cal P w K mg base 1 "_law_last" ["_law_row"] spLast3) (C_greatest : CalGreatest P w K mg base) (C_apart : Cal P w K mg base 36 "_law_apart" ["_law_one", "_law_other", "_law_y"] spApart) (C_walked : Cal P w K mg base 37 "_law_walked" ["_law_one", "_law_other", "_law_end"] spWalked) (C_alike : Cal P w K mg base 3 "_law_alike" ["_law_one", "_law_other"] spAlike) (Df : Dfn K mg "_law_differs" "_law_differs" s_differs ["_law_told", "_law_one", "_law_other", "_law_places"]) : Cal P w K mg base 38 "_law_differs" ["_law_told", "_law_one", "_law_other", "_law_places"] spDiffers := by
  have C_law_apart := C_apart
  have C_law_last := C_last
  refine Df.cal sc_differs (fun vs H Q E h => ?_) (fun fA cdv A outer st H vs Q E hr h => ?_)
  · obtain ⟨M, N, pl, D1, D2, ps, qs, ns, r, rfl, _⟩ := h
    rfl
  · obtain ⟨M, N, pl, D1, D2, ps, qs, ns, r, rfl, hM, hN, qa, qb, hpl, l6, hns, lst, q⟩ := h
    refine ⟨_, (pss_cons (ps_set (i := 4) sc_differs.nd rfl (Or.inl rfl) (pe_op op_add (pe_cal C_greatest (hr.mono (by decide)) (pa_cons (pe_op op_cat (pv 1) (pv 2)) pa_nil)) (pe_int)))
      (pss_cons (ps_if (pt_cmpR op_le (pv 4) (pe_int) (nomark _)) (pss_one (ps_ret (pe_cal C_alike (hr.mono (by decide)) (pa_cons (pv 0) (pa_cons (pe_cal C_walked (hr.mono (by decide)) (pa_cons (pv 1) (pa_cons (pv 2) (pa_cons (pv 4) pa_nil)))) pa_nil))))) pss_nil)
      (Evl.pss_cut (ps_if (pt_cmpR op_isN (pv 0) (pe_non) (nomark _)) (pss_one (ps_set (i := 5) sc_differs.nd rfl (Or.inl rfl) (pe_op op_cat (pe_op op_cat (pv 3) (pe_lc (own := [("_law_row", 6)]) (g := gName 6) rfl sc_differs.nd (pi_list (pe_op op_cat (pv 1) (pv 2))) (blkOk_by (N := ["_law_told", "_law_one", "_law_other", "_law_places", "_law_end", "_law_tried", "_law_row", "_law_k", "_law_place", "_law_y"]) (sc := defScope s_differs) (by decide +kernel)) (fun _ _ _ _ _ => pg_name (i := 6) sc_differs.nd rfl (Or.inl rfl)) (fun _ _ _ _ _ => pts_nil) (fun _ _ _ _ _ => (pe_ix (show IxR _ (rIxT K) from ix_tup) (pe_ix (show IxR _ (rIxT K) from ix_tup) (pv 6) (pe_int) (fun _ _ => rfl)) (pe_int) (fun _ _ => rfl))))) (pe_lc (own := [("_law_row", 6)]) (g := gName 6) rfl sc_differs.nd (pi_list (pe_op op_cat (pv 1) (pv 2))) (blkOk_by (N := ["_law_told", "_law_one", "_law_other", "_law_places", "_law_end", "_law_tried", "_law_row", "_law_k", "_law_place", "_law_y"]) (sc := defScope s_differs) (by decide +kernel)) (fun _ _ _ _ _ => pg_name (i := 6) sc_differs.nd rfl (Or.inl rfl)) (fun _ _ _ _ _ => pts_nil) (fun _ _ _ _ _ => (pe_cal C_last (hr.mono (by decide)) (pa_cons (pe_ix (show IxR _ (rIxT K) from ix_tup) (pv 6) (pe_int) (fun _ _ => rfl)) pa_nil))))))) (pss_cons (ps_if (PW.pt (pw_or (pt_not (pt_val (pe_cal C_whole (hr.mono (by decide)) (pa_cons (pv 0) pa_nil)))) (pw_or (pt_cmpR op_lt (pv 0) (pe_int) (nomark _)) (pw_or1 (pt_not (pt_val (pe_cal C_apart (hr.mono (by decide)) (pa_cons (pv 1) (pa_cons (pv 2) (pa_cons (pv 0) pa_nil)))))))))) (pss_one (ps_ret (pe_bl))) pss_nil)
      (pss_cons (ps_set (i := 5) sc_differs.nd rfl (Or.inl rfl) (pe_lst pa_nil))
      (pss_one (ps_if (pt_cmpR op_gt (pv 0) (pe_int) (nomark _)) (pss_one (ps_set (i := 5) sc_differs.nd rfl (Or.inl rfl) (pe_op op_cat (pe_lc (own := [("_law_k", 7)]) (g := (gName 7)) rfl sc_differs.nd (pi_tup (pe_tup (pa_cons pe_int (pa_cons pe_int (pa_cons pe_int (pa_cons pe_int (pa_cons pe_int pa_nil))))))) (blkOk_by (N := ["_law_told", "_law_one", "_law_other", "_law_places", "_law_end", "_law_tried", "_law_row", "_law_k", "_law_place", "_law_y"]) (sc := defScope s_differs) (by decide +kernel)) (fun _ _ _ _ _ => (pg_name (i := 7) sc_differs.nd rfl (Or.inl rfl))) (fun _ _ _ _ _ => (pts_one (pt_cmpR op_le (pv 7) (pv 0) (nomark _)))) (fun _ _ _ _ _ => (pe_op op_sub (pv 0) (pv 7)))) (pe_lc (own := [("_law_place", 8)]) (g := gName 8) rfl sc_differs.nd (pi_list (pv 3)) (blkOk_by (N := ["_law_told", "_law_one", "_law_other", "_law_places", "_law_end", "_law_tried", "_law_row", "_law_k", "_law_place", "_law_y"]) (sc := defScope s_differs) (by decide +kernel)) (fun _ _ _ _ _ => pg_name (i := 8) sc_differs.nd rfl (Or.inl rfl)) (fun _ _ _ _ _ => pts_nil) (fun _ _ _ _ _ => (pe_op op_modN (pe_callTy call_int1 (by rfl) B.int (by decide +kernel) (pa_cons (pv 8) pa_nil)) (pv 0))))))) pss_nil)))))
      (pss_one (ps_ret (pe_notT (pe_lc (own := [("_law_y", 9)]) (g := (gName 9)) rfl sc_differs.nd (pi_list (pv 5)) (blkOk_by (N := ["_law_told", "_law_one", "_law_other", "_law_places", "_law_end", "_law_tried", "_law_row", "_law_k", "_law_place", "_law_y"]) (sc := defScope s_differs) (by decide +kernel)) (fun _ _ _ _ _ => (pg_name (i := 9) sc_differs.nd rfl (Or.inl rfl))) (fun _ _ _ _ _ => (pts_one (pt_val (pe_cal C_apart (hr.mono (by decide)) (pa_cons (pv 1) (pa_cons (pv 2) (pa_cons (pv 9) pa_nil))))))) (fun _ _ _ _ _ => (pv 9))))))))), ?_⟩
    have sz : (1000 : Nat) ≤ sizeLine := by decide
    have r1 : ∀ p ∈ ps, Ru 105 p := fun p hp => (qa.ok p hp).2
    have r2 : ∀ p ∈ qs, Ru 105 p := fun p hp => (qb.ok p hp).2
    have rr : ∀ p ∈ ps ++ qs, Ru 105 p := fun p hp => (List.mem_append.mp hp).elim (r1 p) (r2 p)
    have la := qa.l6
    have lb := qb.l6
    have la1 := qa.l1
    obtain ⟨us, hus, hul, _⟩ := id hM
    obtain ⟨ws, hws, hwl, _⟩ := id hN
    refine ⟨_, rfl, _, rfl, M, N, _, _, rfl, rfl, hus, hws, by omega, fun T hT => ?_⟩
    have sT := same_upd (o := .lst (us ++ ws)) hT
    have hT' := lat_catR (hM.same rqP_mono sT) (hN.same rqP_mono sT) (sT _ _ hus) (sT _ _ hws) upd_same
    generalize upd H T (.lst (us ++ ws)) = H0 at *
    refine ⟨T, ps ++ qs, rfl, hT', rr, by rw [List.length_append]; omega, by rw [List.length_append]; omega, fun G hG hGa => ?_⟩
    obtain ⟨pG, hpG, eG⟩ := List.mem_map.mp hG
    have lG := (rr pG hpG).last
    have lall : ∀ p ∈ ps ++ qs, lastP p ≤ G := fun p hp => hGa _ (List.mem_map_of_mem hp)
    refine ⟨_, _, rfl, rfl, ?_⟩
    obtain ⟨e, he⟩ : ∃ e, e = G + 1 := ⟨_, rfl⟩
    show gName 4 (V.int (G + 1)) _ _ _
    rw [← he]
    have hM0 := hM.same rqP_mono sT
    have hN0 := hN.same rqP_mono sT
    have hpl0 : ILst H0 pl ns := sT _ _ hpl
    have hus0 := sT _ _ hus
    have hws0 := sT _ _ hws
    refine ⟨_, rfl, _, _, rfl, rfl, _, rfl, ifD (fun le => ?_) (fun gt => ?_)⟩
    · refine ⟨_, rfl, _, rfl, _, rfl, _, rfl, M, N, e, D1, D2, ps, qs, rfl, hM0, hN0, r1, r2, la, lb, by omega, by omega, fun res H1 s1 wk => ?_⟩
      have lst2 := walk_least wk fun k hk hb => hb (by rw [chR_out ps fun p hp => by have := lall p (List.mem_append_left _ hp); omega, chR_out qs fun p hp => by have := lall p (List.mem_append_right _ hp); omega])
      obtain rfl := leastP_uniq lst2 lst
      exact ⟨r, rfl, q _ (sT.trans s1)⟩
    refine ⟨fun σ' H' => ∃ (T : Addr) (ys : List Int), σ' = [some (optV r), some (.ref M), some (.ref N), some (.ref pl), some (.int e), some (.ref T), none, none, none, none] ∧ Same H H' ∧ ILst H' T ys ∧ ys.length ≤ 40 ∧ ∀ y ∈ ys, ¬ chR D1 y ps ≠ chR D2 y qs, ?_, ?_⟩
    · cases r with
      | none =>
        have all : ∀ k, 0 ≤ k → ¬ chR D1 k ps ≠ chR D2 k qs := lst
        refine ⟨_, rfl, rfl, _, rfl, iteT ?_⟩
        refine ⟨_, rfl, _, rfl, _, rfl, M, N, _, _, rfl, rfl, hus0, hws0, by omega, fun T1 hT1 => ?_⟩
        have s1 := same_upd (o := .lst (us ++ ws)) hT1
        have hT1' : upd H0 T1 (.lst (us ++ ws)) T1 = some (.lst (us ++ ws)) := upd_same
        have hR1 := lat_catR (hM0.same rqP_mono s1) (hN0.same rqP_mono s1) (s1 _ _ hus0) (s1 _ _ hws0) upd_same
        generalize upd H0 T1 (.lst (us ++ ws)) = H1 at *
        obtain ⟨vs1, hv1, hvl1, hva1⟩ := id hR1
        rw [hT1'] at hv1
        cases hv1
        refine ⟨T1, rfl, ⟨_, SqL.of hT1'⟩, fun E1 hE1 => lc_build (xs := us ++ ws) IntP ((ps ++ qs).map Pt.f) intP_mono hE1 (by rw [List.length_map]; exact hvl1) (SqL.of hT1') (by rw [List.length_map, List.length_append]; omega) ?_ ?_⟩
        · rintro i x y H3 Kc Ke hx hy s3 _ kk
          obtain ⟨pp, hp⟩ := item hvl1 hx
          rw [List.getElem?_map, hp] at hy
          cases hy
          obtain ⟨x', hx', t, xx, rr0, rfl, ht, hrow⟩ := hva1 i pp hp
          rw [hx] at hx'
          cases hx'
          have ht := s3 _ _ ht
          have hrow : H3 rr0 = some (.tup [.int pp.f, .int pp.s, .int pp.c]) := s3 _ _ hrow
          refine ⟨rfl, ?_⟩
          exact ⟨_, rfl, _, _, _, _, rfl, rfl, SqT.of (ht), rfl, _, _, _, _, rfl, rfl, SqT.of (hrow), rfl, kk _ _ (Same.refl H3) rfl⟩
        intro H2 s2 hF
        have hF := ilst_of hF
        have s12 := s1.trans s2
        refine ⟨pl, E1, _, _, rfl, rfl, (show ILst H2 pl ns from s12 _ _ hpl0), hF, by rw [List.length_map, List.length_map, List.length_map, List.length_append]; omega, fun c1 hc1 => ?_⟩
        have s3 := same_upd (o := .lst (ns.map V.int ++ ((ps ++ qs).map Pt.f).map V.int)) hc1
        have hc1' : ILst (upd H2 c1 (.lst (ns.map V.int ++ ((ps ++ qs).map Pt.f).map V.int))) c1 (ns ++ (ps ++ qs).map Pt.f) := by unfold ILst; rw [upd_same]; exact congrArg (fun l => some (HO.lst l)) List.map_append.symm
        generalize upd H2 c1 (.lst (ns.map V.int ++ ((ps ++ qs).map Pt.f).map V.int)) = H3 at *
        have s13 := s12.trans s3
        refine ⟨_, rfl, _, rfl, M, N, _, _, rfl, rfl, s13 _ _ hus0, s13 _ _ hws0, by omega, fun T2 hT2 => ?_⟩
        have s4 := same_upd (o := .lst (us ++ ws)) hT2
        have hT2' : upd H3 T2 (.lst (us ++ ws)) T2 = some (.lst (us ++ ws)) := upd_same
        have s14 := s13.trans s4
        have hR2 := lat_catR (hM0.same rqP_mono s14) (hN0.same rqP_mono s14) (s14 _ _ hus0) (s14 _ _ hws0) upd_same
        have hc4 := s4 _ _ hc1'
        generalize upd H3 T2 (.lst (us ++ ws)) = H4 at *
        obtain ⟨vs2, hv2, hvl2, hva2⟩ := id hR2
        rw [hT2'] at hv2
        cases hv2
        refine ⟨T2, rfl, ⟨_, SqL.of hT2'⟩, fun E2 hE2 => lc_build (xs := us ++ ws) IntP ((ps ++ qs).map lastP) intP_mono hE2 (by rw [List.length_map]; exact hvl2) (SqL.of hT2') (by rw [List.length_map, List.length_append]; omega) ?_ ?_⟩
        · rintro i x y H5 Kc Ke hx hy s5 _ kk
          obtain ⟨pp, hp⟩ := item hvl2 hx
          rw [List.getElem?_map, hp] at hy
          cases hy
          obtain ⟨x', hx', t, xx, rr0, rfl, ht, hrow⟩ := hva2 i pp hp
          rw [hx] at hx'
          cases hx'
          have ht := s5 _ _ ht
          have hrow : H5 rr0 = some (.tup [.int pp.f, .int pp.s, .int pp.c]) := s5 _ _ hrow
          refine ⟨rfl, ?_⟩
          exact ⟨_, rfl, _, _, _, _, rfl, rfl, SqT.of (ht), rfl, rr0, pp.f, pp.s, pp.c, rfl, hrow, (rr pp (mem_at hp)).rb, kk _ _ (Same.refl H5) rfl⟩
        intro H5 s5 hG2
        have hG2 := ilst_of hG2
        refine ⟨c1, E2, _, _, rfl, rfl, s5 _ _ hc4, hG2, by simp only [List.length_map, List.length_append]; omega, fun T hT => ?_⟩
        have s6 := same_upd (o := .lst ((ns ++ (ps ++ qs).map Pt.f).map V.int ++ ((ps ++ qs).map lastP).map V.int)) hT
        refine ⟨T, (ns ++ (ps ++ qs).map Pt.f) ++ (ps ++ qs).map lastP, rfl, sT.trans (s14.trans (s5.trans s6)), by unfold ILst; rw [upd_same]; exact congrArg (fun l => some (HO.lst l)) List.map_append.symm, by simp only [List.length_map, List.length_append]; omega, fun y hy => ?_⟩
        refine all y ?_
        rcases List.mem_append.mp hy with hy | hy
        · rcases List.mem_append.mp hy with hy | hy
          · exact hns y hy
          · obtain ⟨a, ha, rfl⟩ := List.mem_map.mp hy
            exact (rr a ha).last.1
        · obtain ⟨a, ha, rfl⟩ := List.mem_map.mp hy
          have := (rr a ha).last
          omega
      | some x =>
        obtain ⟨x0, bx, old⟩ := lst
        have bx : chR D1 x ps ≠ chR D2 x qs := bx
        have old : ∀ k, 0 ≤ k → k < x → ¬ chR D1 k ps ≠ chR D2 k qs := old
        refine ⟨_, rfl, rfl, _, rfl, iteF ?_⟩
        refine ⟨_, rfl, x, rfl, _, rfl, iteF ?_⟩
        refine ⟨_, rfl, _, _, rfl, rfl, _, rfl, itF (by omega) ?_⟩
        refine ⟨_, rfl, _, rfl, _, rfl, M, N, x, D1, D2, ps, qs, rfl, hM0, hN0, r1, r2, la, lb, fun k H1 s1 hk => ?_⟩
        obtain rfl : k = true := hk.2 bx
        have sG1 := sT.trans s1
        have hpl0 : ILst H pl ns := hpl
        refine ⟨_, rfl, iteF ?_⟩
        refine ⟨(by show 0 ≤ sizeLine; decide), fun e1 he1 => ?_⟩
        have s2 := same_upd (o := .lst []) he1
        have he2 : ILst (upd H1 e1 (.lst [])) e1 [] := upd_same
        have s02 := sG1.trans s2
        generalize upd H1 e1 (.lst []) = H2 at *
        refine ⟨_, rfl, _, _, rfl, rfl, _, rfl, ifD (fun xp => ?_) (fun xn => ?_)⟩
        · refine ⟨(by show 5 ≤ sizeLine; decide), fun tp htp => ?_⟩
          have s3 := same_upd (o := .tup [.int 1, .int 2, .int 3, .int 4, .int 12]) htp
          have htp' : upd H2 tp (.tup [.int 1, .int 2, .int 3, .int 4, .int 12]) tp = some (.tup [.int 1, .int 2, .int 3, .int 4, .int 12]) := upd_same
          have s03 := s02.trans s3
          generalize upd H2 tp (.tup [.int 1, .int 2, .int 3, .int 4, .int 12]) = H3 at *
          refine ⟨tp, rfl, ⟨_, SqT.of htp'⟩, fun D hD => lc_tup (xs := [.int 1, .int 2, .int 3, .int 4, .int 12]) (fun j H' => Same H3 H' ∧ ∃ ys : List Int, ILst H' D ys ∧ ys.length ≤ j ∧ ∀ y ∈ ys, 0 ≤ y ∧ y < x) ⟨same_upd hD, [], upd_same, Nat.le_refl 0, fun _ h => nomatch h⟩ (fun j H' _ h => SqT.of (h.1 _ _ htp')) ?_ ?_⟩
          · rintro j v H4 hx ⟨s4, ys, hD4, lj, hys⟩
            have jl := (List.getElem?_eq_some_iff.mp hx).1
            have jl : j < 5 := jl
            obtain ⟨k, rfl, k1⟩ := five_at hx
            refine ⟨rfl, ?_⟩
            refine ⟨_, rfl, _, rfl, _, _, rfl, rfl, _, rfl, ifD (fun le => ?_) (fun _ => ?_)⟩
            · refine ⟨_, rfl, _, rfl, _, _, rfl, rfl, ys.map V.int, hD4, by rw [List.length_map]; omega, same_late s4 hD, ys ++ [x - k], by unfold ILst; rw [upd_same, List.map_append]; rfl, by rw [List.length_append]; show ys.length + 1 ≤ j + 1; omega, fun y hy => ?_⟩
              rcases List.mem_append.mp hy with hy | hy
              · exact hys y hy
              · rw [List.mem_singleton.mp hy]; omega
            · exact ⟨s4, ys, hD4, by omega, hys⟩
          · rintro H4 ⟨s4, ys, hD4, l5, hys⟩
            have l5 : ys.length ≤ 5 := l5
            have hpl4 : ILst H4 pl ns := s4 _ _ (s03 _ _ hpl0)
            refine ⟨_, rfl, pl, rfl, ⟨_, SqL.of hpl4⟩, fun D2 hD2 => lc_build (xs := ns.map V.int) IntP (ns.map fun a => a.fmod x) intP_mono hD2 (by rw [List.length_map, List.length_map]) (SqL.of hpl4) (by rw [List.length_map]; omega) ?_ ?_⟩
            · rintro i v y H5 Kc Ke hx hy s5 _ kk
              obtain ⟨a, ha, rfl⟩ := imap_at hx
              rw [List.getElem?_map, ha] at hy
              cases hy
              refine ⟨rfl, ?_⟩
              exact ⟨_, rfl, .inl ⟨_, rfl, _, rfl, _, _, rfl, rfl, by omega, kk _ _ (Same.refl H5) rfl⟩⟩
            · intro H5 s5 hR
              have hR := ilst_of hR
              have hD5 : ILst H5 D ys := s5 _ _ hD4
              refine ⟨D, D2, _, _, rfl, rfl, hD5, hR, by simp only [List.length_map]; omega, fun T hT => ?_⟩
              have s6 := same_upd (o := .lst (ys.map V.int ++ (ns.map fun a => a.fmod x).map V.int)) hT
              refine ⟨T, ys ++ (ns.map fun a => a.fmod x), rfl, s03.trans (s4.trans (s5.trans s6)), by unfold ILst; rw [upd_same]; exact congrArg (fun l => some (HO.lst l)) List.map_append.symm, by simp only [List.length_map, List.length_append]; omega, fun y hy => ?_⟩
              have yr : 0 ≤ y ∧ y < x := by
                rcases List.mem_append.mp hy with hy | hy
                · exact hys y hy
                · obtain ⟨a, ha, rfl⟩ := List.mem_map.mp hy
                  exact ⟨Int.fmod_nonneg_of_pos a xp, Int.fmod_lt_of_pos a xp⟩
              exact old y yr.1 yr.2
        · exact ⟨e1, [], rfl, s02, he2, Nat.zero_le _, fun _ h => nomatch h⟩
    · rintro σ' H1 ⟨T, ys, rfl, s1, hT, l40, hys⟩
      refine ⟨_, rfl, T, rfl, ⟨_, SqL.of hT⟩, fun D hD => lc_list (xs := ys.map V.int) (fun j H' => Same H1 H' ∧ H' D = some (.lst [])) ⟨same_upd hD, upd_same⟩ (fun j H' _ h => SqL.of (h.1 _ _ hT)) ?_ ?_⟩
      · rintro j v H2 hx ⟨s2, hD2⟩
        obtain ⟨y, hy, rfl⟩ := imap_at hx
        have nb := hys y (mem_at hy)
        have s12 := s1.trans s2
        refine ⟨rfl, ?_⟩
        refine ⟨_, rfl, _, rfl, _, rfl, M, N, y, D1, D2, ps, qs, rfl, hM.same rqP_mono s12, hN.same rqP_mono s12, r1, r2, la, lb, fun k H3 s3 hk => ?_⟩
        obtain rfl : k = false := by
          cases k with
          | false => rfl
          | true => exact absurd (hk.1 rfl) nb
        refine ⟨_, rfl, iteF ?_⟩
        exact ⟨s2.trans s3, s3 _ _ hD2⟩
      · rintro H2 ⟨s2, hD2⟩
        exact ⟨_, .inl ⟨[], SqL.of hD2, rfl⟩, q _ (s1.trans s2)⟩
end
end L

set_option Elab.async false
set_option linter.all false
set_option maxRecDepth 100000
set_option maxHeartbeats 4000000
set_option pp.maxSteps 160
set_option pp.deepTerms false
namespace L
open PySem PySem.Spec PyProof.Rows L2 Fl
local macro_rules | `(tactic| walk_at "side") => `(tactic| first | (exact .inl ⟨by omega, by omega⟩) | (exact .inr ⟨by omega, by omega⟩) | (exact .inr ⟨by decide, by decide⟩) | (show (_ : Int) ≠ _; omega) | (exact ⟨by omega, by decide⟩) | (exact ⟨by decide, by decide, by decide⟩))
local macro_rules | `(tactic| walk_at "go") => `(tactic| repeat (first | refine ⟨_, rfl, ?_⟩ | refine ⟨_, _, rfl, rfl, ?_⟩ | refine .inl ⟨_, rfl, ?_⟩ | refine ⟨rfl, ?_⟩ | refine ⟨(by walk_at "side"), ?_⟩))
local macro_rules | `(tactic| walk_at "see") => `(tactic| (set_option pp.maxSteps 110 in set_option pp.deepTerms false in trace_state))
local macro_rules | `(tactic| walk_at "if") => `(tactic| first | refine ifE ?_ ?_ | refine ifNE ?_ ?_ | refine ifD ?_ ?_ | refine ifN ?_ ?_ | refine ifB ?_ ?_)
open Bx
section
variable {P : Program} {w : World} {K : PySem.W.Frag} {mg : Str → Option Value} {base : Heap}

theorem least_bp {D1 D2 : Int} {ps qs : List Pt} {r : Option Int} (a : Qk D1 ps) (b : Qk D2 qs) (h : LeastP (fun k => chR D1 k (bp ps) ≠ chR D2 k (bp qs)) r) : LeastP (fun k => chR D1 k ps ≠ chR D2 k qs) r := by
  have e : (fun k => chR D1 k (bp ps) ≠ chR D2 k (bp qs)) = (fun k => chR D1 k ps ≠ chR D2 k qs) := funext fun k => by rw [bp_ch a, bp_ch b]
  rw [← e]
  exact h
theorem least_same {bad : Int → Prop} {r : Option Int} (h : LeastP bad r) (no : ∀ k, ¬ bad k) : r = none := by
  cases r with
  | none => rfl
  | some x => exact absurd h.2.1 (no x)
theorem least_swap {D1 D2 : Int} {ps qs : List Pt} {r : Option Int} (h : LeastP (fun k => chR D1 k ps ≠ chR D2 k qs) r) : LeastP (fun k => chR D2 k qs ≠ chR D1 k ps) r := by
  have e : (fun k => chR D1 k ps ≠ chR D2 k qs) = (fun k => chR D2 k qs ≠ chR D1 k ps) := funext fun k => propext ⟨fun h => h.symm, fun h => h.symm⟩
  rw [← e]
  exact h
def spLaw (K : PySem.W.Frag) : Sp := fun vs H Q _ => ∃ (a : Addr) (ns : List Int), vs = [.ref a] ∧ SqL K H a (ns.map V.int) ∧ ns.length ≤ 63 ∧ ∀ H', Q (.bl true) H'
theorem ok_law {C D F fA : Addr} {fd : FuncData} (B : Blt mg) (Fn : Fun K "law" "law" s_law fA fd) (C_pool : CalPool P w K mg base) (C_draw : CalDrawA P w K mg base) (C_parts : Cal P w K mg base 6 "_law_parts" ["_law_pool_here", "_law_most", "_law_wide_here"] spPartsB) (C_heavy : Cal P w K mg base 4 "_law_heavy" ["_law_pool_here", "_law_parts_here"] spHeavy) (C_rows : Cal P w K mg base 34 "_law_rows" ["_law_parts_here"] spRowsL)
    (C_changed : Cal P w K mg base 4 "_law_changed" ["_law_pool_here", "_law_parts_here"] spChanged) (C_otherwise : Cal P w K mg base 35 "_law_otherwise" ["_law_pool_here", "_law_rows_here"] spOther) (C_spot : Cal P w K mg base 6 "_law_spot" ["_law_pool_here", "_law_parts_here"] spSpot) (C_row_blend : Cal P w K mg base 8 "_law_row_blend" ["_law_rows_here"] (spRowBlend C D F)) (C_differs : Cal P w K mg base 38 "_law_differs" ["_law_told", "_law_one", "_law_other", "_law_places"] spDiffers) (C_alike : Cal P w K mg base 3 "_law_alike" ["_law_one", "_law_other"] spAlike)
    (C_first_difference : Cal P w K mg base 6 "first_difference" ["one", "other"] (spDiff C D F)) : FnOk P w K mg base CX0 40 fA fd ["_law_script"] (spLaw K) := by
  refine Fn.ok sc_law (fun vs H Q E h => ?_) (fun cdv A outer st H vs Q E hr h => ?_)
  · obtain ⟨a, ns, rfl, _⟩ := h
    rfl
  · obtain ⟨a, ns, rfl, hS, hl, q⟩ := h
    refine ⟨_, (pss_cons (ps_set (i := 1) sc_law.nd rfl (Or.inl rfl) (pe_cal C_pool (hr.mono (by decide)) (pa_cons (pv 0) pa_nil)))
      (pss_cons (ps_set (i := 2) sc_law.nd rfl (Or.inl rfl) (pe_cal C_heavy (hr.mono (by decide)) (pa_cons (pv 1) (pa_cons (pe_cal C_parts (hr.mono (by decide)) (pa_cons (pv 1) (pa_cons (pe_int) (pa_cons (pe_cmpR op_ne (pe_cal C_draw (hr.mono (by decide)) (pa_cons (pv 1) (pa_cons (pe_int) pa_nil))) (pe_int) (nomark _)) pa_nil)))) pa_nil))))
      (pss_cons (ps_set (i := 3) sc_law.nd rfl (Or.inl rfl) (pe_cal C_rows (hr.mono (by decide)) (pa_cons (pv 2) pa_nil)))
      (pss_cons (ps_set (i := 4) sc_law.nd rfl (Or.inl rfl) (pe_cal C_draw (hr.mono (by decide)) (pa_cons (pv 1) (pa_cons (pe_int) pa_nil))))
      (pss_cons (ps_set (i := 5) sc_law.nd rfl (Or.inl rfl) (pv 3))
      (Evl.pss_cut (ps_if (PW.pt (pw_or (pt_cmpR op_eq (pv 4) (pe_int) (nomark _)) (pw_or1 (pt_cmpR op_eq (pv 4) (pe_int) (nomark _))))) (pss_one (ps_set (i := 5) sc_law.nd rfl (Or.inl rfl) (pe_cal C_rows (hr.mono (by decide)) (pa_cons (pe_cal C_changed (hr.mono (by decide)) (pa_cons (pv 1) (pa_cons (pv 2) pa_nil))) pa_nil)))) pss_nil)
      (Evl.pss_cut (ps_if (pt_cmpR op_eq (pv 4) (pe_int) (nomark _)) (pss_one (ps_set (i := 5) sc_law.nd rfl (Or.inl rfl) (pe_cal C_rows (hr.mono (by decide)) (pa_cons (pe_cal C_heavy (hr.mono (by decide)) (pa_cons (pv 1) (pa_cons (pe_cal C_parts (hr.mono (by decide)) (pa_cons (pv 1) (pa_cons (pe_int) (pa_cons (pe_cmpR op_ne (pe_cal C_draw (hr.mono (by decide)) (pa_cons (pv 1) (pa_cons (pe_int) pa_nil))) (pe_int) (nomark _)) pa_nil)))) pa_nil))) pa_nil)))) pss_nil)
      (Evl.pss_cut (ps_if (PW.pt (pw_or (pt_cmpR op_eq (pv 4) (pe_int) (nomark _)) (pw_or1 (pt_cmpR op_eq (pv 4) (pe_int) (nomark _))))) (pss_one (ps_set (i := 5) sc_law.nd rfl (Or.inl rfl) (pe_cal C_otherwise (hr.mono (by decide)) (pa_cons (pv 1) (pa_cons (pv 5) pa_nil))))) pss_nil)
      (pss_cons (ps_set (i := 6) sc_law.nd rfl (Or.inl rfl) (pe_lst (pa_cons (pe_cal C_spot (hr.mono (by decide)) (pa_cons (pv 1) (pa_cons (pv 3) pa_nil))) (pa_cons (pe_cal C_spot (hr.mono (by decide)) (pa_cons (pv 1) (pa_cons (pv 3) pa_nil))) (pa_cons (pe_cal C_spot (hr.mono (by decide)) (pa_cons (pv 1) (pa_cons (pv 5) pa_nil))) (pa_cons (pe_cal C_spot (hr.mono (by decide)) (pa_cons (pv 1) (pa_cons (pv 5) pa_nil))) pa_nil))))))
      (pss_cons (ps_set (i := 7) sc_law.nd rfl (Or.inl rfl) (pe_cal C_row_blend (hr.mono (by decide)) (pa_cons (pv 3) pa_nil)))
      (pss_cons (ps_set (i := 8) sc_law.nd rfl (Or.inl rfl) (pe_cal C_row_blend (hr.mono (by decide)) (pa_cons (pv 5) pa_nil)))
      (pss_cons (ps_set (i := 9) sc_law.nd rfl (Or.inl rfl) (pe_cal C_first_difference (hr.mono (by decide)) (pa_cons (pv 7) (pa_cons (pv 8) pa_nil))))
      (Evl.pss_cut (ps_if (PW.pt (pw_and (pt_cmpR op_eq (pv 4) (pe_int) (nomark _)) (pw_and1 (pt_cmpR op_notN (pv 9) (pe_non) (nomark _))))) (pss_one (ps_ret (pe_bl))) pss_nil)
      (pss_cons (ps_if (PW.pt (pw_or (pt_not (pt_val (pe_cal C_differs (hr.mono (by decide)) (pa_cons (pv 9) (pa_cons (pv 3) (pa_cons (pv 5) (pa_cons (pv 6) pa_nil))))))) (pw_or1 (pt_cmpR op_notN (pe_cal C_first_difference (hr.mono (by decide)) (pa_cons (pv 7) (pa_cons (pv 7) pa_nil))) (pe_non) (nomark _))))) (pss_one (ps_ret (pe_bl))) pss_nil)
      (pss_one (ps_ret ((pe_and (pe_cal C_alike (hr.mono (by decide)) (pa_cons (pe_cal C_first_difference (hr.mono (by decide)) (pa_cons (pv 8) (pa_cons (pv 7) pa_nil))) (pa_cons (pv 9) pa_nil))) (pe_one (pe_cmpR op_isN (pe_cal C_first_difference (hr.mono (by decide)) (pa_cons (pv 8) (pa_cons (pv 8) pa_nil))) (pe_non) (nomark _))))))))))))))))))))), ?_⟩
    refine ⟨_, rfl, a, ns, rfl, hS, hl, fun p H0 s0 np nq hP0 => ?_⟩
    refine ⟨_, rfl, _, rfl, _, rfl, p, 3, rfl, hP0, by decide, by decide, fun d0 H1 _ _ hP1 k1 => ⟨rfl, ?_⟩⟩
    refine ⟨p, 3, _, rfl, hP1, by decide, by decide, fun L0 ps0 H2 hP2 k2 nL0 hL0 ok0 bd0 len0 => ?_⟩
    have len0 : ps0.length ≤ 3 := len0
    refine ⟨p, L0, ps0, rfl, hP2, hL0, nL0, Pk.of ok0 bd0 (by split <;> omega), fun L ps H3 hP3 k3 nL hL pk hv => ?_⟩
    have wl := wl_of ok0 bd0 len0 hv
    have wk := wl.wk
    refine ⟨_, rfl, L, ps, rfl, hL, wk, fun M H4 s4 fM hM => ?_⟩
    have nM := (hP3.apart fM).1
    have hP4 := hP3.same s4
    have hL := hL.same rowP_mono s4
    refine ⟨_, rfl, p, 4, rfl, hP4, by decide, by decide, fun wy H5 w0 w1 hP5 k5 => ?_⟩
    have hL := rows_keep hL hP4 nL k5
    have hM := rq_keep hM hP4 nM k5
    refine ⟨_, rfl, ?_⟩
    refine ⟨fun σ' H' => ∃ (N : Addr) (qs : List Pt), σ' = [some (.ref a), some (.ref (p : Addr)), some (.ref L), some (.ref M), some (.int wy), some (.ref N), none, none, none, none] ∧ Pool H' p ∧ LAt RowP H' L ps ∧ LAt (RqP 110 (wsum ps)) H' M ps ∧ LAt (RqP 110 (wsum qs)) H' N qs ∧ N ≠ p ∧ Wk qs ∧ (wy = 0 → qs = ps), ?_, ?_⟩
    · refine ⟨_, rfl, rfl, _, rfl, ifE (fun h1 => iteT ?_) (fun _ => ?_)⟩
      · skip
        refine ⟨_, rfl, _, rfl, p, L, ps, rfl, hP5, hL, nL, wl, fun Lc qs H6 hP6 k6 nLc hLc wkc => ?_⟩
        have hL6 := rows_keep hL hP5 nL k6
        have hM6 := rq_keep hM hP5 nM k6
        refine ⟨Lc, qs, rfl, hLc, wkc, fun N H7 s7 fN hN => ?_⟩
        exact ⟨N, qs, rfl, hP6.same s7, hL6.same rowP_mono s7, hM6.same rqP_mono s7, hN, (hP6.apart fN).1, wkc, fun z => by omega⟩
      refine ⟨_, rfl, rfl, _, rfl, ifE (fun h1 => ?_) (fun _ => ?_)⟩
      · skip
        refine ⟨_, rfl, _, rfl, p, L, ps, rfl, hP5, hL, nL, wl, fun Lc qs H6 hP6 k6 nLc hLc wkc => ?_⟩
        have hL6 := rows_keep hL hP5 nL k6
        have hM6 := rq_keep hM hP5 nM k6
        refine ⟨Lc, qs, rfl, hLc, wkc, fun N H7 s7 fN hN => ?_⟩
        exact ⟨N, qs, rfl, hP6.same s7, hL6.same rowP_mono s7, hM6.same rqP_mono s7, hN, (hP6.apart fN).1, wkc, fun z => by omega⟩
      · exact ⟨M, ps, rfl, hP5, hL, hM, hM, nM, wk, fun _ => rfl⟩
    rintro σ' H6 ⟨N, qs, rfl, hP6, hL, hM, hN, nN, wq, e0⟩
    refine ⟨fun σ' H' => ∃ (N : Addr) (qs : List Pt), σ' = [some (.ref a), some (.ref (p : Addr)), some (.ref L), some (.ref M), some (.int wy), some (.ref N), none, none, none, none] ∧ Pool H' p ∧ LAt RowP H' L ps ∧ LAt (RqP 110 (wsum ps)) H' M ps ∧ LAt (RqP 110 (wsum qs)) H' N qs ∧ N ≠ p ∧ Wk qs ∧ (wy = 0 → qs = ps), ?_, ?_⟩
    · refine ⟨_, rfl, rfl, _, rfl, ifE (fun e3 => ?_) (fun _ => ?_)⟩
      · refine ⟨_, rfl, _, rfl, _, rfl, p, 3, rfl, hP6, by decide, by decide, fun d0 H7 _ _ hP7 k7 => ⟨rfl, ?_⟩⟩
        refine ⟨p, 3, _, rfl, hP7, by decide, by decide, fun L1 ps1 H8 hP8 k8 nL1 hL1 ok1 bd1 len1 => ?_⟩
        have len1 : ps1.length ≤ 3 := len1
        refine ⟨p, L1, ps1, rfl, hP8, hL1, nL1, Pk.of ok1 bd1 (by split <;> omega), fun L2 qs2 H9 hP9 k9 nL2 hL2 pk2 hv2 => ?_⟩
        have k79 := (k7.trans k8).trans k9
        have hL9 := rows_keep hL hP6 nL k79
        have hM9 := rq_keep hM hP6 nM k79
        refine ⟨L2, qs2, rfl, hL2, (wl_of ok1 bd1 len1 hv2).wk, fun N2 HA sA fN hN2 => ?_⟩
        exact ⟨N2, qs2, rfl, hP9.same sA, hL9.same rowP_mono sA, hM9.same rqP_mono sA, hN2, (hP9.apart fN).1, (wl_of ok1 bd1 len1 hv2).wk, fun z => absurd (e3.symm.trans z) (by decide)⟩
      · exact ⟨N, qs, rfl, hP6, hL, hM, hN, nN, wq, e0⟩
    rintro σ' H7 ⟨N, qs, rfl, hP7, hL, hM, hN, nN, wq, e0⟩
    refine ⟨fun σ' H' => ∃ (N : Addr) (qs : List Pt) (D2 : Int), σ' = [some (.ref a), some (.ref (p : Addr)), some (.ref L), some (.ref M), some (.int wy), some (.ref N), none, none, none, none] ∧ Pool H' p ∧ LAt (RqP 110 (wsum ps)) H' M ps ∧ LAt (RqP 330 D2) H' N qs ∧ N ≠ p ∧ Qk D2 qs ∧ (wy = 0 → ∀ k, chR D2 k qs = chR (wsum ps) k ps), ?_, ?_⟩
    · refine ⟨_, rfl, rfl, _, rfl, ifE (fun h1 => iteT ?_) (fun _ => ?_)⟩
      · skip
        refine ⟨_, rfl, _, rfl, p, N, qs, rfl, hP7, hN, nN, wq, fun N2 qs2 D2 H8 hP8 k8 nN2 hN2 qk2 eq => ?_⟩
        exact ⟨N2, qs2, D2, rfl, hP8, rq_keep hM hP7 nM k8, hN2, nN2, qk2, fun z k => by rw [eq k, e0 z]⟩
      refine ⟨_, rfl, rfl, _, rfl, ifE (fun h1 => ?_) (fun _ => ?_)⟩
      · skip
        refine ⟨_, rfl, _, rfl, p, N, qs, rfl, hP7, hN, nN, wq, fun N2 qs2 D2 H8 hP8 k8 nN2 hN2 qk2 eq => ?_⟩
        exact ⟨N2, qs2, D2, rfl, hP8, rq_keep hM hP7 nM k8, hN2, nN2, qk2, fun z k => by rw [eq k, e0 z]⟩
      · exact ⟨N, qs, wsum qs, rfl, hP7, hM, lat_up hN (by decide), nN, wq.qk, fun z k => by rw [e0 z]⟩
    rintro σ' H8 ⟨N, qs, D2, rfl, hP8, hM, hN, nN, qk2, eq0⟩
    have qk1 := wk.qk
    have ru1 : ∀ x ∈ ps, Ru 105 x := fun x hx => (qk1.ok x hx).2
    have ru2 : ∀ x ∈ qs, Ru 105 x := fun x hx => (qk2.ok x hx).2
    have la := qk1.l6
    have lb := qk2.l6
    refine ⟨_, rfl, _, rfl, p, M, ps, rfl, hP8, lat_rq hM, nM, ru1, qk1.l1, by omega, fun y1 H9 hP9 k9 y10 _ => ?_⟩
    have hM := rq_keep hM hP8 nM k9
    have hN := rq_keep hN hP8 nN k9
    refine ⟨_, rfl, _, rfl, p, M, ps, rfl, hP9, lat_rq hM, nM, ru1, qk1.l1, by omega, fun y2 HA hPA kA y20 _ => ?_⟩
    have hM := rq_keep hM hP9 nM kA
    have hN := rq_keep hN hP9 nN kA
    refine ⟨_, rfl, _, rfl, p, N, qs, rfl, hPA, lat_rq hN, nN, ru2, qk2.l1, by omega, fun y3 HB hPB kB y30 _ => ?_⟩
    have hM := rq_keep hM hPA nM kB
    have hN := rq_keep hN hPA nN kB
    refine ⟨_, rfl, _, rfl, p, N, qs, rfl, hPB, lat_rq hN, nN, ru2, qk2.l1, by omega, fun y4 HC hPC kC y40 _ => ?_⟩
    have hM := rq_keep hM hPB nM kC
    have hN := rq_keep hN hPB nN kC
    refine ⟨(by show 4 ≤ sizeLine; decide), fun pl hpl => ?_⟩
    have s5 := same_upd (o := .lst [.int y1, .int y2, .int y3, .int y4]) hpl
    have hpl' : ILst (upd HC pl (.lst [.int y1, .int y2, .int y3, .int y4])) pl [y1, y2, y3, y4] := upd_same
    have hM := lat_up (c := 330) (hM.same rqP_mono s5) (by decide)
    have hN := hN.same rqP_mono s5
    generalize upd HC pl (.lst [.int y1, .int y2, .int y3, .int y4]) = HD at *
    refine ⟨_, rfl, M, wsum ps, ps, rfl, hM, qk1, fun x HE sE hx => ?_⟩
    refine ⟨_, rfl, N, D2, qs, rfl, hN.same rqP_mono sE, qk2, fun y HF sF hy => ?_⟩
    have hx := hx.same sF
    have sEF := sE.trans sF
    have hM := hM.same rqP_mono sEF
    have hN := hN.same rqP_mono sEF
    have hpl' : ILst HF pl [y1, y2, y3, y4] := sEF _ _ hpl'
    obtain ⟨U, fd⟩ := qk1.fd qk2
    refine ⟨_, rfl, _, rfl, x, y, wsum ps, D2, U, bp ps, bp qs, rfl, hx, hy, fd, fun HG r sG least => ?_⟩
    have least := least_bp qk1 qk2 least
    have hx := hx.same sG
    have hy := hy.same sG
    have hM := hM.same rqP_mono sG
    have hN := hN.same rqP_mono sG
    have hpl' : ILst HG pl [y1, y2, y3, y4] := sG _ _ hpl'
    refine ⟨fun σ' H' => σ' = [some (.ref a), some (.ref (p : Addr)), some (.ref L), some (.ref M), some (.int wy), some (.ref N), some (.ref pl), some (.ref x), some (.ref y), some (optV r)] ∧ H' = HG, ?_, ?_⟩
    · refine ⟨_, rfl, rfl, _, rfl, ifE (fun z0 => ?_) (fun _ => iteF ⟨rfl, rfl⟩)⟩
      obtain rfl := least_same least fun k hb => hb (eq0 z0 k).symm
      exact ⟨_, rfl, rfl, _, rfl, iteF ⟨rfl, rfl⟩⟩
    rintro σ' H' ⟨rfl, rfl⟩
    refine ⟨_, rfl, _, rfl, _, rfl, _, rfl, M, N, pl, wsum ps, D2, ps, qs, [y1, y2, y3, y4], r, rfl, hM, hN, qk1, qk2, hpl', by show 4 ≤ 6; decide, fun z hz => ?_, least, fun HH sH => ⟨_, rfl, iteF ?_⟩⟩
    · simp only [List.mem_cons, List.not_mem_nil, or_false] at hz
      omega
    have hx := hx.same sH
    have hy := hy.same sH
    obtain ⟨U1, fd1⟩ := qk1.fd qk1
    refine ⟨_, rfl, _, rfl, x, x, wsum ps, wsum ps, U1, bp ps, bp ps, rfl, hx, hx, fd1, fun HI r1 sI le1 => ?_⟩
    obtain rfl := least_same le1 fun k hb => hb rfl
    have hx := hx.same sI
    have hy := hy.same sI
    refine ⟨rfl, _, rfl, iteF ?_⟩
    obtain ⟨U2, fd2⟩ := qk2.fd qk1
    refine ⟨_, rfl, _, rfl, y, x, D2, wsum ps, U2, bp qs, bp ps, rfl, hy, hx, fd2, fun HJ r2 sJ le2 => ?_⟩
    obtain rfl := leastP_uniq least (least_swap (least_bp qk2 qk1 le2))
    have hy := hy.same sJ
    refine ⟨_, rfl, r2, rfl, _, rfl, iteT ?_⟩
    obtain ⟨U3, fd3⟩ := qk2.fd qk2
    refine ⟨_, rfl, _, rfl, y, y, D2, D2, U3, bp qs, bp qs, rfl, hy, hy, fd3, fun HK r3 sK le3 => ?_⟩
    obtain rfl := least_same le3 fun k hb => hb rfl
    exact ⟨rfl, q _⟩
end
end L

set_option Elab.async false
set_option linter.all false
set_option maxRecDepth 100000
set_option maxHeartbeats 4000000
set_option pp.maxSteps 160
set_option pp.deepTerms false
namespace L
open PySem PySem.Spec PyProof.Rows L2 Fl
local macro_rules | `(tactic| walk_at "side") => `(tactic| first | (exact .inl ⟨by omega, by omega⟩) | (exact .inr ⟨by omega, by omega⟩) | (exact .inr ⟨by decide, by decide⟩) | (show (_ : Int) ≠ _; omega) | (exact ⟨by omega, by decide⟩) | (exact ⟨by decide, by decide, by decide⟩))
local macro_rules | `(tactic| walk_at "go") => `(tactic| repeat (first | refine ⟨_, rfl, ?_⟩ | refine ⟨_, _, rfl, rfl, ?_⟩ | refine .inl ⟨_, rfl, ?_⟩ | refine ⟨rfl, ?_⟩ | refine ⟨(by walk_at "side"), ?_⟩))
local macro_rules | `(tactic| walk_at "see") => `(tactic| (set_option pp.maxSteps 110 in set_option pp.deepTerms false in trace_state))
local macro_rules | `(tactic| walk_at "if") => `(tactic| first | refine ifE ?_ ?_ | refine ifNE ?_ ?_ | refine ifD ?_ ?_ | refine ifN ?_ ?_ | refine ifB ?_ ?_)
section
variable {P : Program} {w : World} {K : PySem.W.Frag} {mg : Str → Option Value} {base : Heap}
end

theorem kit_type {K : PySem.W.Frag} {t : Addr} {n : String} {b : Bool} (hk : PySem.W.kitMeta n = true) (hs : PySem.W.subIn K (.ref t) (.type n) = some b) : PySem.W.kitOne K (.ref t) (.type n) = some b := by
  unfold PySem.W.kitOne
  rw [if_neg (by intro h; cases beq_iff_eq.mp h)]
  show (if PySem.W.kitMeta n = true then PySem.W.subIn K (.ref t) (.type n) else none) = some b
  rw [if_pos hk]
  exact hs
theorem all_mk {l : PySem.W.OpenLaw} {w : World} {K : PySem.W.Frag} {h : Heap} {mg : Str → Option Value} {fa : Addr} (X : K.In h) (G : h.Ns mainGlobals mg) (hfa : mg "law" = some (.ref fa))
    {C : Addr} {fRatio_init tD : Addr} {ocRatio_init kVRatio_init dcRatio_init pmRatio_init cdRatio_init ctRatio_init : Value} {odRatio_init anRatio_init : Option Addr} {slRatio_init : Array (Option Value)} {ocD : Value} {odD : Option Addr} {tkD : Tok} {nD : Nat} {slD : Array (Option Value)} {LE : Addr} {BN : Addr} {nmE qE : Str} {NE : Addr} {bsE subE : List Value} {snE : List Str} {abE : Bool} {colE : Option Bool} {ddE : Option Addr} {mE0 mE1 mE2 mE3 mE5 : Option Value} {fBadNumber_init : Addr} {ocBadNumber_init kVBadNumber_init dcBadNumber_init pmBadNumber_init cdBadNumber_init ctBadNumber_init : Value} {odBadNumber_init anBadNumber_init : Option Addr} {slBadNumber_init : Array (Option Value)} {TM : Addr} {ZU : Addr} {BS : Addr} {fRatio_add : Addr} {ocRatio_add kVRatio_add dcRatio_add pmRatio_add cdRatio_add ctRatio_add : Value} {odRatio_add anRatio_add : Option Addr} {slRatio_add : Array (Option Value)} {fRatio_radd : Addr} {ocRatio_radd kVRatio_radd dcRatio_radd pmRatio_radd cdRatio_radd ctRatio_radd : Value} {odRatio_radd anRatio_radd : Option Addr} {slRatio_radd : Array (Option Value)} {fRatio_lt : Addr} {ocRatio_lt kVRatio_lt dcRatio_lt pmRatio_lt cdRatio_lt ctRatio_lt : Value} {odRatio_lt anRatio_lt : Option Addr} {slRatio_lt : Array (Option Value)} {fRatio_eq : Addr} {ocRatio_eq kVRatio_eq dcRatio_eq pmRatio_eq cdRatio_eq ctRatio_eq : Value} {odRatio_eq anRatio_eq : Option Addr} {slRatio_eq : Array (Option Value)} {D : Addr} {tkM : Tok} {fRun_init : Addr} {ocRun_init kVRun_init dcRun_init pmRun_init cdRun_init ctRun_init : Value} {odRun_init anRun_init : Option Addr} {slRun_init : Array (Option Value)} {fRun_contains : Addr} {ocRun_contains kVRun_contains dcRun_contains pmRun_contains cdRun_contains ctRun_contains : Value} {odRun_contains anRun_contains : Option Addr} {slRun_contains : Array (Option Value)} {pRun_last gRun_last : Addr} {rRun_last : List Value} {ocRun_last kVRun_last dcRun_last pmRun_last cdRun_last ctRun_last : Value} {odRun_last anRun_last : Option Addr} {slRun_last : Array (Option Value)} {tkP : Tok} {BL : Addr} {fBlend_init : Addr} {ocBlend_init kVBlend_init dcBlend_init pmBlend_init cdBlend_init ctBlend_init : Value} {odBlend_init anBlend_init : Option Addr} {slBlend_init : Array (Option Value)} {fBlend_iter : Addr} {ocBlend_iter kVBlend_iter dcBlend_iter pmBlend_iter cdBlend_iter ctBlend_iter : Value} {odBlend_iter anBlend_iter : Option Addr} {slBlend_iter : Array (Option Value)} {fis_number : Addr} {ocis_number kVis_number dcis_number pmis_number cdis_number ctis_number : Value} {odis_number anis_number : Option Addr} {slis_number : Array (Option Value)} {fas_ratio : Addr} {ocas_ratio kVas_ratio dcas_ratio pmas_ratio cdas_ratio ctas_ratio : Value} {odas_ratio anas_ratio : Option Addr} {slas_ratio : Array (Option Value)} {ftop_of : Addr} {octop_of kVtop_of dctop_of pmtop_of cdtop_of cttop_of : Value} {odtop_of antop_of : Option Addr} {sltop_of : Array (Option Value)} {funder_of : Addr} {ocunder_of kVunder_of dcunder_of pmunder_of cdunder_of ctunder_of : Value} {odunder_of anunder_of : Option Addr} {slunder_of : Array (Option Value)} {fadded : Addr} {ocadded kVadded dcadded pmadded cdadded ctadded : Value} {odadded anadded : Option Addr} {sladded : Array (Option Value)} {fcheck_parts : Addr} {occheck_parts kVcheck_parts dccheck_parts pmcheck_parts cdcheck_parts ctcheck_parts : Value} {odcheck_parts ancheck_parts : Option Addr} {slcheck_parts : Array (Option Value)} {fput_together : Addr} {ocput_together kVput_together dcput_together pmput_together cdput_together ctput_together : Value} {odput_together anput_together : Option Addr} {slput_together : Array (Option Value)} {fcommon_under : Addr} {occommon_under kVcommon_under dccommon_under pmcommon_under cdcommon_under ctcommon_under : Value} {odcommon_under ancommon_under : Option Addr} {slcommon_under : Array (Option Value)} {fweighted : Addr} {ocweighted kVweighted dcweighted pmweighted cdweighted ctweighted : Value} {odweighted anweighted : Option Addr} {slweighted : Array (Option Value)} {fwhole_chance : Addr} {ocwhole_chance kVwhole_chance dcwhole_chance pmwhole_chance cdwhole_chance ctwhole_chance : Value} {odwhole_chance anwhole_chance : Option Addr} {slwhole_chance : Array (Option Value)} {fperiod : Addr} {ocperiod kVperiod dcperiod pmperiod cdperiod ctperiod : Value} {odperiod anperiod : Option Addr} {slperiod : Array (Option Value)} {fstretches : Addr} {ocstretches kVstretches dcstretches pmstretches cdstretches ctstretches : Value} {odstretches anstretches : Option Addr} {slstretches : Array (Option Value)} {ffirst_difference : Addr} {ocfirst_difference kVfirst_difference dcfirst_difference pmfirst_difference cdfirst_difference ctfirst_difference : Value} {odfirst_difference anfirst_difference : Option Addr} {slfirst_difference : Array (Option Value)} {fpool : Addr} {ocpool kVpool dcpool pmpool cdpool ctpool : Value} {odpool anpool : Option Addr} {slpool : Array (Option Value)} {fmix : Addr} {ocmix kVmix dcmix pmmix cdmix ctmix : Value} {odmix anmix : Option Addr} {slmix : Array (Option Value)} {fdraw : Addr} {ocdraw kVdraw dcdraw pmdraw cddraw ctdraw : Value} {oddraw andraw : Option Addr} {sldraw : Array (Option Value)} {fwide : Addr} {ocwide kVwide dcwide pmwide cdwide ctwide : Value} {odwide anwide : Option Addr} {slwide : Array (Option Value)} {fgcd : Addr} {ocgcd kVgcd dcgcd pmgcd cdgcd ctgcd : Value} {odgcd angcd : Option Addr} {slgcd : Array (Option Value)} {flow : Addr} {oclow kVlow dclow pmlow cdlow ctlow : Value} {odlow anlow : Option Addr} {sllow : Array (Option Value)} {fplus : Addr} {ocplus kVplus dcplus pmplus cdplus ctplus : Value} {odplus anplus : Option Addr} {slplus : Array (Option Value)} {ftimes : Addr} {octimes kVtimes dctimes pmtimes cdtimes cttimes : Value} {odtimes antimes : Option Addr} {sltimes : Array (Option Value)} {fwhole : Addr} {ocwhole kVwhole dcwhole pmwhole cdwhole ctwhole : Value} {odwhole anwhole : Option Addr} {slwhole : Array (Option Value)} {frun : Addr} {ocrun kVrun dcrun pmrun cdrun ctrun : Value} {odrun anrun : Option Addr} {slrun : Array (Option Value)} {flast : Addr} {oclast kVlast dclast pmlast cdlast ctlast : Value} {odlast anlast : Option Addr} {sllast : Array (Option Value)} {fin : Addr} {ocin kVin dcin pmin cdin ctin : Value} {odin anin : Option Addr} {slin : Array (Option Value)} {fparts : Addr} {ocparts kVparts dcparts pmparts cdparts ctparts : Value} {odparts anparts : Option Addr} {slparts : Array (Option Value)} {fweights : Addr} {ocweights kVweights dcweights pmweights cdweights ctweights : Value} {odweights anweights : Option Addr} {slweights : Array (Option Value)} {fnear : Addr} {ocnear kVnear dcnear pmnear cdnear ctnear : Value} {odnear annear : Option Addr} {slnear : Array (Option Value)} {fgreatest : Addr} {ocgreatest kVgreatest dcgreatest pmgreatest cdgreatest ctgreatest : Value} {odgreatest angreatest : Option Addr} {slgreatest : Array (Option Value)} {fheavy : Addr} {ocheavy kVheavy dcheavy pmheavy cdheavy ctheavy : Value} {odheavy anheavy : Option Addr} {slheavy : Array (Option Value)} {fspot : Addr} {ocspot kVspot dcspot pmspot cdspot ctspot : Value} {odspot anspot : Option Addr} {slspot : Array (Option Value)} {falike : Addr} {ocalike kValike dcalike pmalike cdalike ctalike : Value} {odalike analike : Option Addr} {slalike : Array (Option Value)} {fsingle : Addr} {ocsingle kVsingle dcsingle pmsingle cdsingle ctsingle : Value} {odsingle ansingle : Option Addr} {slsingle : Array (Option Value)} {frows : Addr} {ocrows kVrows dcrows pmrows cdrows ctrows : Value} {odrows anrows : Option Addr} {slrows : Array (Option Value)} {fpieces : Addr} {ocpieces kVpieces dcpieces pmpieces cdpieces ctpieces : Value} {odpieces anpieces : Option Addr} {slpieces : Array (Option Value)} {fotherwise : Addr} {ocotherwise kVotherwise dcotherwise pmotherwise cdotherwise ctotherwise : Value} {odotherwise anotherwise : Option Addr} {slotherwise : Array (Option Value)} {fchanged : Addr} {occhanged kVchanged dcchanged pmchanged cdchanged ctchanged : Value} {odchanged anchanged : Option Addr} {slchanged : Array (Option Value)} {frow_blend : Addr} {ocrow_blend kVrow_blend dcrow_blend pmrow_blend cdrow_blend ctrow_blend : Value} {odrow_blend anrow_blend : Option Addr} {slrow_blend : Array (Option Value)} {fchance : Addr} {occhance kVchance dcchance pmchance cdchance ctchance : Value} {odchance anchance : Option Addr} {slchance : Array (Option Value)} {fapart : Addr} {ocapart kVapart dcapart pmapart cdapart ctapart : Value} {odapart anapart : Option Addr} {slapart : Array (Option Value)} {fwalked : Addr} {ocwalked kVwalked dcwalked pmwalked cdwalked ctwalked : Value} {odwalked anwalked : Option Addr} {slwalked : Array (Option Value)} {fdiffers : Addr} {ocdiffers kVdiffers dcdiffers pmdiffers cddiffers ctdiffers : Value} {oddiffers andiffers : Option Addr} {sldiffers : Array (Option Value)} {flaw : Addr} {oclaw kVlaw dclaw pmlaw cdlaw ctlaw : Value} {odlaw anlaw : Option Addr} {sllaw : Array (Option Value)}
    (zlen : PySem.W.nsIn K mainGlobals "len" = some none)
    (zint : PySem.W.nsIn K mainGlobals "int" = some none)
    (zabs : PySem.W.nsIn K mainGlobals "abs" = some none)
    (zrange : PySem.W.nsIn K mainGlobals "range" = some none)
    (zisinstance : PySem.W.nsIn K mainGlobals "isinstance" = some none)
    (zmax : PySem.W.nsIn K mainGlobals "max" = some none)
    (zmin : PySem.W.nsIn K mainGlobals "min" = some none)
    (zsum : PySem.W.nsIn K mainGlobals "sum" = some none)
    (zstr : PySem.W.nsIn K mainGlobals "str" = some none)
    (zbool : PySem.W.nsIn K mainGlobals "bool" = some none)
    (zlist : PySem.W.nsIn K mainGlobals "list" = some none)
    (zValueError : PySem.W.nsIn K mainGlobals "ValueError" = some none)
    (zzip : PySem.W.nsIn K mainGlobals "zip" = some none)
    (zany : PySem.W.nsIn K mainGlobals "any" = some none)
    (ziter : PySem.W.nsIn K mainGlobals "iter" = some none)
    (zsorted : PySem.W.nsIn K mainGlobals "sorted" = some none)
    (aC : PySem.W.nsIn K mainGlobals "Ratio" = some (some (.ref C)))
    (pgC : PySem.W.plainGet K C Str.empty = true)
    (hdC : PySem.W.hasDictIn K C = true)
    (poC : PySem.W.plainOver K C = true)
    (saC : PySem.W.findIn K (.ref C) "__setattr__" = some (some (.builtin "object.__setattr__")))
    (mkC : PySem.W.makesIn K C = true)
    (kcC : PySem.W.keepIn K (.ref C) = true)
    (nTC : PySem.W.findIn K (.ref C) "top" = some none)
    (nUC : PySem.W.findIn K (.ref C) "under" = some none)
    (haC : PySem.W.findIn K (.ref C) "__class__" = some (some (.builtin "object.__class__")))
    (hnO : PySem.W.specialIn K (.builtin "object.__class__") "__get__" = some (some (.builtin "getset_descriptor.__get__")))
    (htO : PySem.W.takesIn K (.builtin "object.__class__") = some true)
    (hmC : PySem.W.mroIn K C (.type "object") = some true)
    (siC : PySem.W.subIn K (.type "int") (.ref C) = some false)
    (tyC : PySem.W.typeIn K (.ref C) = some (.type "type"))
    (aRatio_init : PySem.W.findIn K (.ref C) "__init__" = some (some (.ref fRatio_init)))
    (iRatio_init : PySem.W.isFn K (.ref fRatio_init) = true)
    (lRatio_init : K.lookup fRatio_init = some ⟨ocRatio_init, odRatio_init, .func (PySem.W.fnOf "__init__" "Ratio.__init__" (defArgs s_Ratio_init) (defBody s_Ratio_init) (defScope s_Ratio_init) (.ref tD) kVRatio_init dcRatio_init pmRatio_init anRatio_init cdRatio_init ctRatio_init), slRatio_init⟩)
    (cRatio_init : PySem.W.codeIn K cdRatio_init "Ratio.__init__" = true)
    (kRatio_init : PySem.W.keepIn K (.ref fRatio_init) = true)
    (lD : K.lookup tD = some ⟨ocD, odD, .seq #[.int 1 tkD] nD, slD⟩)
    (aGcd : PySem.W.nsIn K mainGlobals "gcd" = some (some (.builtin "math.gcd")))
    (aLcm : PySem.W.nsIn K mainGlobals "lcm" = some (some (.builtin "math.lcm")))
    (aLE : PySem.W.nsIn K mainGlobals "LotError" = some (some (.ref LE)))
    (hdLE : PySem.W.hasDictIn K LE = true)
    (teLE : PySem.W.typeIn K (.ref LE) = some (.type "type"))
    (aBN : PySem.W.nsIn K mainGlobals "BadNumber" = some (some (.ref BN)))
    (xBN : K.lookup BN = some (excClassObj nmE qE BN NE bsE [.ref LE, .type "ValueError", .type "Exception", .type "BaseException", .type "object"] true snE subE abE colE ddE mE0 mE1 mE2 mE3 mE5 "ValueError.__new__"))
    (saBN : PySem.W.findIn K (.ref BN) "__setattr__" = some (some (.builtin "object.__setattr__")))
    (keBN : PySem.W.keepIn K (.ref BN) = true)
    (beBN : PySem.W.subIn K (.ref BN) (.type "BaseException") = some true)
    (teBN : PySem.W.typeIn K (.ref BN) = some (.type "type"))
    (seBN : PySem.W.subIn K (.ref BN) (.ref BN) = some true)
    (geBN : PySem.W.findIn K (.ref BN) "__getattribute__" = some (some (.builtin "BaseException.__getattribute__")))
    (ggBN : PySem.W.findIn K (.ref BN) "__getattr__" = some none)
    (hdBN : PySem.W.hasDictIn K BN = true)
    (hcBN : PySem.W.findIn K (.ref BN) "__class__" = some (some (.builtin "object.__class__")))
    (hoBN : PySem.W.mroIn K BN (.type "object") = some true)
    (veBN : PySem.W.subIn K (.ref BN) (.type "ValueError") = some true)
    (fnBN : PySem.W.findIn K (.ref BN) "name" = some none)
    (fvBN : PySem.W.findIn K (.ref BN) "value" = some none)
    (aBadNumber_init : PySem.W.findIn K (.ref BN) "__init__" = some (some (.ref fBadNumber_init)))
    (tBadNumber_init : PySem.W.typeIn K (.ref fBadNumber_init) = some (.type "function"))
    (lBadNumber_init : K.lookup fBadNumber_init = some ⟨ocBadNumber_init, odBadNumber_init, .func (PySem.W.fnOf "__init__" "BadNumber.__init__" (defArgs s_BadNumber_init) (defBody s_BadNumber_init) (defScope s_BadNumber_init) .none kVBadNumber_init dcBadNumber_init pmBadNumber_init anBadNumber_init cdBadNumber_init ctBadNumber_init), slBadNumber_init⟩)
    (cBadNumber_init : PySem.W.codeIn K cdBadNumber_init "BadNumber.__init__" = true)
    (kBadNumber_init : PySem.W.keepIn K (.ref fBadNumber_init) = true)
    (sBNLE : PySem.W.subIn K (.ref BN) (.ref LE) = some true)
    (kmV : PySem.W.kitMeta "ValueError" = true)
    (aTM : PySem.W.nsIn K mainGlobals "TooMany" = some (some (.ref TM)))
    (hdTM : PySem.W.hasDictIn K TM = true)
    (teTM : PySem.W.typeIn K (.ref TM) = some (.type "type"))
    (sBNTM : PySem.W.subIn K (.ref BN) (.ref TM) = some false)
    (aZU : PySem.W.nsIn K mainGlobals "ZeroUnder" = some (some (.ref ZU)))
    (xZU : PySem.W.excIn K ZU [.type "ValueError", .type "Exception", .type "BaseException", .type "object"] "ValueError.__new__" = true)
    (keZU : PySem.W.keepIn K (.ref ZU) = true)
    (beZU : PySem.W.subIn K (.ref ZU) (.type "BaseException") = some true)
    (teZU : PySem.W.typeIn K (.ref ZU) = some (.type "type"))
    (seZU : PySem.W.subIn K (.ref ZU) (.ref ZU) = some true)
    (geZU : PySem.W.findIn K (.ref ZU) "__getattribute__" = some (some (.builtin "BaseException.__getattribute__")))
    (ggZU : PySem.W.findIn K (.ref ZU) "__getattr__" = some none)
    (hdZU : PySem.W.hasDictIn K ZU = true)
    (hcZU : PySem.W.findIn K (.ref ZU) "__class__" = some (some (.builtin "object.__class__")))
    (hoZU : PySem.W.mroIn K ZU (.type "object") = some true)
    (veZU : PySem.W.subIn K (.ref ZU) (.type "ValueError") = some true)
    (aBS : PySem.W.nsIn K mainGlobals "BadShares" = some (some (.ref BS)))
    (xBS : PySem.W.excIn K BS [.type "ValueError", .type "Exception", .type "BaseException", .type "object"] "ValueError.__new__" = true)
    (keBS : PySem.W.keepIn K (.ref BS) = true)
    (beBS : PySem.W.subIn K (.ref BS) (.type "BaseException") = some true)
    (teBS : PySem.W.typeIn K (.ref BS) = some (.type "type"))
    (seBS : PySem.W.subIn K (.ref BS) (.ref BS) = some true)
    (geBS : PySem.W.findIn K (.ref BS) "__getattribute__" = some (some (.builtin "BaseException.__getattribute__")))
    (ggBS : PySem.W.findIn K (.ref BS) "__getattr__" = some none)
    (hdBS : PySem.W.hasDictIn K BS = true)
    (hcBS : PySem.W.findIn K (.ref BS) "__class__" = some (some (.builtin "object.__class__")))
    (hoBS : PySem.W.mroIn K BS (.type "object") = some true)
    (veBS : PySem.W.subIn K (.ref BS) (.type "ValueError") = some true)
    (ziAdd : PySem.W.findIn K (.type "int") "__add__" = some (some (.builtin "int.__add__")))
    (zjAdd : PySem.W.findIn K (.type "int") "__radd__" = some (some (.builtin "int.__radd__")))
    (ziSub : PySem.W.findIn K (.type "int") "__sub__" = some (some (.builtin "int.__sub__")))
    (zjSub : PySem.W.findIn K (.type "int") "__rsub__" = some (some (.builtin "int.__rsub__")))
    (ziMult : PySem.W.findIn K (.type "int") "__mul__" = some (some (.builtin "int.__mul__")))
    (zjMult : PySem.W.findIn K (.type "int") "__rmul__" = some (some (.builtin "int.__rmul__")))
    (hSF : PySem.W.selfFirst K C = true)
    (scI : PySem.W.subIn K (.ref C) (.type "int") = some false)
    (kmI : PySem.W.kitMeta "int" = true)
    (aRatio_add : PySem.W.findIn K (.ref C) "__add__" = some (some (.ref fRatio_add)))
    (iRatio_add : PySem.W.isFn K (.ref fRatio_add) = true)
    (lRatio_add : K.lookup fRatio_add = some ⟨ocRatio_add, odRatio_add, .func (PySem.W.fnOf "__add__" "Ratio.__add__" (defArgs s_Ratio_add) (defBody s_Ratio_add) (defScope s_Ratio_add) .none kVRatio_add dcRatio_add pmRatio_add anRatio_add cdRatio_add ctRatio_add), slRatio_add⟩)
    (cRatio_add : PySem.W.codeIn K cdRatio_add "Ratio.__add__" = true)
    (kRatio_add : PySem.W.keepIn K (.ref fRatio_add) = true)
    (aRatio_radd : PySem.W.findIn K (.ref C) "__radd__" = some (some (.ref fRatio_radd)))
    (iRatio_radd : PySem.W.isFn K (.ref fRatio_radd) = true)
    (lRatio_radd : K.lookup fRatio_radd = some ⟨ocRatio_radd, odRatio_radd, .func (PySem.W.fnOf "__radd__" "Ratio.__radd__" (defArgs s_Ratio_radd) (defBody s_Ratio_radd) (defScope s_Ratio_radd) .none kVRatio_radd dcRatio_radd pmRatio_radd anRatio_radd cdRatio_radd ctRatio_radd), slRatio_radd⟩)
    (cRatio_radd : PySem.W.codeIn K cdRatio_radd "Ratio.__radd__" = true)
    (kRatio_radd : PySem.W.keepIn K (.ref fRatio_radd) = true)
    (aRatio_lt : PySem.W.findIn K (.ref C) "__lt__" = some (some (.ref fRatio_lt)))
    (iRatio_lt : PySem.W.isFn K (.ref fRatio_lt) = true)
    (lRatio_lt : K.lookup fRatio_lt = some ⟨ocRatio_lt, odRatio_lt, .func (PySem.W.fnOf "__lt__" "Ratio.__lt__" (defArgs s_Ratio_lt) (defBody s_Ratio_lt) (defScope s_Ratio_lt) .none kVRatio_lt dcRatio_lt pmRatio_lt anRatio_lt cdRatio_lt ctRatio_lt), slRatio_lt⟩)
    (cRatio_lt : PySem.W.codeIn K cdRatio_lt "Ratio.__lt__" = true)
    (kRatio_lt : PySem.W.keepIn K (.ref fRatio_lt) = true)
    (aRatio_eq : PySem.W.findIn K (.ref C) "__eq__" = some (some (.ref fRatio_eq)))
    (iRatio_eq : PySem.W.isFn K (.ref fRatio_eq) = true)
    (lRatio_eq : K.lookup fRatio_eq = some ⟨ocRatio_eq, odRatio_eq, .func (PySem.W.fnOf "__eq__" "Ratio.__eq__" (defArgs s_Ratio_eq) (defBody s_Ratio_eq) (defScope s_Ratio_eq) .none kVRatio_eq dcRatio_eq pmRatio_eq anRatio_eq cdRatio_eq ctRatio_eq), slRatio_eq⟩)
    (cRatio_eq : PySem.W.codeIn K cdRatio_eq "Ratio.__eq__" = true)
    (kRatio_eq : PySem.W.keepIn K (.ref fRatio_eq) = true)
    (neC : PySem.W.findIn K (.ref C) "__ne__" = some (some (.builtin "object.__ne__")))
    (aD : PySem.W.nsIn K mainGlobals "Run" = some (some (.ref D)))
    (pgD : PySem.W.plainGet K D Str.empty = true)
    (hdD : PySem.W.hasDictIn K D = true)
    (poD : PySem.W.plainOver K D = true)
    (saD : PySem.W.findIn K (.ref D) "__setattr__" = some (some (.builtin "object.__setattr__")))
    (mkD : PySem.W.makesIn K D = true)
    (kcD : PySem.W.keepIn K (.ref D) = true)
    (n1D : PySem.W.findIn K (.ref D) "first" = some none)
    (n2D : PySem.W.findIn K (.ref D) "step" = some none)
    (n3D : PySem.W.findIn K (.ref D) "count" = some none)
    (haD : PySem.W.findIn K (.ref D) "__class__" = some (some (.builtin "object.__class__")))
    (hmD : PySem.W.mroIn K D (.type "object") = some true)
    (aMS : PySem.W.nsIn K mainGlobals "MOST_STEP" = some (some (.int 4 tkM)))
    (aRun_init : PySem.W.findIn K (.ref D) "__init__" = some (some (.ref fRun_init)))
    (iRun_init : PySem.W.isFn K (.ref fRun_init) = true)
    (lRun_init : K.lookup fRun_init = some ⟨ocRun_init, odRun_init, .func (PySem.W.fnOf "__init__" "Run.__init__" (defArgs s_Run_init) (defBody s_Run_init) (defScope s_Run_init) .none kVRun_init dcRun_init pmRun_init anRun_init cdRun_init ctRun_init), slRun_init⟩)
    (cRun_init : PySem.W.codeIn K cdRun_init "Run.__init__" = true)
    (kRun_init : PySem.W.keepIn K (.ref fRun_init) = true)
    (aRun_contains : PySem.W.findIn K (.ref D) "__contains__" = some (some (.ref fRun_contains)))
    (iRun_contains : PySem.W.isFn K (.ref fRun_contains) = true)
    (lRun_contains : K.lookup fRun_contains = some ⟨ocRun_contains, odRun_contains, .func (PySem.W.fnOf "__contains__" "Run.__contains__" (defArgs s_Run_contains) (defBody s_Run_contains) (defScope s_Run_contains) .none kVRun_contains dcRun_contains pmRun_contains anRun_contains cdRun_contains ctRun_contains), slRun_contains⟩)
    (cRun_contains : PySem.W.codeIn K cdRun_contains "Run.__contains__" = true)
    (kRun_contains : PySem.W.keepIn K (.ref fRun_contains) = true)
    (q1Run_last : PySem.W.findIn K (.ref D) "last" = some (some (.ref pRun_last)))
    (q2Run_last : PySem.W.specialIn K (.ref pRun_last) "__get__" = some (some (.builtin "property.__get__")))
    (q3Run_last : PySem.W.takesIn K (.ref pRun_last) = some true)
    (q4Run_last : PySem.W.recIn K pRun_last "property" = some (.ref gRun_last :: rRun_last))
    (lRun_last : K.lookup gRun_last = some ⟨ocRun_last, odRun_last, .func (PySem.W.fnOf "last" "Run.last" (defArgs s_Run_last) (defBody s_Run_last) (defScope s_Run_last) .none kVRun_last dcRun_last pmRun_last anRun_last cdRun_last ctRun_last), slRun_last⟩)
    (cRun_last : PySem.W.codeIn K cdRun_last "Run.last" = true)
    (kRun_last : PySem.W.keepIn K (.ref gRun_last) = true)
    (aMP : PySem.W.nsIn K mainGlobals "MOST_PARTS" = some (some (.int 64 tkP)))
    (aBL : PySem.W.nsIn K mainGlobals "Blend" = some (some (.ref BL)))
    (pgBL : PySem.W.plainGet K BL Str.empty = true)
    (hdBL : PySem.W.hasDictIn K BL = true)
    (poBL : PySem.W.plainOver K BL = true)
    (saBL : PySem.W.findIn K (.ref BL) "__setattr__" = some (some (.builtin "object.__setattr__")))
    (mkBL : PySem.W.makesIn K BL = true)
    (kcBL : PySem.W.keepIn K (.ref BL) = true)
    (haBL : PySem.W.findIn K (.ref BL) "__class__" = some (some (.builtin "object.__class__")))
    (hmBL : PySem.W.mroIn K BL (.type "object") = some true)
    (n0BL : PySem.W.findIn K (.ref BL) "parts" = some none)
    (aBlend_init : PySem.W.findIn K (.ref BL) "__init__" = some (some (.ref fBlend_init)))
    (iBlend_init : PySem.W.isFn K (.ref fBlend_init) = true)
    (lBlend_init : K.lookup fBlend_init = some ⟨ocBlend_init, odBlend_init, .func (PySem.W.fnOf "__init__" "Blend.__init__" (defArgs s_Blend_init) (defBody s_Blend_init) (defScope s_Blend_init) .none kVBlend_init dcBlend_init pmBlend_init anBlend_init cdBlend_init ctBlend_init), slBlend_init⟩)
    (cBlend_init : PySem.W.codeIn K cdBlend_init "Blend.__init__" = true)
    (kBlend_init : PySem.W.keepIn K (.ref fBlend_init) = true)
    (aBlend_iter : PySem.W.findIn K (.ref BL) "__iter__" = some (some (.ref fBlend_iter)))
    (iBlend_iter : PySem.W.isFn K (.ref fBlend_iter) = true)
    (lBlend_iter : K.lookup fBlend_iter = some ⟨ocBlend_iter, odBlend_iter, .func (PySem.W.fnOf "__iter__" "Blend.__iter__" (defArgs s_Blend_iter) (defBody s_Blend_iter) (defScope s_Blend_iter) .none kVBlend_iter dcBlend_iter pmBlend_iter anBlend_iter cdBlend_iter ctBlend_iter), slBlend_iter⟩)
    (cBlend_iter : PySem.W.codeIn K cdBlend_iter "Blend.__iter__" = true)
    (kBlend_iter : PySem.W.keepIn K (.ref fBlend_iter) = true)
    (ais_number : PySem.W.nsIn K mainGlobals "is_number" = some (some (.ref fis_number)))
    (lis_number : K.lookup fis_number = some ⟨ocis_number, odis_number, .func (PySem.W.fnOf "is_number" "is_number" (defArgs s_is_number) (defBody s_is_number) (defScope s_is_number) .none kVis_number dcis_number pmis_number anis_number cdis_number ctis_number), slis_number⟩)
    (cis_number : PySem.W.codeIn K cdis_number "is_number" = true)
    (kis_number : PySem.W.keepIn K (.ref fis_number) = true)
    (aas_ratio : PySem.W.nsIn K mainGlobals "as_ratio" = some (some (.ref fas_ratio)))
    (las_ratio : K.lookup fas_ratio = some ⟨ocas_ratio, odas_ratio, .func (PySem.W.fnOf "as_ratio" "as_ratio" (defArgs s_as_ratio) (defBody s_as_ratio) (defScope s_as_ratio) .none kVas_ratio dcas_ratio pmas_ratio anas_ratio cdas_ratio ctas_ratio), slas_ratio⟩)
    (cas_ratio : PySem.W.codeIn K cdas_ratio "as_ratio" = true)
    (kas_ratio : PySem.W.keepIn K (.ref fas_ratio) = true)
    (atop_of : PySem.W.nsIn K mainGlobals "_top_of" = some (some (.ref ftop_of)))
    (ltop_of : K.lookup ftop_of = some ⟨octop_of, odtop_of, .func (PySem.W.fnOf "_top_of" "_top_of" (defArgs s_top_of) (defBody s_top_of) (defScope s_top_of) .none kVtop_of dctop_of pmtop_of antop_of cdtop_of cttop_of), sltop_of⟩)
    (ctop_of : PySem.W.codeIn K cdtop_of "_top_of" = true)
    (ktop_of : PySem.W.keepIn K (.ref ftop_of) = true)
    (aunder_of : PySem.W.nsIn K mainGlobals "_under_of" = some (some (.ref funder_of)))
    (lunder_of : K.lookup funder_of = some ⟨ocunder_of, odunder_of, .func (PySem.W.fnOf "_under_of" "_under_of" (defArgs s_under_of) (defBody s_under_of) (defScope s_under_of) .none kVunder_of dcunder_of pmunder_of anunder_of cdunder_of ctunder_of), slunder_of⟩)
    (cunder_of : PySem.W.codeIn K cdunder_of "_under_of" = true)
    (kunder_of : PySem.W.keepIn K (.ref funder_of) = true)
    (aadded : PySem.W.nsIn K mainGlobals "added" = some (some (.ref fadded)))
    (ladded : K.lookup fadded = some ⟨ocadded, odadded, .func (PySem.W.fnOf "added" "added" (defArgs s_added) (defBody s_added) (defScope s_added) .none kVadded dcadded pmadded anadded cdadded ctadded), sladded⟩)
    (cadded : PySem.W.codeIn K cdadded "added" = true)
    (kadded : PySem.W.keepIn K (.ref fadded) = true)
    (acheck_parts : PySem.W.nsIn K mainGlobals "check_parts" = some (some (.ref fcheck_parts)))
    (lcheck_parts : K.lookup fcheck_parts = some ⟨occheck_parts, odcheck_parts, .func (PySem.W.fnOf "check_parts" "check_parts" (defArgs s_check_parts) (defBody s_check_parts) (defScope s_check_parts) .none kVcheck_parts dccheck_parts pmcheck_parts ancheck_parts cdcheck_parts ctcheck_parts), slcheck_parts⟩)
    (ccheck_parts : PySem.W.codeIn K cdcheck_parts "check_parts" = true)
    (kcheck_parts : PySem.W.keepIn K (.ref fcheck_parts) = true)
    (aput_together : PySem.W.nsIn K mainGlobals "put_together" = some (some (.ref fput_together)))
    (lput_together : K.lookup fput_together = some ⟨ocput_together, odput_together, .func (PySem.W.fnOf "put_together" "put_together" (defArgs s_put_together) (defBody s_put_together) (defScope s_put_together) .none kVput_together dcput_together pmput_together anput_together cdput_together ctput_together), slput_together⟩)
    (cput_together : PySem.W.codeIn K cdput_together "put_together" = true)
    (kput_together : PySem.W.keepIn K (.ref fput_together) = true)
    (acommon_under : PySem.W.nsIn K mainGlobals "common_under" = some (some (.ref fcommon_under)))
    (lcommon_under : K.lookup fcommon_under = some ⟨occommon_under, odcommon_under, .func (PySem.W.fnOf "common_under" "common_under" (defArgs s_common_under) (defBody s_common_under) (defScope s_common_under) .none kVcommon_under dccommon_under pmcommon_under ancommon_under cdcommon_under ctcommon_under), slcommon_under⟩)
    (ccommon_under : PySem.W.codeIn K cdcommon_under "common_under" = true)
    (kcommon_under : PySem.W.keepIn K (.ref fcommon_under) = true)
    (aweighted : PySem.W.nsIn K mainGlobals "weighted" = some (some (.ref fweighted)))
    (lweighted : K.lookup fweighted = some ⟨ocweighted, odweighted, .func (PySem.W.fnOf "weighted" "weighted" (defArgs s_weighted) (defBody s_weighted) (defScope s_weighted) .none kVweighted dcweighted pmweighted anweighted cdweighted ctweighted), slweighted⟩)
    (cweighted : PySem.W.codeIn K cdweighted "weighted" = true)
    (kweighted : PySem.W.keepIn K (.ref fweighted) = true)
    (awhole_chance : PySem.W.nsIn K mainGlobals "whole_chance" = some (some (.ref fwhole_chance)))
    (lwhole_chance : K.lookup fwhole_chance = some ⟨ocwhole_chance, odwhole_chance, .func (PySem.W.fnOf "whole_chance" "whole_chance" (defArgs s_whole_chance) (defBody s_whole_chance) (defScope s_whole_chance) .none kVwhole_chance dcwhole_chance pmwhole_chance anwhole_chance cdwhole_chance ctwhole_chance), slwhole_chance⟩)
    (cwhole_chance : PySem.W.codeIn K cdwhole_chance "whole_chance" = true)
    (kwhole_chance : PySem.W.keepIn K (.ref fwhole_chance) = true)
    (aperiod : PySem.W.nsIn K mainGlobals "_period" = some (some (.ref fperiod)))
    (lperiod : K.lookup fperiod = some ⟨ocperiod, odperiod, .func (PySem.W.fnOf "_period" "_period" (defArgs s_period) (defBody s_period) (defScope s_period) .none kVperiod dcperiod pmperiod anperiod cdperiod ctperiod), slperiod⟩)
    (cperiod : PySem.W.codeIn K cdperiod "_period" = true)
    (kperiod : PySem.W.keepIn K (.ref fperiod) = true)
    (astretches : PySem.W.nsIn K mainGlobals "stretches" = some (some (.ref fstretches)))
    (lstretches : K.lookup fstretches = some ⟨ocstretches, odstretches, .func (PySem.W.fnOf "stretches" "stretches" (defArgs s_stretches) (defBody s_stretches) (defScope s_stretches) .none kVstretches dcstretches pmstretches anstretches cdstretches ctstretches), slstretches⟩)
    (cstretches : PySem.W.codeIn K cdstretches "stretches" = true)
    (kstretches : PySem.W.keepIn K (.ref fstretches) = true)
    (afirst_difference : PySem.W.nsIn K mainGlobals "first_difference" = some (some (.ref ffirst_difference)))
    (lfirst_difference : K.lookup ffirst_difference = some ⟨ocfirst_difference, odfirst_difference, .func (PySem.W.fnOf "first_difference" "first_difference" (defArgs s_first_difference) (defBody s_first_difference) (defScope s_first_difference) .none kVfirst_difference dcfirst_difference pmfirst_difference anfirst_difference cdfirst_difference ctfirst_difference), slfirst_difference⟩)
    (cfirst_difference : PySem.W.codeIn K cdfirst_difference "first_difference" = true)
    (kfirst_difference : PySem.W.keepIn K (.ref ffirst_difference) = true)
    (sk1 : PySem.W.nsIn K cStatics "sys.audit-hooks" = some none)
    (sk2 : PySem.W.nsIn K cStatics "sys.dict" = some none)
    (sk3 : modsB K = true)
    (sk4 : mainB K = true)
    (sk5 : l.prog.given.tree = none)
    (apool : PySem.W.nsIn K mainGlobals "_law_pool" = some (some (.ref fpool)))
    (lpool : K.lookup fpool = some ⟨ocpool, odpool, .func (PySem.W.fnOf "_law_pool" "_law_pool" (defArgs s_pool) (defBody s_pool) (defScope s_pool) .none kVpool dcpool pmpool anpool cdpool ctpool), slpool⟩)
    (cpool : PySem.W.codeIn K cdpool "_law_pool" = true)
    (kpool : PySem.W.keepIn K (.ref fpool) = true)
    (amix : PySem.W.nsIn K mainGlobals "_law_mix" = some (some (.ref fmix)))
    (lmix : K.lookup fmix = some ⟨ocmix, odmix, .func (PySem.W.fnOf "_law_mix" "_law_mix" (defArgs s_mix) (defBody s_mix) (defScope s_mix) .none kVmix dcmix pmmix anmix cdmix ctmix), slmix⟩)
    (cmix : PySem.W.codeIn K cdmix "_law_mix" = true)
    (kmix : PySem.W.keepIn K (.ref fmix) = true)
    (adraw : PySem.W.nsIn K mainGlobals "_law_draw" = some (some (.ref fdraw)))
    (ldraw : K.lookup fdraw = some ⟨ocdraw, oddraw, .func (PySem.W.fnOf "_law_draw" "_law_draw" (defArgs s_draw) (defBody s_draw) (defScope s_draw) .none kVdraw dcdraw pmdraw andraw cddraw ctdraw), sldraw⟩)
    (cdraw : PySem.W.codeIn K cddraw "_law_draw" = true)
    (kdraw : PySem.W.keepIn K (.ref fdraw) = true)
    (awide : PySem.W.nsIn K mainGlobals "_law_wide" = some (some (.ref fwide)))
    (lwide : K.lookup fwide = some ⟨ocwide, odwide, .func (PySem.W.fnOf "_law_wide" "_law_wide" (defArgs s_wide) (defBody s_wide) (defScope s_wide) .none kVwide dcwide pmwide anwide cdwide ctwide), slwide⟩)
    (cwide : PySem.W.codeIn K cdwide "_law_wide" = true)
    (kwide : PySem.W.keepIn K (.ref fwide) = true)
    (agcd : PySem.W.nsIn K mainGlobals "_law_gcd" = some (some (.ref fgcd)))
    (lgcd : K.lookup fgcd = some ⟨ocgcd, odgcd, .func (PySem.W.fnOf "_law_gcd" "_law_gcd" (defArgs s_gcd) (defBody s_gcd) (defScope s_gcd) .none kVgcd dcgcd pmgcd angcd cdgcd ctgcd), slgcd⟩)
    (cgcd : PySem.W.codeIn K cdgcd "_law_gcd" = true)
    (kgcd : PySem.W.keepIn K (.ref fgcd) = true)
    (alow : PySem.W.nsIn K mainGlobals "_law_low" = some (some (.ref flow)))
    (llow : K.lookup flow = some ⟨oclow, odlow, .func (PySem.W.fnOf "_law_low" "_law_low" (defArgs s_low) (defBody s_low) (defScope s_low) .none kVlow dclow pmlow anlow cdlow ctlow), sllow⟩)
    (clow : PySem.W.codeIn K cdlow "_law_low" = true)
    (klow : PySem.W.keepIn K (.ref flow) = true)
    (aplus : PySem.W.nsIn K mainGlobals "_law_plus" = some (some (.ref fplus)))
    (lplus : K.lookup fplus = some ⟨ocplus, odplus, .func (PySem.W.fnOf "_law_plus" "_law_plus" (defArgs s_plus) (defBody s_plus) (defScope s_plus) .none kVplus dcplus pmplus anplus cdplus ctplus), slplus⟩)
    (cplus : PySem.W.codeIn K cdplus "_law_plus" = true)
    (kplus : PySem.W.keepIn K (.ref fplus) = true)
    (atimes : PySem.W.nsIn K mainGlobals "_law_times" = some (some (.ref ftimes)))
    (ltimes : K.lookup ftimes = some ⟨octimes, odtimes, .func (PySem.W.fnOf "_law_times" "_law_times" (defArgs s_times) (defBody s_times) (defScope s_times) .none kVtimes dctimes pmtimes antimes cdtimes cttimes), sltimes⟩)
    (ctimes : PySem.W.codeIn K cdtimes "_law_times" = true)
    (ktimes : PySem.W.keepIn K (.ref ftimes) = true)
    (awhole : PySem.W.nsIn K mainGlobals "_law_whole" = some (some (.ref fwhole)))
    (lwhole : K.lookup fwhole = some ⟨ocwhole, odwhole, .func (PySem.W.fnOf "_law_whole" "_law_whole" (defArgs s_whole) (defBody s_whole) (defScope s_whole) .none kVwhole dcwhole pmwhole anwhole cdwhole ctwhole), slwhole⟩)
    (cwhole : PySem.W.codeIn K cdwhole "_law_whole" = true)
    (kwhole : PySem.W.keepIn K (.ref fwhole) = true)
    (arun : PySem.W.nsIn K mainGlobals "_law_run" = some (some (.ref frun)))
    (lrun : K.lookup frun = some ⟨ocrun, odrun, .func (PySem.W.fnOf "_law_run" "_law_run" (defArgs s_run) (defBody s_run) (defScope s_run) .none kVrun dcrun pmrun anrun cdrun ctrun), slrun⟩)
    (crun : PySem.W.codeIn K cdrun "_law_run" = true)
    (krun : PySem.W.keepIn K (.ref frun) = true)
    (alast : PySem.W.nsIn K mainGlobals "_law_last" = some (some (.ref flast)))
    (llast : K.lookup flast = some ⟨oclast, odlast, .func (PySem.W.fnOf "_law_last" "_law_last" (defArgs s_last) (defBody s_last) (defScope s_last) .none kVlast dclast pmlast anlast cdlast ctlast), sllast⟩)
    (clast : PySem.W.codeIn K cdlast "_law_last" = true)
    (klast : PySem.W.keepIn K (.ref flast) = true)
    (ain : PySem.W.nsIn K mainGlobals "_law_in" = some (some (.ref fin)))
    (lin : K.lookup fin = some ⟨ocin, odin, .func (PySem.W.fnOf "_law_in" "_law_in" (defArgs s_in) (defBody s_in) (defScope s_in) .none kVin dcin pmin anin cdin ctin), slin⟩)
    (cin : PySem.W.codeIn K cdin "_law_in" = true)
    (kin : PySem.W.keepIn K (.ref fin) = true)
    (aparts : PySem.W.nsIn K mainGlobals "_law_parts" = some (some (.ref fparts)))
    (lparts : K.lookup fparts = some ⟨ocparts, odparts, .func (PySem.W.fnOf "_law_parts" "_law_parts" (defArgs s_parts) (defBody s_parts) (defScope s_parts) .none kVparts dcparts pmparts anparts cdparts ctparts), slparts⟩)
    (cparts : PySem.W.codeIn K cdparts "_law_parts" = true)
    (kparts : PySem.W.keepIn K (.ref fparts) = true)
    (aweights : PySem.W.nsIn K mainGlobals "_law_weights" = some (some (.ref fweights)))
    (lweights : K.lookup fweights = some ⟨ocweights, odweights, .func (PySem.W.fnOf "_law_weights" "_law_weights" (defArgs s_weights) (defBody s_weights) (defScope s_weights) .none kVweights dcweights pmweights anweights cdweights ctweights), slweights⟩)
    (cweights : PySem.W.codeIn K cdweights "_law_weights" = true)
    (kweights : PySem.W.keepIn K (.ref fweights) = true)
    (anear : PySem.W.nsIn K mainGlobals "_law_near" = some (some (.ref fnear)))
    (lnear : K.lookup fnear = some ⟨ocnear, odnear, .func (PySem.W.fnOf "_law_near" "_law_near" (defArgs s_near) (defBody s_near) (defScope s_near) .none kVnear dcnear pmnear annear cdnear ctnear), slnear⟩)
    (cnear : PySem.W.codeIn K cdnear "_law_near" = true)
    (knear : PySem.W.keepIn K (.ref fnear) = true)
    (agreatest : PySem.W.nsIn K mainGlobals "_law_greatest" = some (some (.ref fgreatest)))
    (lgreatest : K.lookup fgreatest = some ⟨ocgreatest, odgreatest, .func (PySem.W.fnOf "_law_greatest" "_law_greatest" (defArgs s_greatest) (defBody s_greatest) (defScope s_greatest) .none kVgreatest dcgreatest pmgreatest angreatest cdgreatest ctgreatest), slgreatest⟩)
    (cgreatest : PySem.W.codeIn K cdgreatest "_law_greatest" = true)
    (kgreatest : PySem.W.keepIn K (.ref fgreatest) = true)
    (aheavy : PySem.W.nsIn K mainGlobals "_law_heavy" = some (some (.ref fheavy)))
    (lheavy : K.lookup fheavy = some ⟨ocheavy, odheavy, .func (PySem.W.fnOf "_law_heavy" "_law_heavy" (defArgs s_heavy) (defBody s_heavy) (defScope s_heavy) .none kVheavy dcheavy pmheavy anheavy cdheavy ctheavy), slheavy⟩)
    (cheavy : PySem.W.codeIn K cdheavy "_law_heavy" = true)
    (kheavy : PySem.W.keepIn K (.ref fheavy) = true)
    (aspot : PySem.W.nsIn K mainGlobals "_law_spot" = some (some (.ref fspot)))
    (lspot : K.lookup fspot = some ⟨ocspot, odspot, .func (PySem.W.fnOf "_law_spot" "_law_spot" (defArgs s_spot) (defBody s_spot) (defScope s_spot) .none kVspot dcspot pmspot anspot cdspot ctspot), slspot⟩)
    (cspot : PySem.W.codeIn K cdspot "_law_spot" = true)
    (kspot : PySem.W.keepIn K (.ref fspot) = true)
    (aalike : PySem.W.nsIn K mainGlobals "_law_alike" = some (some (.ref falike)))
    (lalike : K.lookup falike = some ⟨ocalike, odalike, .func (PySem.W.fnOf "_law_alike" "_law_alike" (defArgs s_alike) (defBody s_alike) (defScope s_alike) .none kValike dcalike pmalike analike cdalike ctalike), slalike⟩)
    (calike : PySem.W.codeIn K cdalike "_law_alike" = true)
    (kalike : PySem.W.keepIn K (.ref falike) = true)
    (asingle : PySem.W.nsIn K mainGlobals "_law_single" = some (some (.ref fsingle)))
    (lsingle : K.lookup fsingle = some ⟨ocsingle, odsingle, .func (PySem.W.fnOf "_law_single" "_law_single" (defArgs s_single) (defBody s_single) (defScope s_single) .none kVsingle dcsingle pmsingle ansingle cdsingle ctsingle), slsingle⟩)
    (csingle : PySem.W.codeIn K cdsingle "_law_single" = true)
    (ksingle : PySem.W.keepIn K (.ref fsingle) = true)
    (arows : PySem.W.nsIn K mainGlobals "_law_rows" = some (some (.ref frows)))
    (lrows : K.lookup frows = some ⟨ocrows, odrows, .func (PySem.W.fnOf "_law_rows" "_law_rows" (defArgs s_rows) (defBody s_rows) (defScope s_rows) .none kVrows dcrows pmrows anrows cdrows ctrows), slrows⟩)
    (crows : PySem.W.codeIn K cdrows "_law_rows" = true)
    (krows : PySem.W.keepIn K (.ref frows) = true)
    (apieces : PySem.W.nsIn K mainGlobals "_law_pieces" = some (some (.ref fpieces)))
    (lpieces : K.lookup fpieces = some ⟨ocpieces, odpieces, .func (PySem.W.fnOf "_law_pieces" "_law_pieces" (defArgs s_pieces) (defBody s_pieces) (defScope s_pieces) .none kVpieces dcpieces pmpieces anpieces cdpieces ctpieces), slpieces⟩)
    (cpieces : PySem.W.codeIn K cdpieces "_law_pieces" = true)
    (kpieces : PySem.W.keepIn K (.ref fpieces) = true)
    (aotherwise : PySem.W.nsIn K mainGlobals "_law_otherwise" = some (some (.ref fotherwise)))
    (lotherwise : K.lookup fotherwise = some ⟨ocotherwise, odotherwise, .func (PySem.W.fnOf "_law_otherwise" "_law_otherwise" (defArgs s_otherwise) (defBody s_otherwise) (defScope s_otherwise) .none kVotherwise dcotherwise pmotherwise anotherwise cdotherwise ctotherwise), slotherwise⟩)
    (cotherwise : PySem.W.codeIn K cdotherwise "_law_otherwise" = true)
    (kotherwise : PySem.W.keepIn K (.ref fotherwise) = true)
    (achanged : PySem.W.nsIn K mainGlobals "_law_changed" = some (some (.ref fchanged)))
    (lchanged : K.lookup fchanged = some ⟨occhanged, odchanged, .func (PySem.W.fnOf "_law_changed" "_law_changed" (defArgs s_changed) (defBody s_changed) (defScope s_changed) .none kVchanged dcchanged pmchanged anchanged cdchanged ctchanged), slchanged⟩)
    (cchanged : PySem.W.codeIn K cdchanged "_law_changed" = true)
    (kchanged : PySem.W.keepIn K (.ref fchanged) = true)
    (arow_blend : PySem.W.nsIn K mainGlobals "_law_row_blend" = some (some (.ref frow_blend)))
    (lrow_blend : K.lookup frow_blend = some ⟨ocrow_blend, odrow_blend, .func (PySem.W.fnOf "_law_row_blend" "_law_row_blend" (defArgs s_row_blend) (defBody s_row_blend) (defScope s_row_blend) .none kVrow_blend dcrow_blend pmrow_blend anrow_blend cdrow_blend ctrow_blend), slrow_blend⟩)
    (crow_blend : PySem.W.codeIn K cdrow_blend "_law_row_blend" = true)
    (krow_blend : PySem.W.keepIn K (.ref frow_blend) = true)
    (achance : PySem.W.nsIn K mainGlobals "_law_chance" = some (some (.ref fchance)))
    (lchance : K.lookup fchance = some ⟨occhance, odchance, .func (PySem.W.fnOf "_law_chance" "_law_chance" (defArgs s_chance) (defBody s_chance) (defScope s_chance) .none kVchance dcchance pmchance anchance cdchance ctchance), slchance⟩)
    (cchance : PySem.W.codeIn K cdchance "_law_chance" = true)
    (kchance : PySem.W.keepIn K (.ref fchance) = true)
    (aapart : PySem.W.nsIn K mainGlobals "_law_apart" = some (some (.ref fapart)))
    (lapart : K.lookup fapart = some ⟨ocapart, odapart, .func (PySem.W.fnOf "_law_apart" "_law_apart" (defArgs s_apart) (defBody s_apart) (defScope s_apart) .none kVapart dcapart pmapart anapart cdapart ctapart), slapart⟩)
    (capart : PySem.W.codeIn K cdapart "_law_apart" = true)
    (kapart : PySem.W.keepIn K (.ref fapart) = true)
    (awalked : PySem.W.nsIn K mainGlobals "_law_walked" = some (some (.ref fwalked)))
    (lwalked : K.lookup fwalked = some ⟨ocwalked, odwalked, .func (PySem.W.fnOf "_law_walked" "_law_walked" (defArgs s_walked) (defBody s_walked) (defScope s_walked) .none kVwalked dcwalked pmwalked anwalked cdwalked ctwalked), slwalked⟩)
    (cwalked : PySem.W.codeIn K cdwalked "_law_walked" = true)
    (kwalked : PySem.W.keepIn K (.ref fwalked) = true)
    (adiffers : PySem.W.nsIn K mainGlobals "_law_differs" = some (some (.ref fdiffers)))
    (ldiffers : K.lookup fdiffers = some ⟨ocdiffers, oddiffers, .func (PySem.W.fnOf "_law_differs" "_law_differs" (defArgs s_differs) (defBody s_differs) (defScope s_differs) .none kVdiffers dcdiffers pmdiffers andiffers cddiffers ctdiffers), sldiffers⟩)
    (cdiffers : PySem.W.codeIn K cddiffers "_law_differs" = true)
    (kdiffers : PySem.W.keepIn K (.ref fdiffers) = true)
    (alaw : PySem.W.nsIn K mainGlobals "law" = some (some (.ref flaw)))
    (llaw : K.lookup flaw = some ⟨oclaw, odlaw, .func (PySem.W.fnOf "law" "law" (defArgs s_law) (defBody s_law) (defScope s_law) .none kVlaw dclaw pmlaw anlaw cdlaw ctlaw), sllaw⟩)
    (claw : PySem.W.codeIn K cdlaw "law" = true)
    (klaw : PySem.W.keepIn K (.ref flaw) = true) :
    ∃ fd : FuncData, (∀ (s : Shared) (v : Value), BindsTo s fd ⟨[v], []⟩ [("_law_script", v)]) ∧ ∀ base : Heap, K.In base → base.Ns mainGlobals mg → FnOk l.prog w K mg base CX0 40 fa fd ["_law_script"] (spLaw K) := by
  have e := hfa.symm.trans (PySem.W.mg_of X G alaw)
  cases e
  have B : Blt mg := ⟨PySem.W.mg_none_of X G zlen, PySem.W.mg_none_of X G zint, PySem.W.mg_none_of X G zabs, PySem.W.mg_none_of X G zrange, PySem.W.mg_none_of X G zisinstance, PySem.W.mg_none_of X G zmax, PySem.W.mg_none_of X G zmin, PySem.W.mg_none_of X G zsum, PySem.W.mg_none_of X G zstr, PySem.W.mg_none_of X G zbool, PySem.W.mg_none_of X G zlist, PySem.W.mg_none_of X G zValueError⟩
  have hZip := PySem.W.mg_none_of X G zzip
  have hAny := PySem.W.mg_none_of X G zany
  have hIter := PySem.W.mg_none_of X G ziter
  have hSrt := PySem.W.mg_none_of X G zsorted
  have gRatio := PySem.W.mg_of X G aC
  have T : RatC K mg C := ⟨⟨pgC, hdC, poC, saC⟩, nTC, nUC, gRatio, haC, hnO, htO, hmC, kit_int hdC tyC siC⟩
  have FI : FunD K "__init__" "Ratio.__init__" (defArgs s_Ratio_init) (defBody s_Ratio_init) (defScope s_Ratio_init) [.int 1] [] fRatio_init _ := ⟨⟨_, _, _, _, _, _, _, _, _, _, rfl, lRatio_init, cRatio_init, .inr ⟨(by intro e; cases e), tD, _, [Value.int 1 tkD], nD, rfl, lD, rfl, .cons ⟨_, rfl⟩ .nil⟩, .inl rfl⟩, kRatio_init⟩
  have hgcd := PySem.W.mg_of X G aGcd
  have hLcm := PySem.W.mg_of X G aLcm
  have gLotError := PySem.W.mg_of X G aLE
  have gBadNumber := PySem.W.mg_of X G aBN
  have rBN : PySem.HandSPX.refsVE [.ref LE, .type "ValueError", .type "Exception", .type "BaseException", .type "object"] = true := (show PySem.HandSPX.refsVE [.type "ValueError", .type "Exception", .type "BaseException", .type "object"] = true by decide +kernel)
  have TB : BnC K mg BN := ⟨⟨⟨nmE, qE, NE, bsE, _, snE, subE, abE, colE, ddE, mE0, mE1, mE2, mE3, mE5, xBN, rBN⟩, saBN, beBN, teBN, keBN⟩, gBadNumber, fnBN, fvBN, ⟨geBN, ggBN, beBN, hdBN, hcBN, hnO, htO, hoBN⟩, seBN⟩
  have FB := fun_mk (st := s_BadNumber_init) lBadNumber_init cBadNumber_init kBadNumber_init
  have bB := FB.binds (ps := ["self", "name", "value"]) fun _ _ _ _ _ _ us hl => match us, hl with | [_, _, _], _ => rfl
  have gTooMany := PySem.W.mg_of X G aTM
  have gZeroUnder := PySem.W.mg_of X G aZU
  have TZU : ExC K mg "ZeroUnder" ZU := ⟨xZU, gZeroUnder, keZU, beZU, teZU, seZU, ⟨geZU, ggZU, beZU, hdZU, hcZU, hnO, htO, hoZU⟩⟩
  have gBadShares := PySem.W.mg_of X G aBS
  have TBS : ExC K mg "BadShares" BS := ⟨xBS, gBadShares, keBS, beBS, teBS, seBS, ⟨geBS, ggBS, beBS, hdBS, hcBS, hnO, htO, hoBS⟩⟩
  have FRatio_add := fun_mk (st := s_Ratio_add) lRatio_add cRatio_add kRatio_add
  have bRatio_add := FRatio_add.binds (ps := ["self", "other"]) fun _ _ _ _ _ _ us hl => match us, hl with | [_, _], _ => rfl
  have FRatio_radd := fun_mk (st := s_Ratio_radd) lRatio_radd cRatio_radd kRatio_radd
  have bRatio_radd := FRatio_radd.binds (ps := ["self", "other"]) fun _ _ _ _ _ _ us hl => match us, hl with | [_, _], _ => rfl
  have FRatio_lt := fun_mk (st := s_Ratio_lt) lRatio_lt cRatio_lt kRatio_lt
  have bRatio_lt := FRatio_lt.binds (ps := ["self", "other"]) fun _ _ _ _ _ _ us hl => match us, hl with | [_, _], _ => rfl
  have FRatio_eq := fun_mk (st := s_Ratio_eq) lRatio_eq cRatio_eq kRatio_eq
  have bRatio_eq := FRatio_eq.binds (ps := ["self", "other"]) fun _ _ _ _ _ _ us hl => match us, hl with | [_, _], _ => rfl
  have gRun := PySem.W.mg_of X G aD
  have TD : RunC K mg D := ⟨⟨pgD, hdD, poD, saD⟩, n1D, n2D, n3D, gRun, haD, hnO, htO, hmD⟩
  have gMS := PySem.W.mg_of X G aMS
  have FRun_init := fun_mk (st := s_Run_init) lRun_init cRun_init kRun_init
  have bRun_init := FRun_init.binds (ps := ["self", "first", "step", "count"]) fun _ _ _ _ _ _ us hl => match us, hl with | [_, _, _, _], _ => rfl
  have FRun_contains := fun_mk (st := s_Run_contains) lRun_contains cRun_contains kRun_contains
  have bRun_contains := FRun_contains.binds (ps := ["self", "x"]) fun _ _ _ _ _ _ us hl => match us, hl with | [_, _], _ => rfl
  have mRun_contains : Meth K D "__contains__" fRun_contains := ⟨aRun_contains, iRun_contains, kRun_contains⟩
  have FRun_last := fun_mk (st := s_Run_last) lRun_last cRun_last kRun_last
  have bRun_last := FRun_last.binds (ps := ["self"]) fun _ _ _ _ _ _ us hl => match us, hl with | [_], _ => rfl
  have PRun_last : PropOf K D "last" pRun_last gRun_last := ⟨q1Run_last, q2Run_last, q3Run_last, _, q4Run_last⟩
  have gMP := PySem.W.mg_of X G aMP
  have gBlend := PySem.W.mg_of X G aBL
  have TF : BleC K mg BL := ⟨⟨pgBL, hdBL, poBL, saBL⟩, n0BL, gBlend, haBL, hnO, htO, hmBL⟩
  have FBlend_init := fun_mk (st := s_Blend_init) lBlend_init cBlend_init kBlend_init
  have bBlend_init := FBlend_init.binds (ps := ["self", "parts"]) fun _ _ _ _ _ _ us hl => match us, hl with | [_, _], _ => rfl
  have FBlend_iter := fun_mk (st := s_Blend_iter) lBlend_iter cBlend_iter kBlend_iter
  have bBlend_iter := FBlend_iter.binds (ps := ["self"]) fun _ _ _ _ _ _ us hl => match us, hl with | [_], _ => rfl
  have Fis_number := fun_mk (st := s_is_number) lis_number cis_number kis_number
  have Dis_number : Dfn K mg "is_number" "is_number" s_is_number ["value"] := ⟨fis_number, _, Fis_number, PySem.W.mg_of X G ais_number, Fis_number.binds (ps := ["value"]) fun _ _ _ _ _ _ us hl => match us, hl with | [_], _ => rfl⟩
  have Fas_ratio := fun_mk (st := s_as_ratio) las_ratio cas_ratio kas_ratio
  have Das_ratio : Dfn K mg "as_ratio" "as_ratio" s_as_ratio ["number"] := ⟨fas_ratio, _, Fas_ratio, PySem.W.mg_of X G aas_ratio, Fas_ratio.binds (ps := ["number"]) fun _ _ _ _ _ _ us hl => match us, hl with | [_], _ => rfl⟩
  have Ftop_of := fun_mk (st := s_top_of) ltop_of ctop_of ktop_of
  have Dtop_of : Dfn K mg "_top_of" "_top_of" s_top_of ["number"] := ⟨ftop_of, _, Ftop_of, PySem.W.mg_of X G atop_of, Ftop_of.binds (ps := ["number"]) fun _ _ _ _ _ _ us hl => match us, hl with | [_], _ => rfl⟩
  have Funder_of := fun_mk (st := s_under_of) lunder_of cunder_of kunder_of
  have Dunder_of : Dfn K mg "_under_of" "_under_of" s_under_of ["number"] := ⟨funder_of, _, Funder_of, PySem.W.mg_of X G aunder_of, Funder_of.binds (ps := ["number"]) fun _ _ _ _ _ _ us hl => match us, hl with | [_], _ => rfl⟩
  have Fadded := fun_mk (st := s_added) ladded cadded kadded
  have Dadded : Dfn K mg "added" "added" s_added ["numbers"] := ⟨fadded, _, Fadded, PySem.W.mg_of X G aadded, Fadded.binds (ps := ["numbers"]) fun _ _ _ _ _ _ us hl => match us, hl with | [_], _ => rfl⟩
  have Fcheck_parts := fun_mk (st := s_check_parts) lcheck_parts ccheck_parts kcheck_parts
  have Dcheck_parts : Dfn K mg "check_parts" "check_parts" s_check_parts ["parts"] := ⟨fcheck_parts, _, Fcheck_parts, PySem.W.mg_of X G acheck_parts, Fcheck_parts.binds (ps := ["parts"]) fun _ _ _ _ _ _ us hl => match us, hl with | [_], _ => rfl⟩
  have Fput_together := fun_mk (st := s_put_together) lput_together cput_together kput_together
  have Dput_together : Dfn K mg "put_together" "put_together" s_put_together ["parts", "marks"] := ⟨fput_together, _, Fput_together, PySem.W.mg_of X G aput_together, Fput_together.binds (ps := ["parts", "marks"]) fun _ _ _ _ _ _ us hl => match us, hl with | [_, _], _ => rfl⟩
  have Fcommon_under := fun_mk (st := s_common_under) lcommon_under ccommon_under kcommon_under
  have Dcommon_under : Dfn K mg "common_under" "common_under" s_common_under ["blends"] := ⟨fcommon_under, _, Fcommon_under, PySem.W.mg_of X G acommon_under, Fcommon_under.binds (ps := ["blends"]) fun _ _ _ _ _ _ us hl => match us, hl with | [_], _ => rfl⟩
  have Fweighted := fun_mk (st := s_weighted) lweighted cweighted kweighted
  have Dweighted : Dfn K mg "weighted" "weighted" s_weighted ["blend", "under"] := ⟨fweighted, _, Fweighted, PySem.W.mg_of X G aweighted, Fweighted.binds (ps := ["blend", "under"]) fun _ _ _ _ _ _ us hl => match us, hl with | [_, _], _ => rfl⟩
  have Fwhole_chance := fun_mk (st := s_whole_chance) lwhole_chance cwhole_chance kwhole_chance
  have Dwhole_chance : Dfn K mg "whole_chance" "whole_chance" s_whole_chance ["weights", "k"] := ⟨fwhole_chance, _, Fwhole_chance, PySem.W.mg_of X G awhole_chance, Fwhole_chance.binds (ps := ["weights", "k"]) fun _ _ _ _ _ _ us hl => match us, hl with | [_, _], _ => rfl⟩
  have Fperiod := fun_mk (st := s_period) lperiod cperiod kperiod
  have Dperiod : Dfn K mg "_period" "_period" s_period ["runs", "k"] := ⟨fperiod, _, Fperiod, PySem.W.mg_of X G aperiod, Fperiod.binds (ps := ["runs", "k"]) fun _ _ _ _ _ _ us hl => match us, hl with | [_, _], _ => rfl⟩
  have Fstretches := fun_mk (st := s_stretches) lstretches cstretches kstretches
  have Dstretches : Dfn K mg "stretches" "stretches" s_stretches ["runs"] := ⟨fstretches, _, Fstretches, PySem.W.mg_of X G astretches, Fstretches.binds (ps := ["runs"]) fun _ _ _ _ _ _ us hl => match us, hl with | [_], _ => rfl⟩
  have Ffirst_difference := fun_mk (st := s_first_difference) lfirst_difference cfirst_difference kfirst_difference
  have Dfirst_difference : Dfn K mg "first_difference" "first_difference" s_first_difference ["one", "other"] := ⟨ffirst_difference, _, Ffirst_difference, PySem.W.mg_of X G afirst_difference, Ffirst_difference.binds (ps := ["one", "other"]) fun _ _ _ _ _ _ us hl => match us, hl with | [_, _], _ => rfl⟩
  have SK : SeerK K l.prog := ⟨sk1, sk2, modsB_ok sk3, mainB_ok sk4, sk5⟩
  have Fpool := fun_mk (st := s_pool) lpool cpool kpool
  have Dpool : Dfn K mg "_law_pool" "_law_pool" s_pool ["_law_script"] := ⟨fpool, _, Fpool, PySem.W.mg_of X G apool, Fpool.binds (ps := ["_law_script"]) fun _ _ _ _ _ _ us hl => match us, hl with | [_], _ => rfl⟩
  have Fmix := fun_mk (st := s_mix) lmix cmix kmix
  have Dmix : Dfn K mg "_law_mix" "_law_mix" s_mix ["_law_state", "_law_turn", "_law_many"] := ⟨fmix, _, Fmix, PySem.W.mg_of X G amix, Fmix.binds (ps := ["_law_state", "_law_turn", "_law_many"]) fun _ _ _ _ _ _ us hl => match us, hl with | [_, _, _], _ => rfl⟩
  have Fdraw := fun_mk (st := s_draw) ldraw cdraw kdraw
  have Ddraw : Dfn K mg "_law_draw" "_law_draw" s_draw ["_law_pool_here", "_law_many"] := ⟨fdraw, _, Fdraw, PySem.W.mg_of X G adraw, Fdraw.binds (ps := ["_law_pool_here", "_law_many"]) fun _ _ _ _ _ _ us hl => match us, hl with | [_, _], _ => rfl⟩
  have Fwide := fun_mk (st := s_wide) lwide cwide kwide
  have Dwide : Dfn K mg "_law_wide" "_law_wide" s_wide ["_law_pool_here"] := ⟨fwide, _, Fwide, PySem.W.mg_of X G awide, Fwide.binds (ps := ["_law_pool_here"]) fun _ _ _ _ _ _ us hl => match us, hl with | [_], _ => rfl⟩
  have Fgcd := fun_mk (st := s_gcd) lgcd cgcd kgcd
  have Dgcd : Dfn K mg "_law_gcd" "_law_gcd" s_gcd ["_law_one", "_law_other"] := ⟨fgcd, _, Fgcd, PySem.W.mg_of X G agcd, Fgcd.binds (ps := ["_law_one", "_law_other"]) fun _ _ _ _ _ _ us hl => match us, hl with | [_, _], _ => rfl⟩
  have Flow := fun_mk (st := s_low) llow clow klow
  have Dlow : Dfn K mg "_law_low" "_law_low" s_low ["_law_top", "_law_under"] := ⟨flow, _, Flow, PySem.W.mg_of X G alow, Flow.binds (ps := ["_law_top", "_law_under"]) fun _ _ _ _ _ _ us hl => match us, hl with | [_, _], _ => rfl⟩
  have Fplus := fun_mk (st := s_plus) lplus cplus kplus
  have Dplus : Dfn K mg "_law_plus" "_law_plus" s_plus ["_law_one", "_law_other"] := ⟨fplus, _, Fplus, PySem.W.mg_of X G aplus, Fplus.binds (ps := ["_law_one", "_law_other"]) fun _ _ _ _ _ _ us hl => match us, hl with | [_, _], _ => rfl⟩
  have Ftimes := fun_mk (st := s_times) ltimes ctimes ktimes
  have Dtimes : Dfn K mg "_law_times" "_law_times" s_times ["_law_one", "_law_other"] := ⟨ftimes, _, Ftimes, PySem.W.mg_of X G atimes, Ftimes.binds (ps := ["_law_one", "_law_other"]) fun _ _ _ _ _ _ us hl => match us, hl with | [_, _], _ => rfl⟩
  have Fwhole := fun_mk (st := s_whole) lwhole cwhole kwhole
  have Dwhole : Dfn K mg "_law_whole" "_law_whole" s_whole ["_law_actual"] := ⟨fwhole, _, Fwhole, PySem.W.mg_of X G awhole, Fwhole.binds (ps := ["_law_actual"]) fun _ _ _ _ _ _ us hl => match us, hl with | [_], _ => rfl⟩
  have Frun := fun_mk (st := s_run) lrun crun krun
  have Drun : Dfn K mg "_law_run" "_law_run" s_run ["_law_pool_here", "_law_wide_here"] := ⟨frun, _, Frun, PySem.W.mg_of X G arun, Frun.binds (ps := ["_law_pool_here", "_law_wide_here"]) fun _ _ _ _ _ _ us hl => match us, hl with | [_, _], _ => rfl⟩
  have Flast := fun_mk (st := s_last) llast clast klast
  have Dlast : Dfn K mg "_law_last" "_law_last" s_last ["_law_row"] := ⟨flast, _, Flast, PySem.W.mg_of X G alast, Flast.binds (ps := ["_law_row"]) fun _ _ _ _ _ _ us hl => match us, hl with | [_], _ => rfl⟩
  have Fin := fun_mk (st := s_in) lin cin kin
  have Din : Dfn K mg "_law_in" "_law_in" s_in ["_law_row", "_law_y"] := ⟨fin, _, Fin, PySem.W.mg_of X G ain, Fin.binds (ps := ["_law_row", "_law_y"]) fun _ _ _ _ _ _ us hl => match us, hl with | [_, _], _ => rfl⟩
  have Fparts := fun_mk (st := s_parts) lparts cparts kparts
  have Dparts : Dfn K mg "_law_parts" "_law_parts" s_parts ["_law_pool_here", "_law_most", "_law_wide_here"] := ⟨fparts, _, Fparts, PySem.W.mg_of X G aparts, Fparts.binds (ps := ["_law_pool_here", "_law_most", "_law_wide_here"]) fun _ _ _ _ _ _ us hl => match us, hl with | [_, _, _], _ => rfl⟩
  have Fweights := fun_mk (st := s_weights) lweights cweights kweights
  have Dweights : Dfn K mg "_law_weights" "_law_weights" s_weights ["_law_parts_here"] := ⟨fweights, _, Fweights, PySem.W.mg_of X G aweights, Fweights.binds (ps := ["_law_parts_here"]) fun _ _ _ _ _ _ us hl => match us, hl with | [_], _ => rfl⟩
  have Fnear := fun_mk (st := s_near) lnear cnear knear
  have Dnear : Dfn K mg "_law_near" "_law_near" s_near ["_law_pool_here", "_law_parts_here"] := ⟨fnear, _, Fnear, PySem.W.mg_of X G anear, Fnear.binds (ps := ["_law_pool_here", "_law_parts_here"]) fun _ _ _ _ _ _ us hl => match us, hl with | [_, _], _ => rfl⟩
  have Fgreatest := fun_mk (st := s_greatest) lgreatest cgreatest kgreatest
  have Dgreatest : Dfn K mg "_law_greatest" "_law_greatest" s_greatest ["_law_parts_here"] := ⟨fgreatest, _, Fgreatest, PySem.W.mg_of X G agreatest, Fgreatest.binds (ps := ["_law_parts_here"]) fun _ _ _ _ _ _ us hl => match us, hl with | [_], _ => rfl⟩
  have Fheavy := fun_mk (st := s_heavy) lheavy cheavy kheavy
  have Dheavy : Dfn K mg "_law_heavy" "_law_heavy" s_heavy ["_law_pool_here", "_law_parts_here"] := ⟨fheavy, _, Fheavy, PySem.W.mg_of X G aheavy, Fheavy.binds (ps := ["_law_pool_here", "_law_parts_here"]) fun _ _ _ _ _ _ us hl => match us, hl with | [_, _], _ => rfl⟩
  have Fspot := fun_mk (st := s_spot) lspot cspot kspot
  have Dspot : Dfn K mg "_law_spot" "_law_spot" s_spot ["_law_pool_here", "_law_parts_here"] := ⟨fspot, _, Fspot, PySem.W.mg_of X G aspot, Fspot.binds (ps := ["_law_pool_here", "_law_parts_here"]) fun _ _ _ _ _ _ us hl => match us, hl with | [_, _], _ => rfl⟩
  have Falike := fun_mk (st := s_alike) lalike calike kalike
  have Dalike : Dfn K mg "_law_alike" "_law_alike" s_alike ["_law_one", "_law_other"] := ⟨falike, _, Falike, PySem.W.mg_of X G aalike, Falike.binds (ps := ["_law_one", "_law_other"]) fun _ _ _ _ _ _ us hl => match us, hl with | [_, _], _ => rfl⟩
  have Fsingle := fun_mk (st := s_single) lsingle csingle ksingle
  have Dsingle : Dfn K mg "_law_single" "_law_single" s_single ["_law_row"] := ⟨fsingle, _, Fsingle, PySem.W.mg_of X G asingle, Fsingle.binds (ps := ["_law_row"]) fun _ _ _ _ _ _ us hl => match us, hl with | [_], _ => rfl⟩
  have Frows := fun_mk (st := s_rows) lrows crows krows
  have Drows : Dfn K mg "_law_rows" "_law_rows" s_rows ["_law_parts_here"] := ⟨frows, _, Frows, PySem.W.mg_of X G arows, Frows.binds (ps := ["_law_parts_here"]) fun _ _ _ _ _ _ us hl => match us, hl with | [_], _ => rfl⟩
  have Fpieces := fun_mk (st := s_pieces) lpieces cpieces kpieces
  have Dpieces : Dfn K mg "_law_pieces" "_law_pieces" s_pieces ["_law_pool_here", "_law_row"] := ⟨fpieces, _, Fpieces, PySem.W.mg_of X G apieces, Fpieces.binds (ps := ["_law_pool_here", "_law_row"]) fun _ _ _ _ _ _ us hl => match us, hl with | [_, _], _ => rfl⟩
  have Fotherwise := fun_mk (st := s_otherwise) lotherwise cotherwise kotherwise
  have Dotherwise : Dfn K mg "_law_otherwise" "_law_otherwise" s_otherwise ["_law_pool_here", "_law_rows_here"] := ⟨fotherwise, _, Fotherwise, PySem.W.mg_of X G aotherwise, Fotherwise.binds (ps := ["_law_pool_here", "_law_rows_here"]) fun _ _ _ _ _ _ us hl => match us, hl with | [_, _], _ => rfl⟩
  have Fchanged := fun_mk (st := s_changed) lchanged cchanged kchanged
  have Dchanged : Dfn K mg "_law_changed" "_law_changed" s_changed ["_law_pool_here", "_law_parts_here"] := ⟨fchanged, _, Fchanged, PySem.W.mg_of X G achanged, Fchanged.binds (ps := ["_law_pool_here", "_law_parts_here"]) fun _ _ _ _ _ _ us hl => match us, hl with | [_, _], _ => rfl⟩
  have Frow_blend := fun_mk (st := s_row_blend) lrow_blend crow_blend krow_blend
  have Drow_blend : Dfn K mg "_law_row_blend" "_law_row_blend" s_row_blend ["_law_rows_here"] := ⟨frow_blend, _, Frow_blend, PySem.W.mg_of X G arow_blend, Frow_blend.binds (ps := ["_law_rows_here"]) fun _ _ _ _ _ _ us hl => match us, hl with | [_], _ => rfl⟩
  have Fchance := fun_mk (st := s_chance) lchance cchance kchance
  have Dchance : Dfn K mg "_law_chance" "_law_chance" s_chance ["_law_rows_here", "_law_y"] := ⟨fchance, _, Fchance, PySem.W.mg_of X G achance, Fchance.binds (ps := ["_law_rows_here", "_law_y"]) fun _ _ _ _ _ _ us hl => match us, hl with | [_, _], _ => rfl⟩
  have Fapart := fun_mk (st := s_apart) lapart capart kapart
  have Dapart : Dfn K mg "_law_apart" "_law_apart" s_apart ["_law_one", "_law_other", "_law_y"] := ⟨fapart, _, Fapart, PySem.W.mg_of X G aapart, Fapart.binds (ps := ["_law_one", "_law_other", "_law_y"]) fun _ _ _ _ _ _ us hl => match us, hl with | [_, _, _], _ => rfl⟩
  have Fwalked := fun_mk (st := s_walked) lwalked cwalked kwalked
  have Dwalked : Dfn K mg "_law_walked" "_law_walked" s_walked ["_law_one", "_law_other", "_law_end"] := ⟨fwalked, _, Fwalked, PySem.W.mg_of X G awalked, Fwalked.binds (ps := ["_law_one", "_law_other", "_law_end"]) fun _ _ _ _ _ _ us hl => match us, hl with | [_, _, _], _ => rfl⟩
  have Fdiffers := fun_mk (st := s_differs) ldiffers cdiffers kdiffers
  have Ddiffers : Dfn K mg "_law_differs" "_law_differs" s_differs ["_law_told", "_law_one", "_law_other", "_law_places"] := ⟨fdiffers, _, Fdiffers, PySem.W.mg_of X G adiffers, Fdiffers.binds (ps := ["_law_told", "_law_one", "_law_other", "_law_places"]) fun _ _ _ _ _ _ us hl => match us, hl with | [_, _, _, _], _ => rfl⟩
  have Flaw := fun_mk (st := s_law) llaw claw klaw
  refine ⟨PySem.W.fnOf "law" "law" (defArgs s_law) (defBody s_law) (defScope s_law) .none kVlaw dclaw pmlaw anlaw cdlaw ctlaw, fun s v => .of_eq rfl, fun base _ _ => ?_⟩
  have CE : CalE l.prog w K mg base 1 BN := ⟨_, _, aBadNumber_init, tBadNumber_init, ok_bn TB FB, bB⟩
  have ⟨M2, M1⟩ := mk_ratio (P := l.prog) (w := w) (base := base) B hgcd T TZU ⟨mkC, aRatio_init, iRatio_init, kcC⟩ FI
  have MR : CalRun l.prog w K mg base D BN := ⟨_, _, [], ⟨mkD, aRun_init, iRun_init, kcD⟩, ok_run_init B TD TB CE gMS FRun_init, gRun, bRun_init, .nil⟩
  have CL : CalP l.prog w K mg base 1 D "last" (spLast D) := ⟨_, _, _, PRun_last, ok_last TD FRun_last, bRun_last⟩
  have cmix := ok_mix (P := l.prog) (w := w) (base := base) B Dmix
  have cdraw := ok_draw B Ddraw cmix
  have cdrawA := ok_drawA B Ddraw cmix
  have cwide := ok_wide B Dwide cdraw
  have cpool := ok_pool (P := l.prog) (w := w) (base := base) B Dpool
  have cwhole := ok_whole (P := l.prog) (w := w) (base := base) B Dwhole
  have cisn := ok_is_number (P := l.prog) (w := w) (base := base) B T (kit_type kmI scI) Dis_number
  have ctop := ok_top_of (P := l.prog) (w := w) (base := base) B T Dtop_of
  have cund := ok_under_of (P := l.prog) (w := w) (base := base) B T Dunder_of
  have casr := ok_as_ratio B T Das_ratio M1
  have OAdd : Bx.OpOwn l.prog w K mg base 3 C (PySem.dunder (Operator.info .Add).2) ["self", "other"] _ := ⟨_, _, (by rw [show PySem.dunder (Operator.info .Add).2 = ("__add__" : Str) from by decide +kernel]; exact aRatio_add), iRatio_add, ok_add T cisn ctop cund M2 FRatio_add, bRatio_add⟩
  have RAdd : Bx.OpOwn l.prog w K mg base 4 C (dunderR (Operator.info .Add).2) ["self", "other"] _ := ⟨_, _, (by rw [show dunderR (Operator.info .Add).2 = ("__radd__" : Str) from by decide +kernel]; exact aRatio_radd), iRatio_radd, ok_radd T hSF cisn casr OAdd FRatio_radd, bRatio_radd⟩
  have iAdd : PySem.W.findIn K (.type "int") (PySem.dunder (Operator.info .Add).2) = some (some (.builtin "int.__add__")) := (by rw [show PySem.dunder (Operator.info .Add).2 = ("__add__" : Str) from by decide +kernel]; exact ziAdd)
  have jAdd : PySem.W.findIn K (.type "int") (dunderR (Operator.info .Add).2) = some (some (.builtin "int.__radd__")) := (by rw [show dunderR (Operator.info .Add).2 = ("__radd__" : Str) from by decide +kernel]; exact zjAdd)
  have hRAdd : PySem.W.findIn K (.ref C) (dunderR (Operator.info .Add).2) = some (some (.ref fRatio_radd)) := (by rw [show dunderR (Operator.info .Add).2 = ("__radd__" : Str) from by decide +kernel]; exact aRatio_radd)
  have Mlt : Bx.OpOwn l.prog w K mg base 2 C "__lt__" ["self", "other"] (spCmp C fun i j => decide (i < j)) := ⟨_, _, aRatio_lt, iRatio_lt, ok_lt T cisn ctop cund FRatio_lt, bRatio_lt⟩
  have Meq : Bx.OpOwn l.prog w K mg base 1 C "__eq__" ["self", "other"] (spEqR K C) := ⟨_, _, aRatio_eq, iRatio_eq, ok_eq B T FRatio_eq, bRatio_eq⟩
  have NE : Bx.NeC K C := ⟨hmC, neC, siC, scI⟩
  have cadded := ok_added B M1 hSF OAdd hRAdd iAdd jAdd siC Dadded
  have ccheck := ok_check_parts B hAny gMP TBS cadded Mlt Meq NE Dcheck_parts
  have cput : CalPutT l.prog w K mg base C D := ok_put_together B hZip hSF OAdd hRAdd iAdd jAdd Meq NE casr Dput_together
  have MB : CalBlend l.prog w K mg base C D BL BS := ⟨_, _, [], ⟨mkBL, aBlend_init, iBlend_init, kcBL⟩, ok_bl_init TF TD ccheck cput FBlend_init, gBlend, bBlend_init, .nil⟩
  have BIT : OwnIt l.prog w K mg base 1 BL "parts" := ⟨_, _, aBlend_iter, iBlend_iter, ok_bl_iter B hIter TF FBlend_iter, bBlend_iter⟩
  have cunder := ok_under T TF TD hLcm BIT Dcommon_under
  have cweighted := ok_weighted T TF TD BIT Dweighted
  have cper := ok_period TD CL hLcm Dperiod
  have cstr := ok_stretches B hZip hSrt TD CL cper Dstretches
  have ccont : CalM l.prog w K mg base 3 D "__contains__" ["self", "x"] (spCont D) := ⟨_, _, mRun_contains, ok_cont TD CL FRun_contains, bRun_contains⟩
  have cwch := ok_whole_chance B TD ccont Dwhole_chance
  have cdiff := ok_diff B TF cunder cweighted cstr cwch Dfirst_difference
  have cgcd2 := ok_gcd2 (P := l.prog) (w := w) (base := base) B Dgcd
  have clow2 := ok_low2 SK cgcd2 Dlow
  have cplus := ok_PlusQ (ok_plus2 (ok_plusR clow2 Dplus))
  have ctimes := ok_TimesQ (ok_times2 (ok_timesR clow2 Dtimes))
  have clast := ok_last3 (P := l.prog) (w := w) (base := base) Dlast
  have cin := ok_in3 B clast Din
  have cweights := ok_weights (P := l.prog) (w := w) (base := base) B Dweights
  have crun := ok_runB B cdrawA cwide Drun
  have cparts := ok_partsB B cdrawA crun Dparts
  have cheavy := ok_heavy B cdrawA cwide Dheavy
  have cnear := ok_near B cdrawA cwide clast Dnear
  have cspot := ok_spot cdrawA cnear Dspot
  have crows := ok_rowsL B clow2 cweights Drows
  have cchance := ok_chance cplus ctimes cin Dchance
  have capart := ok_apart cchance Dapart
  have csingle := ok_single (P := l.prog) (w := w) (base := base) Dsingle
  have cpieces := ok_pieces B cdrawA cwide csingle Dpieces
  have cother := ok_other ctimes cpieces Dotherwise
  have cchanged := ok_changed B cdrawA Dchanged
  have crblend := ok_rowBlend B M2 MR MB Drow_blend
  have cgreatest := ok_greatest B clast Dgreatest
  have cwalked := ok_walked B capart Dwalked
  have calike := ok_alike cwhole Dalike
  have cdiffers := ok_differs B cwhole clast cgreatest capart cwalked calike Ddiffers
  exact ok_law B Flaw cpool cdrawA cparts cheavy crows cchanged cother cspot crblend cdiffers calike cdiff
end L

set_option Elab.async false
set_option linter.all false
set_option maxRecDepth 100000
set_option maxHeartbeats 0
set_option pp.maxSteps 200
set_option pp.deepTerms false
namespace Kh
open PySem PySem.Spec PyProof.Rows L2 L
theorem facts {w : World} {K : PySem.W.Frag} {h : Heap} {mg : Str → Option Value} {fa : Addr} (X : K.In h) (G : h.Ns mainGlobals mg) (hfa : mg ("law" : Str) = some (.ref fa)) (c : SaysK tests fns K) :
    ∃ fd : FuncData, (∀ (s : Shared) (v : Value), BindsTo s fd ⟨[v], []⟩ [("_law_script", v)]) ∧ ∀ base : Heap, K.In base → base.Ns mainGlobals mg → FnOk (PySem.Challenge.rw_fieldlots_k22_first_difference).prog w K mg base CX0 40 fa fd ["_law_script"] (L.spLaw K) := by
  obtain ⟨h0, e0⟩ := c.def_ (d := fd0) 0 rfl
  obtain ⟨_, _, dV0, kV0, _, _, _, _, _, _, l0, c0, k0, v0, w0⟩ := Fd.get h0 e0
  obtain ⟨_, _, _, _, _, _, rfl, lD0⟩ := dfl_one v0
  obtain ⟨_, _, _, _, _, _, _, _, _, _, _, _, _, _, x39⟩ := Kh.pxB_ok (t39 c)
  obtain ⟨h1, e1⟩ := c.def_ (d := fd1) 1 rfl
  obtain ⟨_, _, dV1, kV1, _, _, _, _, _, _, l1, c1, k1, v1, w1⟩ := Fd.get h1 e1
  cases dfl_nil v1
  obtain ⟨h2, e2⟩ := c.def_ (d := fd2) 2 rfl
  obtain ⟨_, _, dV2, kV2, _, _, _, _, _, _, l2, c2, k2, v2, w2⟩ := Fd.get h2 e2
  cases dfl_nil v2
  obtain ⟨h3, e3⟩ := c.def_ (d := fd3) 3 rfl
  obtain ⟨_, _, dV3, kV3, _, _, _, _, _, _, l3, c3, k3, v3, w3⟩ := Fd.get h3 e3
  cases dfl_nil v3
  obtain ⟨h4, e4⟩ := c.def_ (d := fd4) 4 rfl
  obtain ⟨_, _, dV4, kV4, _, _, _, _, _, _, l4, c4, k4, v4, w4⟩ := Fd.get h4 e4
  cases dfl_nil v4
  obtain ⟨h5, e5⟩ := c.def_ (d := fd5) 5 rfl
  obtain ⟨_, _, dV5, kV5, _, _, _, _, _, _, l5, c5, k5, v5, w5⟩ := Fd.get h5 e5
  cases dfl_nil v5
  obtain ⟨_, x113⟩ := Kh.intB_ok (t113 c)
  obtain ⟨h6, e6⟩ := c.def_ (d := fd6) 6 rfl
  obtain ⟨_, _, dV6, kV6, _, _, _, _, _, _, l6, c6, k6, v6, w6⟩ := Fd.get h6 e6
  cases dfl_nil v6
  obtain ⟨h7, e7⟩ := c.def_ (d := fd7) 7 rfl
  obtain ⟨_, _, dV7, kV7, _, _, _, _, _, _, l7, c7, k7, v7, w7⟩ := Fd.get h7 e7
  cases dfl_nil v7
  obtain ⟨h8, e8⟩ := c.def_ (d := fd8) 8 rfl
  obtain ⟨_, _, dV8, kV8, _, _, _, _, _, _, l8, c8, k8, v8, w8⟩ := Fd.get h8 e8
  cases dfl_nil v8
  obtain ⟨_, x122⟩ := Kh.intB_ok (t122 c)
  obtain ⟨h9, e9⟩ := c.def_ (d := fd9) 9 rfl
  obtain ⟨_, _, dV9, kV9, _, _, _, _, _, _, l9, c9, k9, v9, w9⟩ := Fd.get h9 e9
  cases dfl_nil v9
  obtain ⟨h10, e10⟩ := c.def_ (d := fd10) 10 rfl
  obtain ⟨_, _, dV10, kV10, _, _, _, _, _, _, l10, c10, k10, v10, w10⟩ := Fd.get h10 e10
  cases dfl_nil v10
  obtain ⟨h11, e11⟩ := c.def_ (d := fd11) 11 rfl
  obtain ⟨_, _, dV11, kV11, _, _, _, _, _, _, l11, c11, k11, v11, w11⟩ := Fd.get h11 e11
  cases dfl_nil v11
  obtain ⟨h12, e12⟩ := c.def_ (d := fd12) 12 rfl
  obtain ⟨_, _, dV12, kV12, _, _, _, _, _, _, l12, c12, k12, v12, w12⟩ := Fd.get h12 e12
  cases dfl_nil v12
  obtain ⟨h13, e13⟩ := c.def_ (d := fd13) 13 rfl
  obtain ⟨_, _, dV13, kV13, _, _, _, _, _, _, l13, c13, k13, v13, w13⟩ := Fd.get h13 e13
  cases dfl_nil v13
  obtain ⟨h14, e14⟩ := c.def_ (d := fd14) 14 rfl
  obtain ⟨_, _, dV14, kV14, _, _, _, _, _, _, l14, c14, k14, v14, w14⟩ := Fd.get h14 e14
  cases dfl_nil v14
  obtain ⟨h15, e15⟩ := c.def_ (d := fd15) 15 rfl
  obtain ⟨_, _, dV15, kV15, _, _, _, _, _, _, l15, c15, k15, v15, w15⟩ := Fd.get h15 e15
  cases dfl_nil v15
  obtain ⟨h16, e16⟩ := c.def_ (d := fd16) 16 rfl
  obtain ⟨_, _, dV16, kV16, _, _, _, _, _, _, l16, c16, k16, v16, w16⟩ := Fd.get h16 e16
  cases dfl_nil v16
  obtain ⟨h17, e17⟩ := c.def_ (d := fd17) 17 rfl
  obtain ⟨_, _, dV17, kV17, _, _, _, _, _, _, l17, c17, k17, v17, w17⟩ := Fd.get h17 e17
  cases dfl_nil v17
  obtain ⟨h18, e18⟩ := c.def_ (d := fd18) 18 rfl
  obtain ⟨_, _, dV18, kV18, _, _, _, _, _, _, l18, c18, k18, v18, w18⟩ := Fd.get h18 e18
  cases dfl_nil v18
  obtain ⟨h19, e19⟩ := c.def_ (d := fd19) 19 rfl
  obtain ⟨_, _, dV19, kV19, _, _, _, _, _, _, l19, c19, k19, v19, w19⟩ := Fd.get h19 e19
  cases dfl_nil v19
  obtain ⟨h20, e20⟩ := c.def_ (d := fd20) 20 rfl
  obtain ⟨_, _, dV20, kV20, _, _, _, _, _, _, l20, c20, k20, v20, w20⟩ := Fd.get h20 e20
  cases dfl_nil v20
  obtain ⟨h21, e21⟩ := c.def_ (d := fd21) 21 rfl
  obtain ⟨_, _, dV21, kV21, _, _, _, _, _, _, l21, c21, k21, v21, w21⟩ := Fd.get h21 e21
  cases dfl_nil v21
  obtain ⟨h22, e22⟩ := c.def_ (d := fd22) 22 rfl
  obtain ⟨_, _, dV22, kV22, _, _, _, _, _, _, l22, c22, k22, v22, w22⟩ := Fd.get h22 e22
  cases dfl_nil v22
  obtain ⟨h23, e23⟩ := c.def_ (d := fd23) 23 rfl
  obtain ⟨_, _, dV23, kV23, _, _, _, _, _, _, l23, c23, k23, v23, w23⟩ := Fd.get h23 e23
  cases dfl_nil v23
  obtain ⟨h24, e24⟩ := c.def_ (d := fd24) 24 rfl
  obtain ⟨_, _, dV24, kV24, _, _, _, _, _, _, l24, c24, k24, v24, w24⟩ := Fd.get h24 e24
  cases dfl_nil v24
  obtain ⟨h25, e25⟩ := c.def_ (d := fd25) 25 rfl
  obtain ⟨_, _, dV25, kV25, _, _, _, _, _, _, l25, c25, k25, v25, w25⟩ := Fd.get h25 e25
  cases dfl_nil v25
  obtain ⟨h26, e26⟩ := c.def_ (d := fd26) 26 rfl
  obtain ⟨_, _, dV26, kV26, _, _, _, _, _, _, l26, c26, k26, v26, w26⟩ := Fd.get h26 e26
  cases dfl_nil v26
  obtain ⟨h27, e27⟩ := c.def_ (d := fd27) 27 rfl
  obtain ⟨_, _, dV27, kV27, _, _, _, _, _, _, l27, c27, k27, v27, w27⟩ := Fd.get h27 e27
  cases dfl_nil v27
  obtain ⟨h28, e28⟩ := c.def_ (d := fd28) 28 rfl
  obtain ⟨_, _, dV28, kV28, _, _, _, _, _, _, l28, c28, k28, v28, w28⟩ := Fd.get h28 e28
  cases dfl_nil v28
  obtain ⟨h29, e29⟩ := c.def_ (d := fd29) 29 rfl
  obtain ⟨_, _, dV29, kV29, _, _, _, _, _, _, l29, c29, k29, v29, w29⟩ := Fd.get h29 e29
  cases dfl_nil v29
  obtain ⟨h30, e30⟩ := c.def_ (d := fd30) 30 rfl
  obtain ⟨_, _, dV30, kV30, _, _, _, _, _, _, l30, c30, k30, v30, w30⟩ := Fd.get h30 e30
  cases dfl_nil v30
  obtain ⟨h31, e31⟩ := c.def_ (d := fd31) 31 rfl
  obtain ⟨_, _, dV31, kV31, _, _, _, _, _, _, l31, c31, k31, v31, w31⟩ := Fd.get h31 e31
  cases dfl_nil v31
  obtain ⟨h32, e32⟩ := c.def_ (d := fd32) 32 rfl
  obtain ⟨_, _, dV32, kV32, _, _, _, _, _, _, l32, c32, k32, v32, w32⟩ := Fd.get h32 e32
  cases dfl_nil v32
  obtain ⟨h33, e33⟩ := c.def_ (d := fd33) 33 rfl
  obtain ⟨_, _, dV33, kV33, _, _, _, _, _, _, l33, c33, k33, v33, w33⟩ := Fd.get h33 e33
  cases dfl_nil v33
  obtain ⟨h34, e34⟩ := c.def_ (d := fd34) 34 rfl
  obtain ⟨_, _, dV34, kV34, _, _, _, _, _, _, l34, c34, k34, v34, w34⟩ := Fd.get h34 e34
  cases dfl_nil v34
  obtain ⟨h35, e35⟩ := c.def_ (d := fd35) 35 rfl
  obtain ⟨_, _, dV35, kV35, _, _, _, _, _, _, l35, c35, k35, v35, w35⟩ := Fd.get h35 e35
  cases dfl_nil v35
  obtain ⟨h36, e36⟩ := c.def_ (d := fd36) 36 rfl
  obtain ⟨_, _, dV36, kV36, _, _, _, _, _, _, l36, c36, k36, v36, w36⟩ := Fd.get h36 e36
  cases dfl_nil v36
  obtain ⟨h37, e37⟩ := c.def_ (d := fd37) 37 rfl
  obtain ⟨_, _, dV37, kV37, _, _, _, _, _, _, l37, c37, k37, v37, w37⟩ := Fd.get h37 e37
  cases dfl_nil v37
  obtain ⟨h38, e38⟩ := c.def_ (d := fd38) 38 rfl
  obtain ⟨_, _, dV38, kV38, _, _, _, _, _, _, l38, c38, k38, v38, w38⟩ := Fd.get h38 e38
  cases dfl_nil v38
  obtain ⟨h39, e39⟩ := c.def_ (d := fd39) 39 rfl
  obtain ⟨_, _, dV39, kV39, _, _, _, _, _, _, l39, c39, k39, v39, w39⟩ := Fd.get h39 e39
  cases dfl_nil v39
  obtain ⟨h40, e40⟩ := c.def_ (d := fd40) 40 rfl
  obtain ⟨_, _, dV40, kV40, _, _, _, _, _, _, l40, c40, k40, v40, w40⟩ := Fd.get h40 e40
  cases dfl_nil v40
  obtain ⟨h41, e41⟩ := c.def_ (d := fd41) 41 rfl
  obtain ⟨_, _, dV41, kV41, _, _, _, _, _, _, l41, c41, k41, v41, w41⟩ := Fd.get h41 e41
  cases dfl_nil v41
  obtain ⟨h42, e42⟩ := c.def_ (d := fd42) 42 rfl
  obtain ⟨_, _, dV42, kV42, _, _, _, _, _, _, l42, c42, k42, v42, w42⟩ := Fd.get h42 e42
  cases dfl_nil v42
  obtain ⟨h43, e43⟩ := c.def_ (d := fd43) 43 rfl
  obtain ⟨_, _, dV43, kV43, _, _, _, _, _, _, l43, c43, k43, v43, w43⟩ := Fd.get h43 e43
  cases dfl_nil v43
  obtain ⟨h44, e44⟩ := c.def_ (d := fd44) 44 rfl
  obtain ⟨_, _, dV44, kV44, _, _, _, _, _, _, l44, c44, k44, v44, w44⟩ := Fd.get h44 e44
  cases dfl_nil v44
  obtain ⟨h45, e45⟩ := c.def_ (d := fd45) 45 rfl
  obtain ⟨_, _, dV45, kV45, _, _, _, _, _, _, l45, c45, k45, v45, w45⟩ := Fd.get h45 e45
  cases dfl_nil v45
  obtain ⟨h46, e46⟩ := c.def_ (d := fd46) 46 rfl
  obtain ⟨_, _, dV46, kV46, _, _, _, _, _, _, l46, c46, k46, v46, w46⟩ := Fd.get h46 e46
  cases dfl_nil v46
  obtain ⟨h47, e47⟩ := c.def_ (d := fd47) 47 rfl
  obtain ⟨_, _, dV47, kV47, _, _, _, _, _, _, l47, c47, k47, v47, w47⟩ := Fd.get h47 e47
  cases dfl_nil v47
  obtain ⟨h48, e48⟩ := c.def_ (d := fd48) 48 rfl
  obtain ⟨_, _, dV48, kV48, _, _, _, _, _, _, l48, c48, k48, v48, w48⟩ := Fd.get h48 e48
  cases dfl_nil v48
  obtain ⟨h49, e49⟩ := c.def_ (d := fd49) 49 rfl
  obtain ⟨_, _, dV49, kV49, _, _, _, _, _, _, l49, c49, k49, v49, w49⟩ := Fd.get h49 e49
  cases dfl_nil v49
  obtain ⟨h50, e50⟩ := c.def_ (d := fd50) 50 rfl
  obtain ⟨_, _, dV50, kV50, _, _, _, _, _, _, l50, c50, k50, v50, w50⟩ := Fd.get h50 e50
  cases dfl_nil v50
  obtain ⟨h51, e51⟩ := c.def_ (d := fd51) 51 rfl
  obtain ⟨_, _, dV51, kV51, _, _, _, _, _, _, l51, c51, k51, v51, w51⟩ := Fd.get h51 e51
  cases dfl_nil v51
  obtain ⟨h52, e52⟩ := c.def_ (d := fd52) 52 rfl
  obtain ⟨_, _, dV52, kV52, _, _, _, _, _, _, l52, c52, k52, v52, w52⟩ := Fd.get h52 e52
  cases dfl_nil v52
  obtain ⟨h53, e53⟩ := c.def_ (d := fd53) 53 rfl
  obtain ⟨_, _, dV53, kV53, _, _, _, _, _, _, l53, c53, k53, v53, w53⟩ := Fd.get h53 e53
  cases dfl_nil v53
  exact L.all_mk (l := PySem.Challenge.rw_fieldlots_k22_first_difference) X G hfa (of_decide_eq_true (t0 c)) (of_decide_eq_true (t1 c)) (of_decide_eq_true (t2 c)) (of_decide_eq_true (t3 c)) (of_decide_eq_true (t4 c)) (of_decide_eq_true (t5 c)) (of_decide_eq_true (t6 c)) (of_decide_eq_true (t7 c)) (of_decide_eq_true (t8 c)) (of_decide_eq_true (t9 c)) (of_decide_eq_true (t10 c)) (of_decide_eq_true (t11 c)) (of_decide_eq_true (t12 c)) (of_decide_eq_true (t13 c)) (of_decide_eq_true (t14 c)) (of_decide_eq_true (t15 c)) (of_decide_eq_true (t16 c)) (t17 c) (t18 c) (t19 c) (of_decide_eq_true (t20 c)) (t21 c) (t22 c) (of_decide_eq_true (t23 c)) (of_decide_eq_true (t24 c)) (of_decide_eq_true (t25 c)) (of_decide_eq_true (t26 c)) (of_decide_eq_true (t27 c)) (of_decide_eq_true (t28 c)) (of_decide_eq_true (t29 c)) (of_decide_eq_true (t30 c)) (of_decide_eq_true (t31 c)) (t32 c) l0 c0 k0 lD0 (of_decide_eq_true (t33 c)) (of_decide_eq_true (t34 c)) (of_decide_eq_true (t35 c)) (t36 c) (of_decide_eq_true (t37 c)) (of_decide_eq_true (t38 c)) x39 (of_decide_eq_true (t40 c)) (t41 c) (of_decide_eq_true (t42 c)) (of_decide_eq_true (t43 c)) (of_decide_eq_true (t44 c)) (of_decide_eq_true (t45 c)) (of_decide_eq_true (t46 c)) (t47 c) (of_decide_eq_true (t48 c)) (of_decide_eq_true (t49 c)) (of_decide_eq_true (t50 c)) (of_decide_eq_true (t51 c)) (of_decide_eq_true (t52 c)) (of_decide_eq_true (t53 c)) (of_decide_eq_true (t54 c)) l1 c1 k1 (of_decide_eq_true (t55 c)) (by decide +kernel) (of_decide_eq_true (t56 c)) (t57 c) (of_decide_eq_true (t58 c)) (of_decide_eq_true (t59 c)) (of_decide_eq_true (t60 c)) (t61 c) (t62 c) (of_decide_eq_true (t63 c)) (of_decide_eq_true (t64 c)) (of_decide_eq_true (t65 c)) (of_decide_eq_true (t66 c)) (of_decide_eq_true (t67 c)) (t68 c) (of_decide_eq_true (t69 c)) (of_decide_eq_true (t70 c)) (of_decide_eq_true (t71 c)) (of_decide_eq_true (t72 c)) (t73 c) (t74 c) (of_decide_eq_true (t75 c)) (of_decide_eq_true (t76 c)) (of_decide_eq_true (t77 c)) (of_decide_eq_true (t78 c)) (of_decide_eq_true (t79 c)) (t80 c) (of_decide_eq_true (t81 c)) (of_decide_eq_true (t82 c)) (of_decide_eq_true (t83 c)) (of_decide_eq_true (t84 c)) (of_decide_eq_true (t85 c)) (of_decide_eq_true (t86 c)) (of_decide_eq_true (t87 c)) (of_decide_eq_true (t88 c)) (of_decide_eq_true (t89 c)) (t90 c) (of_decide_eq_true (t91 c)) (by decide +kernel) (of_decide_eq_true (t92 c)) (t93 c) l2 c2 k2 (of_decide_eq_true (t94 c)) (t95 c) l3 c3 k3 (of_decide_eq_true (t96 c)) (t97 c) l4 c4 k4 (of_decide_eq_true (t98 c)) (t99 c) l5 c5 k5 (of_decide_eq_true (t100 c)) (of_decide_eq_true (t101 c)) (t102 c) (t103 c) (t104 c) (of_decide_eq_true (t105 c)) (t106 c) (t107 c) (of_decide_eq_true (t108 c)) (of_decide_eq_true (t109 c)) (of_decide_eq_true (t110 c)) (of_decide_eq_true (t111 c)) (of_decide_eq_true (t112 c)) x113 (of_decide_eq_true (t114 c)) (t115 c) l6 c6 k6 (of_decide_eq_true (t116 c)) (t117 c) l7 c7 k7 (of_decide_eq_true (t118 c)) (of_decide_eq_true (t119 c)) (of_decide_eq_true (t120 c)) (of_decide_eq_true (t121 c)) l8 c8 k8 x122 (of_decide_eq_true (t123 c)) (t124 c) (t125 c) (t126 c) (of_decide_eq_true (t127 c)) (t128 c) (t129 c) (of_decide_eq_true (t130 c)) (of_decide_eq_true (t131 c)) (of_decide_eq_true (t132 c)) (of_decide_eq_true (t133 c)) (t134 c) l9 c9 k9 (of_decide_eq_true (t135 c)) (t136 c) l10 c10 k10 (of_decide_eq_true (t137 c)) l11 c11 k11 (of_decide_eq_true (t138 c)) l12 c12 k12 (of_decide_eq_true (t139 c)) l13 c13 k13 (of_decide_eq_true (t140 c)) l14 c14 k14 (of_decide_eq_true (t141 c)) l15 c15 k15 (of_decide_eq_true (t142 c)) l16 c16 k16 (of_decide_eq_true (t143 c)) l17 c17 k17 (of_decide_eq_true (t144 c)) l18 c18 k18 (of_decide_eq_true (t145 c)) l19 c19 k19 (of_decide_eq_true (t146 c)) l20 c20 k20 (of_decide_eq_true (t147 c)) l21 c21 k21 (of_decide_eq_true (t148 c)) l22 c22 k22 (of_decide_eq_true (t149 c)) l23 c23 k23 (of_decide_eq_true (t150 c)) (of_decide_eq_true (t151 c)) (t152 c) (t153 c) rfl (of_decide_eq_true (t154 c)) l24 c24 k24 (of_decide_eq_true (t155 c)) l25 c25 k25 (of_decide_eq_true (t156 c)) l26 c26 k26 (of_decide_eq_true (t157 c)) l27 c27 k27 (of_decide_eq_true (t158 c)) l28 c28 k28 (of_decide_eq_true (t159 c)) l29 c29 k29 (of_decide_eq_true (t160 c)) l30 c30 k30 (of_decide_eq_true (t161 c)) l31 c31 k31 (of_decide_eq_true (t162 c)) l32 c32 k32 (of_decide_eq_true (t163 c)) l33 c33 k33 (of_decide_eq_true (t164 c)) l34 c34 k34 (of_decide_eq_true (t165 c)) l35 c35 k35 (of_decide_eq_true (t166 c)) l36 c36 k36 (of_decide_eq_true (t167 c)) l37 c37 k37 (of_decide_eq_true (t168 c)) l38 c38 k38 (of_decide_eq_true (t169 c)) l39 c39 k39 (of_decide_eq_true (t170 c)) l40 c40 k40 (of_decide_eq_true (t171 c)) l41 c41 k41 (of_decide_eq_true (t172 c)) l42 c42 k42 (of_decide_eq_true (t173 c)) l43 c43 k43 (of_decide_eq_true (t174 c)) l44 c44 k44 (of_decide_eq_true (t175 c)) l45 c45 k45 (of_decide_eq_true (t176 c)) l46 c46 k46 (of_decide_eq_true (t177 c)) l47 c47 k47 (of_decide_eq_true (t178 c)) l48 c48 k48 (of_decide_eq_true (t179 c)) l49 c49 k49 (of_decide_eq_true (t180 c)) l50 c50 k50 (of_decide_eq_true (t181 c)) l51 c51 k51 (of_decide_eq_true (t182 c)) l52 c52 k52 (of_decide_eq_true (t183 c)) l53 c53 k53
end Kh
open PySem PySem.W PyProof.Rows
theorem PySem.Challenge.cw_fieldlots_k22_first_difference_holds : PySem.Challenge.rw_fieldlots_k22_first_difference.Holds := by
  w_on; o_law
  refine HandSHeadRun.head_imp (r := OpenLaw.row PySem.Challenge.rw_fieldlots_k22_first_difference) (q := view (OpenLaw.row PySem.Challenge.rw_fieldlots_k22_first_difference).prog [0, 69]) (H := Kh.hk) (ob := Kh.ob) (M := 20000) (loose := Kh.names) (d := HandSHeadRun.topDef (OpenLaw.row PySem.Challenge.rw_fieldlots_k22_first_difference).prog 69) (kwd := []) Kh.ob_eq
    Kh.run (by kernel_rfl) (by kernel_rfl) (by kernel_rfl) (by rfl) (by first | assumption | decide +kernel) (by decide +kernel) ⟨rfl, rfl, rfl, rfl, rfl, by decide +kernel⟩ ?hw ?hc
  case hw => w_witness2
  case hc =>
    refine L2.walk_ofE (l := PySem.Challenge.rw_fieldlots_k22_first_difference) (n := 63) (k := 40) (x := "_law_script") (CX := L2.CX0) rfl (by decide) (by kernel_rfl) ⟨rfl, by decide, by decide⟩ ?F (fun _ _ _ _ z => z)
    intro w mg fa h Y G hmg0
    obtain ⟨K, KX, c⟩ := Y
    have hmg : mg ("law" : PySem.Str) = some (.ref fa) := by
      have e : (HandSHeadRun.topDef (OpenLaw.row PySem.Challenge.rw_fieldlots_k22_first_difference).prog 69).name = ("law" : PySem.Str) := by kernel_rfl
      rw [← e]
      exact hmg0
    obtain ⟨fd, hb, hF⟩ := Kh.facts (w := w) KX G hmg c
    exact ⟨K, fd, L.spLaw K, KX, hb, fun H a ns hl _ hS => ⟨a, ns, rfl, hS, hl, fun _ => rfl⟩, hF⟩
