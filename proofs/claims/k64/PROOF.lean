import PyProof.Rows.All
import Wide.All
import OpenK.AllK
import Wide.FinOn
import PyProof.NoPylong
import HandS.ForMost
import HandS.ForExc
import HandS.Wide
import HandS.Gcd
import HandS.IsInst
import HandS.ExcIs
import HandS.Property
import HandS.Defaults
import HandS.CallSlots
import HandS.ExcInit
import HandS.ExcField
import HandS.TryMany
import KE.KOpsOwn
import HandS.ClsMeth
import HandS.Evl
import KE.KCallOwn
import KE.KFmtOwn
import HandS.FStr
import PyProof.Rows.Range3
import HandS.Zip
import HandS.TupAny
import HandS.Walk
import HandS.More
import PySem.Challenge.RW_fieldlots_k64_row_pay
set_option Elab.async false
set_option linter.all false
set_option maxRecDepth 100000
namespace Fl
open PySem PySem.Spec PyProof.Rows L2
/-! ### calls by a promise that names no address -/
structure Cal (P : Program) (w : World) (K : PySem.W.Frag) (mg : Str → Option Value) (base : Heap) (k : Nat) (x : Str) (ps : List Str) (sp : Sp) : Prop where
  ex : ∃ (f : Addr) (fd : FuncData), FnOk P w K mg base CX0 k f fd ps sp ∧ mg x = some (.ref f) ∧ PySem.W.keepIn K (.ref f) = true ∧ Binds K fd ps []
structure Dfn (K : PySem.W.Frag) (mg : Str → Option Value) (x qual : Str) (st : Stmt) (ps : List Str) : Prop where
  ex : ∃ (f : Addr) (fd : FuncData), Fun K x qual st f fd ∧ mg x = some (.ref f) ∧ Binds K fd ps []
section
variable {P : Program} {w : World} {K : PySem.W.Frag} {mg : Str → Option Value} {base : Heap}
theorem Dfn.cal {x qual : Str} {st : Stmt} {N ps : List Str} {k : Nat} {sp : Sp} (D : Dfn K mg x qual st ps) (S : FnScope N ps (defScope st)) (len : ∀ vs H Q E, sp vs H Q E → vs.length = ps.length)
    (hbody : ∀ (f : Addr) (cdv : Value) (A : Around) (outer : List Env) (s : Shared) (H : Hp) (vs : List V) (Q : VK) (E : XK), Room k (A.deeper (envOfC qual (defScope st) s.heap.objs.size f cdv)) → sp vs H Q E →
      ∃ t, PSs (cxOf CX0 P w K mg base N qual (defScope st) f cdv A outer s H E).nox (defBody st) t ∧ t { nx := fun _ H' => Q .non H', rt := Q } (start N vs) H) : Cal P w K mg base (k + 1) x ps sp := by
  obtain ⟨f, fd, F, m, b⟩ := D.ex
  exact ⟨f, fd, F.ok S len (hbody f), m, F.kp, b⟩
theorem Cal.mono {j k : Nat} {x : Str} {ps : List Str} {sp : Sp} (C : Cal P w K mg base j x ps sp) (h : j ≤ k) : Cal P w K mg base k x ps sp := by
  obtain ⟨f, fd, F, m, kp, b⟩ := C.ex
  exact ⟨f, fd, F.mono h, m, kp, b⟩
end
theorem pe_cal {X : Cx} {k : Nat} {x : Str} {ps : List Str} {sp : Sp} {p pos : Pos} {e : Expr} {es : List Expr} {t : TA} (C : Cal X.prog X.w X.K X.mg X.base k x ps sp) (hr : Room k X.A) (ha : PA X (e :: es) t) (hg : Gl X x := by rfl)
    (hdb : (x == ("__debug__" : Str)) = false := by decide) (he : starEach (e :: es) X.env = (false, eval e X.env) :: starEach es X.env := by rfl) (hpl : (backTo pos (starEach es X.env)).any (·.1) = false := by rfl) :
    PE X (.Call (.Name x p) (e :: es) [] pos) (tCall sp [] E0 t) := by
  obtain ⟨f, fd, F, m, kp, b⟩ := C.ex
  exact pe_call F hr hg m kp b .nil pass0 ha hdb he hpl
/-- the built-in names that the text leaves alone -/
structure Blt (mg : Str → Option Value) : Prop where
  len : mg "len" = none
  int : mg "int" = none
  abs : mg "abs" = none
  range : mg "range" = none
  isinstance : mg "isinstance" = none
  max : mg "max" = none
  min : mg "min" = none
  sum : mg "sum" = none
  str : mg "str" = none
  bool : mg "bool" = none
  list : mg "list" = none
  ve : mg "ValueError" = none
/-! ### great numbers -/
def CDivA (_ j : Int) : Prop := j ≠ 0 ∧ j.natAbs.log2 < 9000
theorem op_fdivA {X : Cx} : OpR X (binaryOp .FloorDiv) (rI CDivA fun i j => .int (i.fdiv j)) := opI fun i j _ _ _ _ _ hc q => floordiv_int hc.1 q (.inl (PyProof.noPylong_of_log2 hc.2))
theorem divA {i j : Int} {b : Nat} (h : j ≠ 0) (hb : j.natAbs < 2 ^ b) (h0 : 0 < b) (h9 : b ≤ 9000) : CDivA i j := ⟨h, Nat.lt_of_lt_of_le (PySem.Flt.log2_lt_of h0 hb) h9⟩
/-! ### heaps -/
/-- all that was tracked is as it was, but for p -/
def Keeps (H H' : Hp) (p : Addr) : Prop := ∀ b o, H b = some o → b ≠ p → H' b = some o
theorem Keeps.refl (H : Hp) (p : Addr) : Keeps H H p := fun _ _ h _ => h
theorem Keeps.trans {H H1 H2 : Hp} {p : Addr} (a : Keeps H H1 p) (b : Keeps H1 H2 p) : Keeps H H2 p := fun c o h n => b c o (a c o h n) n
theorem Keeps.upd {H : Hp} {p : Addr} {o : HO} : Keeps H (upd H p o) p := fun b u h n => by rw [upd_ne n]; exact h
theorem same_keeps {H H' : Hp} {p : Addr} (h : Same H H') : Keeps H H' p := fun b o e _ => h b o e
theorem same_upd {H : Hp} {p : Addr} {o : HO} (h : H p = none) : Same H (upd H p o) := fun b u e => by rw [upd_ne (ne_of_none e h)]; exact e
theorem Keeps.free {H H' : Hp} {p l : Addr} (k : Keeps H H' p) (h : H' l = none) (n : l ≠ p) : H l = none := by
  cases q : H l with
  | none => rfl
  | some o =>
    rw [k l o q n] at h
    cases h
theorem ints_at {ns : List Int} {j : Nat} (h : j < ns.length) : (ns.map V.int)[j]? = some (V.int ns[j]) := by
  rw [List.getElem?_map, List.getElem?_eq_getElem h]
  rfl
theorem int_of_map {ns : List Int} {i : Nat} {y : V} (h : (ns.map V.int)[i]? = some y) : ∃ z, ns[i]? = some z ∧ y = V.int z := by
  rw [List.getElem?_map] at h
  cases e : ns[i]? with
  | none => rw [e] at h; cases h
  | some z => rw [e] at h; exact ⟨z, rfl, (Option.some.inj h).symm⟩
/-- where the pool stands: its own list, the script's numbers -/
structure Pla where
  p : Addr
  q : Addr
instance : Coe Pla Addr := ⟨Pla.p⟩
/-- the pool: the script's numbers, how many are taken, what is left of one, a state, the draws -/
def Pool (H : Hp) (p : Pla) : Prop := ∃ (ns : List Int) (i b c d : Int), H p = some (.lst [.ref p.q, .int i, .int b, .int c, .int d]) ∧ H p.q = some (.lst (ns.map V.int)) ∧ 0 ≤ i ∧ p.q ≠ p
theorem Pool.same {H H' : Hp} {p : Pla} (h : Pool H p) (s : Same H H') : Pool H' p := by
  obtain ⟨ns, i, b, c, d, h1, h2, h3, h4⟩ := h
  exact ⟨ns, i, b, c, d, s _ _ h1, s _ _ h2, h3, h4⟩
theorem Pool.upd {H : Hp} {p : Pla} {x : Addr} {o : HO} (h : Pool H p) (hx : H x = none) : Pool (upd H x o) p := h.same (same_upd hx)
theorem Pool.store {H : Hp} {p : Pla} {x : Addr} {o : HO} (h : Pool H p) (hp : x ≠ p) (hq : x ≠ p.q) : Pool (L2.upd H x o) p := by
  obtain ⟨ns, i, b, c, d, h1, h2, h3, h4⟩ := h
  exact ⟨ns, i, b, c, d, by rw [upd_ne (Ne.symm hp)]; exact h1, by rw [upd_ne (Ne.symm hq)]; exact h2, h3, h4⟩
theorem Pool.apart {H : Hp} {p : Pla} {x : Addr} (h : Pool H p) (hx : H x = none) : x ≠ p ∧ x ≠ p.q := by
  obtain ⟨ns, i, b, c, d, h1, h2, _⟩ := h
  exact ⟨Ne.symm (ne_of_none h1 hx), Ne.symm (ne_of_none h2 hx)⟩
/-! ### tests -/
theorem ifD {p : Prop} [Decidable p] {A B : Prop} (h1 : p → A) (h2 : ¬ p → B) : if decide p = true then A else B := by
  by_cases h : p
  · rw [decide_eq_true h]; exact iteT (h1 h)
  · rw [decide_eq_false h]; exact iteF (h2 h)
theorem ifE {a b : Int} {A B : Prop} (h1 : a = b → A) (h2 : a ≠ b → B) : if decide (V.int a = V.int b) = true then A else B :=
  ifD (fun h => h1 (V.int.inj h)) fun h => h2 fun e => h (by rw [e])
theorem ifNE {a b : Int} {A B : Prop} (h1 : a ≠ b → A) (h2 : a = b → B) : if (!decide (V.int a = V.int b)) = true then A else B := by
  by_cases h : a = b
  · rw [decide_eq_true (show V.int a = V.int b by rw [h])]; exact iteF (h2 h)
  · rw [decide_eq_false (show ¬ V.int a = V.int b from fun e => h (V.int.inj e))]; exact iteT (h1 h)
theorem ifN {p : Prop} [Decidable p] {A B : Prop} (h1 : ¬ p → A) (h2 : p → B) : if (!decide p) = true then A else B := by
  by_cases h : p
  · rw [decide_eq_true h]; exact iteF (h2 h)
  · rw [decide_eq_false h]; exact iteT (h1 h)
theorem ifB {c : Bool} {A B : Prop} (h1 : c = true → A) (h2 : c = false → B) : if c = true then A else B := by
  cases c
  · exact iteF (h2 rfl)
  · exact iteT (h1 rfl)
theorem fm (a : Int) {b : Int} (h : 0 < b) : 0 ≤ a.fmod b ∧ a.fmod b < b := ⟨Int.fmod_nonneg_of_pos a h, Int.fmod_lt_of_pos a h⟩
/-! ### Euclid's steps -/
def fibp : Nat → Nat × Nat
  | 0 => (0, 1)
  | n + 1 => match fibp n with | (a, b) => (b, a + b)
def Eu : Nat → Nat → Nat → Prop
  | 0, _, y => y = 0
  | n + 1, x, y => y = 0 ∨ Eu n y (x % y)
theorem eu_mono : ∀ {n x y : Nat}, Eu n x y → Eu (n + 1) x y
  | 0, _, _, h => .inl h
  | _ + 1, _, _, .inl h => .inl h
  | n + 1, _, _, .inr h => .inr (eu_mono (n := n) h)
theorem fibp_step (n : Nat) : (fibp (n + 1)).1 = (fibp n).2 ∧ (fibp (n + 1)).2 = (fibp n).1 + (fibp n).2 := by
  show (match fibp n with | (a, b) => (b, a + b)).1 = _ ∧ (match fibp n with | (a, b) => (b, a + b)).2 = _
  cases fibp n
  exact ⟨rfl, rfl⟩
theorem eu_fib : ∀ (n x y : Nat), (y < (fibp n).2 → Eu n x y) ∧ (y < (fibp (n + 1)).2 → Eu (n + 1) x y) := by
  intro n
  induction n with
  | zero =>
    intro x y
    refine ⟨fun h => ?_, fun h => .inl ?_⟩
    · have h' : y < 1 := h
      show y = 0
      omega
    · have h' : y < 1 := h
      omega
  | succ n ih =>
    intro x y
    refine ⟨(ih x y).2, fun h => ?_⟩
    rw [(fibp_step (n + 1)).2, (fibp_step n).1] at h
    by_cases hy : y = 0
    · exact .inl hy
    refine .inr ?_
    have hr : x % y < y := Nat.mod_lt _ (by omega)
    by_cases hc : x % y < (fibp (n + 1)).2
    · exact (ih y (x % y)).2 hc
    · by_cases h0 : x % y = 0
      · exact .inl h0
      refine .inr ?_
      refine (ih (x % y) (y % (x % y))).1 ?_
      have e : y % (x % y) ≤ y - x % y := by
        rw [Nat.mod_eq_sub_mod (Nat.le_of_lt hr)]
        exact Nat.mod_le _ _
      omega
theorem fib_big : 10 ^ 124 ≤ (fibp 599).2 := by decide +kernel
theorem eu_all {x y : Nat} (h : y < 10 ^ 124) : Eu 599 x y := (eu_fib 599 x y).1 (Nat.lt_of_lt_of_le h fib_big)
end Fl

set_option Elab.async false
set_option linter.all false
set_option maxRecDepth 100000
set_option maxHeartbeats 4000000
namespace Fl
section
open PySem PySem.W PySem.Spec PySem.Calls PyProof.Rows
variable {prog : Program} {w : World} {A : Around} {E : Value → Shared → Prop} {s : Shared} {K : Frag} {x D : Addr} {ox : Obj} {od : Option Obj}
theorem findObj_dataE {C : Addr} {name : Str} {a g : Value} (hc : (clsIn K C).isSome = true) (ha : findIn K (.ref C) name = some (some a)) (hg : specialIn K a "__get__" = some (some g)) (ht : takesIn K a = some true) : findObj K C od name = some (.bind g a) := by
  obtain ⟨cd, hc⟩ := Option.isSome_iff_exists.mp hc
  unfold findObj
  rw [hc, Option.bind_some, ha, Option.bind_some]
  simp [hg, ht]
/-- __class__ of an exception of an own class, with or without a dict of its own -/
theorem kin_classX {Q : Option Value → Shared → Prop} (gAt : findIn K (.ref D) "__getattribute__" = some (some (.builtin "BaseException.__getattribute__"))) (gGt : findIn K (.ref D) "__getattr__" = some none) (sBe : subIn K (.ref D) (.type "BaseException") = some true)
    (dDc : hasDictIn K D = true) (ha : findIn K (.ref D) "__class__" = some (some (.builtin "object.__class__")))
    (hn : specialIn K (.builtin "object.__class__") "__get__" = some (some (.builtin "getset_descriptor.__get__"))) (tTk : takesIn K (.builtin "object.__class__") = some true) (hm : mroIn K D (.type "object") = some true)
    (X : K.In s.heap) (I : InstAt s.heap x ox D od) (h : Q (some (.ref D)) { s with toks := s.toks + 1 }) : wpAny (model prog w) A (getAttr? (.ref x) "__class__") Q E s := by
  have fnd : findObj K D od "__class__" = some (.bind (.builtin "getset_descriptor.__get__") (.builtin "object.__class__")) := findObj_dataE (by obtain ⟨cd, hc, _⟩ := any_some dDc; rw [hc]; rfl) ha hn tTk
  obtain ⟨heap0, g, d, t, os⟩ := s
  have lkT := I.type (M := model prog w)
  have lkG := looks_findIn (M := model prog w) X gAt
  have lkA := looks_findIn (M := model prog w) X gGt
  have lkF := looks_find (M := model prog w) X I fnd
  have isBe : Looks (model prog w) heap0 (isInstance (.ref x) (.type "BaseException")) true := lkT.andThen (looks_subIn X sBe)
  have nb0 : (false && onTheHeap (Value.builtin "BaseException.__getattribute__")) = false := rfl
  have nb2 : (Value.builtin "BaseException.__getattribute__" == Value.builtin "object.__getattribute__") = false := by decide +kernel
  have nb1 : (onTheHeap (Value.ref D) && Value.builtin "BaseException.__getattribute__" == Value.builtin "object.__getattribute__") = false := by rw [nb2]; rfl
  unfold getAttr? getAttrBy? getAttrBy
  refine wpAny_bind (wpAny_mkText (wpAny_bind (wpAny_attempt (wpAny_holding (wpAny_bind (lkT.at (wpAny_bind (lkG.at ?_))))))))
  show wpAny _ _ (if (onTheHeap (Value.ref D) && Value.builtin "BaseException.__getattribute__" == Value.builtin "object.__getattribute__") = true then _ else _) _ _ _
  rw [nb1, if_neg Bool.false_ne_true]
  unfold getAttrByItsOwn hookBefore
  refine wpAny_bind ?_
  rw [if_pos (show onTheHeap (Value.ref D) = true from rfl)]
  refine lkA.at ?_
  refine wpAny_bind (wpAny_attempt (wpAny_holding ?_))
  unfold callGetattribute
  rw [nb0, if_neg Bool.false_ne_true]
  unfold boundAndCalled
  rw [PySem.F.excAttr_ValueError.ga.bind (.ref x)]
  refine wpAny_bind (wpAny_pure ?_)
  show wpAny _ _ (call (.builtin "BaseException.__getattribute__") [.ref x, .str "__class__" t]) _ _ _
  refine wpAny_call (codeAny_call_builtin PySem.F.excAttr_ValueError.ga.plain PySem.F.entry_bexc_ga ?_)
  refine @check_slot (model prog w) _ _ ⟨heap0, g, d, t + 1, os⟩ "BaseException.__getattribute__" "BaseException" "__getattribute__" (.ref x) [.str "__class__" t] [] _ (by decide +kernel) (by decide +kernel) isBe (PySem.F.args_bexc_ga (.ref x) (.str "__class__" t)) ?_
  unfold Builtin.«object.__getattribute__»
  refine wpAny_bind (wpAny_of_eq (a := ((Value.ref x : Value), [Value.str "__class__" t])) (by first | rfl | (simp only [slotArgs]; rfl)) ?_)
  refine wpAny_bind (wpAny_pure (wpAny_bind (lkT.at (wpAny_bind (lkF.at ?_)))))
  show wpAny _ _ (holding [Value.builtin "object.__class__"] (call (.builtin "getset_descriptor.__get__") [.builtin "object.__class__", .ref x, .ref D]) >>= ret) _ _ _
  refine wpAny_bind (wpAny_holding (wpAny_call (class_get (s := ⟨heap0, g, d, t + 1, os⟩) (ox := ox) (od := od) X I hm ?_)))
  refine wpAny_pure ?_
  show wpAny _ _ (handedOut (.ref D)) _ _ _
  rw [handedOut_of (v := .ref D) rfl]
  first
    | exact wpAny_pure (wpAny_pure h)
    | exact wpAny_pure h
    | exact wpAny_pure (wpAny_bind (wpAny_pure (wpAny_pure h)))
theorem kitx_excX (gAt : findIn K (.ref D) "__getattribute__" = some (some (.builtin "BaseException.__getattribute__"))) (gGt : findIn K (.ref D) "__getattr__" = some none) (sBe : subIn K (.ref D) (.type "BaseException") = some true) (dDc : hasDictIn K D = true) (ha : findIn K (.ref D) "__class__" = some (some (.builtin "object.__class__")))
    (hn : specialIn K (.builtin "object.__class__") "__get__" = some (some (.builtin "getset_descriptor.__get__"))) (tTk : takesIn K (.builtin "object.__class__") = some true) (hm : mroIn K D (.type "object") = some true) :
    KitX K (.ref x) (.ref D) (fun h => InstAt h x ox D od) where
  ty := fun _ _ _ I => I.type
  it := fun _ _ X _ => by
    obtain ⟨cdE, hcE, _⟩ := any_some dDc
    unfold clsIn at hcE
    split at hcE
    · rename_i c' d' cd' sl' ho
      intro A' Q' E' s' k q
      unfold isType loadHead
      exact wpAny_bind (wpAny_loadPart (k _ _ (X _ _ ho)) (wpAny_pure q))
    · cases hcE
  ne := fun h tp dd its n sl X htp => by
    obtain ⟨cdE, hcE, _⟩ := any_some dDc
    refine Bool.eq_false_iff.mpr fun q => ?_
    have e : D = tp := Value.ref.inj (beq_iff_eq.mp q)
    subst e
    unfold clsIn at hcE
    split at hcE
    · rename_i c' d' cd' sl' ho
      have z := (X _ _ ho).symm.trans htp
      cases z
    · cases hcE
  ca := fun X I k => kin_classX gAt gGt sBe dDc ha hn tTk hm X I k
end
section
open PySem PySem.Spec PyProof.Rows L2
/-- the caught error at a: of the class D, its dict d -/
def Err (H : Hp) (d : Option Addr) : Prop := d = none ∨ ∃ dd fs, d = some dd ∧ H dd = some (.xd fs)
theorem exc_inst {X : Cx} {a D : Addr} {oe : Obj} {pn pins : List (Addr × Obj)} {d : Option Addr} {σ : L2.St} {H : Hp} {s : Shared} (hz : Zc (.ref D) d oe) (hf : ∃ vs, oe.data = .fields vs) (I : Inv (X.suite a ((a, oe) :: pn)) pins σ H s) (he : Err H d) :
    ∃ od, PySem.W.InstAt s.heap a oe D od := by
  obtain ⟨hget, _⟩ := I.pin (a, oe) (List.mem_append.mpr (.inl List.mem_cons_self))
  obtain ⟨vs, hv⟩ := hf
  obtain ⟨oc, oda, odt, osl⟩ := oe
  obtain ⟨h1, h2⟩ := hz
  dsimp only at h1 h2 hv
  subst h1 h2 hv
  rcases he with rfl | ⟨dd, fs, rfl, hd⟩
  · exact ⟨none, hget, rfl, rfl, trivial⟩
  · have hx : ObjOk X.prog X.w H s.heap dd (.xd fs) := I.hok dd _ hd
    obtain ⟨mA, hns, hr⟩ := hx
    obtain ⟨od, ho, hl⟩ := lookIn_ns hns
    exact ⟨some od, hget, rfl, rfl, ho⟩
def rIsX (K : PySem.W.Frag) (D a : Addr) (cls : Value) (d : Option Addr) : List V → Hp → VK → Prop := fun xs H Q => cls = .ref D ∧ Err H d ∧ ∃ (c : V) (cv : Value) (b : Bool), xs = [.ref a, c] ∧ ClsV c cv ∧ PySem.W.kitOne K (.ref D) cv = some b ∧ Q (.bl b) H
def rIsXT (K : PySem.W.Frag) (D a : Addr) (cls : Value) (d : Option Addr) : List V → Hp → VK → Prop := fun xs H Q => cls = .ref D ∧ Err H d ∧ ∃ (tp : Addr) (cs : List V) (us : List Value) (b : Bool), xs = [.ref a, .ref tp] ∧ H tp = some (.tup cs) ∧ Paired ClsV cs us ∧ PySem.W.kitAny K (.ref D) us = some b ∧ Q (.bl b) H
theorem call_isX {X : Cx} {a D : Addr} {cls : Value} {d : Option Addr} {oe : Obj} {pn : List (Addr × Obj)} (C : ExcC X.K D) (hz : Zc cls d oe) (hf : ∃ vs, oe.data = .fields vs) : CallR (X.suite a ((a, oe) :: pn)) (.builtin "isinstance") (rIsX X.K D a cls d) := by
  intro pins s σ H xs us Q I r h
  obtain ⟨rfl, he, c, cv, b, rfl, hcv, e, q⟩ := h
  obtain ⟨od, J⟩ := exc_inst hz hf I he
  obtain ⟨u1, u2, rfl, r1, r2⟩ := vals2 r
  have ec := hcv.eq r2
  subst ec
  cases (show u1 = Value.ref a from r1)
  exact PySem.W.kia_one (kitx_excX C.hg C.hk C.hs C.hd C.ha C.hn C.ht C.hm) I.kIn J e (fun z => nomatch z) fun tk => ⟨.bl b, H, I.kept (t' := tk) fun _ _ z => z, rfl, q⟩
theorem call_isXT {X : Cx} {a D : Addr} {cls : Value} {d : Option Addr} {oe : Obj} {pn : List (Addr × Obj)} (C : ExcC X.K D) (hz : Zc cls d oe) (hf : ∃ vs, oe.data = .fields vs) : CallR (X.suite a ((a, oe) :: pn)) (.builtin "isinstance") (rIsXT X.K D a cls d) := by
  intro pins s σ H xs us Q I r h
  obtain ⟨rfl, he, tp, cs, ws, b, rfl, hT, k, e, q⟩ := h
  obtain ⟨od, J⟩ := exc_inst hz hf I he
  obtain ⟨u1, u2, rfl, r1, r2⟩ := vals2 r
  cases (show u1 = Value.ref a from r1)
  cases (show u2 = Value.ref tp from r2)
  obtain ⟨_, its, rv, o, h1, h2, n, h3⟩ := (show ObjOk X.prog X.w H s.heap tp (.tup cs) from I.hok tp _ hT)
  have e3 := ClsV.all k rv
  subst e3
  obtain ⟨oc, od', dt, sl⟩ := o
  simp only at h2 h3
  subst h2 h3
  exact PySem.W.kia_tup (kitx_excX C.hg C.hk C.hs C.hd C.ha C.hn C.ht C.hm) I.kIn J h1 e (fun z => nomatch z) fun tk => ⟨.bl b, H, I.kept (t' := tk) fun _ _ z => z, rfl, q⟩
/-! ### making an instance where what is raised is wished for at the caller's slots -/
def tMakeS (C : Addr) (sp : Sp) (dvs : List V) (E : L2.St → XK) (t : TA) : TE := fun σ H Q => t σ H fun vs H1 => ∀ x dx, H1 x = none → H1 dx = none → dx ≠ x →
  sp (.ref x :: (vs ++ dvs)) (upd (upd H1 dx (.own x)) x (.ins C dx [])) (fun v H2 => v = .non ∧ Q (.ref x) H2) (E σ)
section
variable {X : Cx} {CX : CXT} {k : Nat} {f C : Addr} {fd : FuncData} {ps : List Str} {sp : Sp} {dvs : List V} {ds : List Value} {E : L2.St → XK} {x m : Str} {p pos apos : Pos} {e o : Expr} {es : List Expr} {ta : TE} {t : TA}
theorem run_makeS {pins : List (Addr × Obj)} {σ : L2.St} {H : Hp} {s : Shared} {Q : VK} {us : List Value} {vs : List V} (M : Mk X.K C f) (F : FnOk X.prog X.w X.K X.mg X.base CX k f fd ps sp) (hr : Room (k + 1) X.A) (hb : Binds X.K fd ps ds) (hd : Vals dvs ds)
    (hx : PassesAt CX X σ (E σ)) (I : Inv X pins σ H s) (r : Vals vs us)
    (h : ∀ x dx, H x = none → H dx = none → dx ≠ x → sp (.ref x :: (vs ++ dvs)) (upd (upd H dx (.own x)) x (.ins C dx [])) (fun v H2 => v = .non ∧ Q (.ref x) H2) (E σ)) :
    wpAny (model X.prog X.w) X.A (call (.ref C) us) (EP X pins σ Q) X.xe s := by
  have hnew := h (s.heap.objs.size + 1) s.heap.objs.size (I.hok.fresh (Nat.le_succ _)) (I.hok.fresh (Nat.le_refl _)) (Nat.ne_of_lt (Nat.lt_succ_self _))
  have Inew := Inv.made (C := C) I
  have rAll : Vals (V.ref (s.heap.objs.size + 1) :: (vs ++ dvs)) (Value.ref (s.heap.objs.size + 1) :: (us ++ ds)) := .cons rfl (r.append hd)
  have hlen : (Value.ref (s.heap.objs.size + 1) :: us ++ ds).length = ps.length := by
    have e := rAll.length
    rw [F.len _ _ _ _ hnew] at e
    exact e.symm
  refine wpAny_call (make_map (f := f) I.kIn M.makes M.init (beq_iff_eq.mp M.fn) (codeAny_mono (F.run _ X.stack _ _ ⟨Value.ref (s.heap.objs.size + 1) :: us, []⟩ (Value.ref (s.heap.objs.size + 1) :: (us ++ ds)) _ _ (E σ) (hr.make C us [])
    (Inew.env0.make C us []) (hb _ (Value.ref (s.heap.objs.size + 1) :: us) Inew.kIn hlen) rAll hnew) fun r s' hend => ?_))
  cases r with
  | error e => exact hx pins _ _ e s' Inew hend
  | ok fl =>
    cases fl with
    | ret u =>
      obtain ⟨v, H', Iend, rVal, ev, qEnd⟩ := Inew.after hend
      subst ev
      exact ⟨rVal, ⟨V.ref (s.heap.objs.size + 1), H', Iend, rfl, qEnd⟩⟩
    | next => exact False.elim hend
    | brk => exact False.elim hend
    | cont => exact False.elim hend
theorem pe_makeS (M : Mk X.K C f) (F : FnOk X.prog X.w X.K X.mg X.base CX k f fd ps sp) (hr : Room (k + 1) X.A) (hg : Gl X x) (hm : X.mg x = some (.ref C)) (hb : Binds X.K fd ps ds) (hd : Vals dvs ds) (hx : ∀ σ, PassesAt CX X σ (E σ))
    (ha : PA X (e :: es) t) (hdb : (x == ("__debug__" : Str)) = false := by decide) (he : starEach (e :: es) X.env = (false, eval e X.env) :: starEach es X.env := by rfl) (hpl : (backTo pos (starEach es X.env)).any (·.1) = false := by rfl) :
    PE X (.Call (.Name x p) (e :: es) [] pos) (tMakeS C sp dvs E t) := by
  refine ⟨fun pins s σ H Q I h => ?_⟩
  refine wpAny_Call_Name_kw (ld_glob I hg hm ?_ hdb)
  refine PySem.W.callWith_K (h₀ := X.base) I.ok.mod.kin M.kp (thn (ha.run pos pins s σ H _ I h) fun us s1 ⟨vs, H1, I1, r, q⟩ => ⟨I1.kIn, ?_⟩) he hpl
  exact run_makeS M F hr hb hd (hx σ) I1 r q
end
/-- a class that is called: C(..), the promise of its __init__; dvs the defaults that fill up -/
structure CalC (P : Program) (w : World) (K : PySem.W.Frag) (mg : Str → Option Value) (base : Heap) (CX : CXT) (k : Nat) (C : Addr) (x : Str) (ps : List Str) (dvs : List V) (sp : Sp) : Prop where
  ex : ∃ (f : Addr) (fd : FuncData) (ds : List Value), Mk K C f ∧ FnOk P w K mg base CX k f fd ps sp ∧ mg x = some (.ref C) ∧ Binds K fd ps ds ∧ Vals dvs ds
theorem pe_mk {X : Cx} {k : Nat} {C : Addr} {x : Str} {ps : List Str} {dvs : List V} {sp : Sp} {p pos : Pos} {e : Expr} {es : List Expr} {t : TA} (M : CalC X.prog X.w X.K X.mg X.base (L2.CX X.prog X.w) k C x ps dvs sp) (hr : Room (k + 1) X.A) (ha : PA X (e :: es) t) (hg : Gl X x := by rfl)
    (hdb : (x == ("__debug__" : Str)) = false := by decide) (he : starEach (e :: es) X.env = (false, eval e X.env) :: starEach es X.env := by rfl) (hpl : (backTo pos (starEach es X.env)).any (·.1) = false := by rfl) :
    PE X (.Call (.Name x p) (e :: es) [] pos) (tMake C sp dvs E0 t) := by
  obtain ⟨f, fd, ds, M, F, m, b, d⟩ := M.ex
  exact pe_make M F hr hg m b d passL ha hdb he hpl
theorem pe_mkS {X : Cx} {W : WX} {k : Nat} {C : Addr} {x : Str} {ps : List Str} {dvs : List V} {sp : Sp} {p pos : Pos} {e : Expr} {es : List Expr} {t : TA} (M : CalC X.prog X.w X.K X.mg X.base (L2.CX X.prog X.w) k C x ps dvs sp) (tk : Takes X W) (hr : Room (k + 1) X.A) (ha : PA X (e :: es) t) (hg : Gl X x := by rfl)
    (hdb : (x == ("__debug__" : Str)) = false := by decide) (he : starEach (e :: es) X.env = (false, eval e X.env) :: starEach es X.env := by rfl) (hpl : (backTo pos (starEach es X.env)).any (·.1) = false := by rfl) :
    PE X (.Call (.Name x p) (e :: es) [] pos) (tMakeS C sp dvs (WE W) t) := by
  obtain ⟨f, fd, ds, M, F, m, b, d⟩ := M.ex
  exact pe_makeS M F hr hg m b d (fun σ => passAt tk σ) ha hdb he hpl
/-! ### a def that may raise -/
structure CalX (P : Program) (w : World) (K : PySem.W.Frag) (mg : Str → Option Value) (base : Heap) (k : Nat) (x : Str) (ps : List Str) (sp : Sp) : Prop where
  ex : ∃ (f : Addr) (fd : FuncData), FnOk P w K mg base (L2.CX P w) k f fd ps sp ∧ mg x = some (.ref f) ∧ PySem.W.keepIn K (.ref f) = true ∧ Binds K fd ps []
theorem Dfn.calX {P : Program} {w : World} {K : PySem.W.Frag} {mg : Str → Option Value} {base : Heap} {x qual : Str} {st : Stmt} {N ps : List Str} {k : Nat} {sp : Sp} (D : Dfn K mg x qual st ps) (S : FnScope N ps (defScope st)) (len : ∀ vs H Q E, sp vs H Q E → vs.length = ps.length)
    (hbody : ∀ (f : Addr) (cdv : Value) (A : Around) (outer : List Env) (s : Shared) (H : Hp) (vs : List V) (Q : VK) (E : XK), Room k (A.deeper (envOfC qual (defScope st) s.heap.objs.size f cdv)) → sp vs H Q E →
      ∃ t, PSs (cxOf (L2.CX P w) P w K mg base N qual (defScope st) f cdv A outer s H E) (defBody st) t ∧ t { nx := fun _ H' => Q .non H', rt := Q } (start N vs) H) : CalX P w K mg base (k + 1) x ps sp := by
  obtain ⟨f, fd, F, m, b⟩ := D.ex
  exact ⟨f, fd, F.okX S len (hbody f), m, F.kp, b⟩
theorem pe_calX {X : Cx} {k : Nat} {x : Str} {ps : List Str} {sp : Sp} {p pos : Pos} {e : Expr} {es : List Expr} {t : TA} (C : CalX X.prog X.w X.K X.mg X.base k x ps sp) (hr : Room k X.A) (ha : PA X (e :: es) t) (hg : Gl X x := by rfl)
    (hdb : (x == ("__debug__" : Str)) = false := by decide) (he : starEach (e :: es) X.env = (false, eval e X.env) :: starEach es X.env := by rfl) (hpl : (backTo pos (starEach es X.env)).any (·.1) = false := by rfl) :
    PE X (.Call (.Name x p) (e :: es) [] pos) (tCall sp [] E0 t) := by
  obtain ⟨f, fd, F, m, kp, b⟩ := C.ex
  exact pe_call F hr hg m kp b .nil passL ha hdb he hpl
theorem pe_calS {X : Cx} {W : WX} {k : Nat} {x : Str} {ps : List Str} {sp : Sp} {p pos : Pos} {e : Expr} {es : List Expr} {t : TA} (C : CalX X.prog X.w X.K X.mg X.base k x ps sp) (tk : Takes X W) (hr : Room k X.A) (ha : PA X (e :: es) t) (hg : Gl X x := by rfl)
    (hdb : (x == ("__debug__" : Str)) = false := by decide) (he : starEach (e :: es) X.env = (false, eval e X.env) :: starEach es X.env := by rfl) (hpl : (backTo pos (starEach es X.env)).any (·.1) = false := by rfl) :
    PE X (.Call (.Name x p) (e :: es) [] pos) (tCallS sp (WE W) t) := by
  obtain ⟨f, fd, F, m, kp, b⟩ := C.ex
  exact pe_callS F hr hg m kp b (fun σ => passAt tk σ) ha hdb he hpl
theorem exm_self {K : PySem.W.Frag} {S : Addr} (h1 : PySem.W.subIn K (.ref S) (.type "BaseException") = some true) (h2 : PySem.W.hasDictIn K S = true) (h3 : PySem.W.typeIn K (.ref S) = some (.type "type")) (h4 : PySem.W.subIn K (.ref S) (.ref S) = some true) :
    PySem.W.exmOne K (.ref S) (.ref S) = some true := PySem.W.exm_ref h1 h2 h3 h4
end
end Fl

set_option Elab.async false
set_option linter.all false
set_option maxRecDepth 100000
set_option maxHeartbeats 4000000
namespace Fl
open PySem PySem.Spec PyProof.Rows L2
/-! ### lowest terms -/
def sh (t u : Int) : Int := if u < 0 then -(Nat.gcd t.natAbs u.natAbs : Nat) else (Nat.gcd t.natAbs u.natAbs : Nat)
def nT (t u : Int) : Int := t.fdiv (sh t u)
def nU (t u : Int) : Int := u.fdiv (sh t u)
theorem sh_abs (t u : Int) : (sh t u).natAbs = Nat.gcd t.natAbs u.natAbs := by
  unfold sh
  split <;> omega
theorem sh_ne {t u : Int} (h : u ≠ 0) : sh t u ≠ 0 := by
  have h1 : 0 < Nat.gcd t.natAbs u.natAbs := Nat.gcd_pos_of_pos_right _ (by omega)
  have := sh_abs t u
  omega
theorem sh_dvd_t (t u : Int) : sh t u ∣ t := Int.natAbs_dvd_natAbs.mp (by rw [sh_abs]; exact Nat.gcd_dvd_left _ _)
theorem sh_dvd_u (t u : Int) : sh t u ∣ u := Int.natAbs_dvd_natAbs.mp (by rw [sh_abs]; exact Nat.gcd_dvd_right _ _)
theorem nT_mul (t u : Int) : nT t u * sh t u = t := by
  unfold nT
  exact Int.fdiv_mul_cancel (sh_dvd_t t u)
theorem nU_mul (t u : Int) : nU t u * sh t u = u := by
  unfold nU
  exact Int.fdiv_mul_cancel (sh_dvd_u t u)
theorem nU_pos {t u : Int} (h : u ≠ 0) : 0 < nU t u := by
  have h1 : 0 < Nat.gcd t.natAbs u.natAbs := Nat.gcd_pos_of_pos_right _ (by omega)
  have e := nU_mul t u
  by_cases hn : u < 0
  · have hs : sh t u < 0 := by
      unfold sh
      rw [if_pos hn]
      omega
    rcases Int.lt_trichotomy (nU t u) 0 with hc | hc | hc
    · have := Int.mul_pos_of_neg_of_neg hc hs
      omega
    · rw [hc] at e
      omega
    · exact hc
  · have hs : 0 < sh t u := by
      unfold sh
      rw [if_neg hn]
      omega
    rcases Int.lt_trichotomy (nU t u) 0 with hc | hc | hc
    · have := Int.mul_neg_of_neg_of_pos hc hs
      omega
    · rw [hc] at e
      omega
    · exact hc
theorem n_cross (t u : Int) : nT t u * u = t * nU t u := by
  have e1 := nT_mul t u
  have e2 := nU_mul t u
  calc nT t u * u = nT t u * (nU t u * sh t u) := by rw [e2]
    _ = nT t u * sh t u * nU t u := by rw [Int.mul_comm (nU t u), Int.mul_assoc]
    _ = t * nU t u := by rw [e1]
theorem n_gcd {t u : Int} (h : u ≠ 0) : Nat.gcd (nT t u).natAbs (nU t u).natAbs = 1 := by
  have h1 : 0 < Nat.gcd t.natAbs u.natAbs := Nat.gcd_pos_of_pos_right _ (by omega)
  have e1 : (nT t u).natAbs * Nat.gcd t.natAbs u.natAbs = t.natAbs := by rw [← sh_abs, ← Int.natAbs_mul, nT_mul]
  have e2 : (nU t u).natAbs * Nat.gcd t.natAbs u.natAbs = u.natAbs := by rw [← sh_abs, ← Int.natAbs_mul, nU_mul]
  have e3 : Nat.gcd ((nT t u).natAbs * Nat.gcd t.natAbs u.natAbs) ((nU t u).natAbs * Nat.gcd t.natAbs u.natAbs) = Nat.gcd t.natAbs u.natAbs := by
    rw [e1, e2]
  rw [Nat.gcd_mul_right] at e3
  exact Nat.eq_of_mul_eq_mul_right h1 (by rw [e3, Nat.one_mul])
theorem nU_le {t u : Int} (h : u ≠ 0) : (nU t u).natAbs ≤ u.natAbs := by
  have h1 : 0 < Nat.gcd t.natAbs u.natAbs := Nat.gcd_pos_of_pos_right _ (by omega)
  have e2 : (nU t u).natAbs * Nat.gcd t.natAbs u.natAbs = u.natAbs := by rw [← sh_abs, ← Int.natAbs_mul, nU_mul]
  rw [← e2]
  exact Nat.le_mul_of_pos_right _ h1
theorem nT_le {t u : Int} (h : u ≠ 0) : (nT t u).natAbs ≤ t.natAbs := by
  have h1 : 0 < Nat.gcd t.natAbs u.natAbs := Nat.gcd_pos_of_pos_right _ (by omega)
  have e2 : (nT t u).natAbs * Nat.gcd t.natAbs u.natAbs = t.natAbs := by rw [← sh_abs, ← Int.natAbs_mul, nT_mul]
  rw [← e2]
  exact Nat.le_mul_of_pos_right _ h1
/-- a fraction has one form in lowest terms -/
theorem low_one {a b c d : Int} (hb : 0 < b) (hd : 0 < d) (g1 : Nat.gcd a.natAbs b.natAbs = 1) (g2 : Nat.gcd c.natAbs d.natAbs = 1) (e : a * d = c * b) : a = c ∧ b = d := by
  have en : a.natAbs * d.natAbs = c.natAbs * b.natAbs := by rw [← Int.natAbs_mul, ← Int.natAbs_mul, e]
  have d1 : b.natAbs ∣ d.natAbs := (Nat.Coprime.dvd_of_dvd_mul_left (k := b.natAbs) (m := a.natAbs) (n := d.natAbs) (by rw [Nat.Coprime, Nat.gcd_comm]; exact g1) (by rw [en]; exact Nat.dvd_mul_left _ _))
  have d2 : d.natAbs ∣ b.natAbs := (Nat.Coprime.dvd_of_dvd_mul_left (k := d.natAbs) (m := c.natAbs) (n := b.natAbs) (by rw [Nat.Coprime, Nat.gcd_comm]; exact g2) (by rw [← en]; exact Nat.dvd_mul_left _ _))
  have e3 : b.natAbs = d.natAbs := Nat.dvd_antisymm d1 d2
  have e4 : b = d := by omega
  subst e4
  exact ⟨Int.eq_of_mul_eq_mul_right (by omega) e, rfl⟩
theorem n_uniq {a b t u : Int} (hu : u ≠ 0) (hb : 0 < b) (g : Nat.gcd a.natAbs b.natAbs = 1) (e : a * u = t * b) : a = nT t u ∧ b = nU t u := by
  refine low_one hb (nU_pos hu) g (n_gcd hu) ?_
  have e1 := n_cross t u
  refine Int.eq_of_mul_eq_mul_right hu ?_
  calc a * nU t u * u = a * u * nU t u := by rw [Int.mul_assoc, Int.mul_comm (nU t u), ← Int.mul_assoc]
    _ = t * b * nU t u := by rw [e]
    _ = t * nU t u * b := by rw [Int.mul_assoc, Int.mul_comm b, ← Int.mul_assoc]
    _ = nT t u * u * b := by rw [e1]
    _ = nT t u * b * u := by rw [Int.mul_assoc, Int.mul_comm u, ← Int.mul_assoc]
theorem n_self {a b : Int} (hb : 0 < b) (g : Nat.gcd a.natAbs b.natAbs = 1) : nT a b = a ∧ nU a b = b := by
  obtain ⟨h1, h2⟩ := n_uniq (a := a) (b := b) (t := a) (u := b) (by omega) hb g rfl
  exact ⟨h1.symm, h2.symm⟩
theorem n_one (t : Int) : nT t 1 = t ∧ nU t 1 = 1 := n_self (by decide) (by simp)
theorem n_scale {t u f : Int} (hu : u ≠ 0) (hf : f ≠ 0) : nT (t * f) (u * f) = nT t u ∧ nU (t * f) (u * f) = nU t u := by
  have hne : u * f ≠ 0 := Int.mul_ne_zero hu hf
  obtain ⟨h1, h2⟩ := n_uniq (a := nT t u) (b := nU t u) (t := t * f) (u := u * f) hne (nU_pos hu) (n_gcd hu) (by
    have e1 := n_cross t u
    calc nT t u * (u * f) = nT t u * u * f := by rw [Int.mul_assoc]
      _ = t * nU t u * f := by rw [e1]
      _ = t * f * nU t u := by rw [Int.mul_assoc, Int.mul_comm (nU t u), ← Int.mul_assoc])
  exact ⟨h1.symm, h2.symm⟩
/-! ### instances of Ratio -/
def rf (t u : Int) : List (Str × V) := putF "under" (.int u) (putF "top" (.int t) [])
theorem tu : ¬ (("top" : Str) = "under") := by decide +kernel
theorem ut : ¬ (("under" : Str) = "top") := by decide +kernel
theorem rf_top (t u : Int) : (rf t u).lookup ("top" : Str) = some (.int t) := by
  unfold rf
  rw [lookup_putF, if_neg tu, lookup_putF, if_pos rfl]
theorem rf_under (t u : Int) : (rf t u).lookup ("under" : Str) = some (.int u) := by
  unfold rf
  rw [lookup_putF, if_pos rfl]
theorem rf_no (t u : Int) {m : Str} (h1 : ¬ m = "under") (h2 : ¬ m = "top") : (rf t u).lookup m = none := by
  unfold rf
  rw [lookup_putF, if_neg h1, lookup_putF, if_neg h2]
  rfl
/-- a Ratio t / u stands at x -/
def RatAt (C : Addr) (H : Hp) (x : Addr) (t u : Int) : Prop := ∃ dx, H x = some (.ins C dx (rf t u))
theorem RatAt.keep {C p : Addr} {H H' : Hp} {x : Addr} {t u : Int} (h : RatAt C H x t u) (k : Keeps H H' p) (hp : x ≠ p) : RatAt C H' x t u := by
  obtain ⟨dx, h⟩ := h
  exact ⟨dx, k _ _ h hp⟩
theorem RatAt.same {C : Addr} {H H' : Hp} {x : Addr} {t u : Int} (h : RatAt C H x t u) (k : Same H H') : RatAt C H' x t u := by
  obtain ⟨dx, h⟩ := h
  exact ⟨dx, k _ _ h⟩
theorem RatAt.ne_pool {C : Addr} {p : Pla} {H : Hp} {x : Addr} {t u : Int} (h : RatAt C H x t u) (hp : Pool H p) : x ≠ p := by
  obtain ⟨dx, h⟩ := h
  obtain ⟨ns, i, b, c, d, h1, _⟩ := hp
  exact ne_of h h1 (by intro z; cases z)
/-- the class Ratio as the top has left it -/
structure RatC (K : PySem.W.Frag) (mg : Str → Option Value) (C : Addr) : Prop where
  cl : Cls K C
  nT : NoAttr K C "top"
  nU : NoAttr K C "under"
  g : mg "Ratio" = some (.ref C)
  ha : PySem.W.findIn K (.ref C) "__class__" = some (some (.builtin "object.__class__"))
  hn : PySem.W.specialIn K (.builtin "object.__class__") "__get__" = some (some (.builtin "getset_descriptor.__get__"))
  htk : PySem.W.takesIn K (.builtin "object.__class__") = some true
  hm : PySem.W.mroIn K C (.type "object") = some true
  ki : PySem.W.kitOne K (.type "int") (.ref C) = some false
theorem RatC.tyX {K : PySem.W.Frag} {mg : Str → Option Value} {C : Addr} (T : RatC K mg C) {H : Hp} {x dx : Addr} {fs : List (Str × V)} (h : H x = some (.ins C dx fs)) : TyX K H (.ref x) (.ref C) := .base (.ins h T.cl T.ha T.hn T.htk T.hm)
theorem kit_self {K : PySem.W.Frag} (v : Value) : PySem.W.kitOne K v v = some true := by
  unfold PySem.W.kitOne
  rw [if_pos (beq_self_eq_true v)]
/-- an error class of the program without __init__ -/
structure ExC (K : PySem.W.Frag) (mg : Str → Option Value) (nm : Str) (C : Addr) : Prop where
  x : PySem.W.excIn K C [.type "ValueError", .type "Exception", .type "BaseException", .type "object"] "ValueError.__new__" = true
  g : mg nm = some (.ref C)
  k : PySem.W.keepIn K (.ref C) = true
  b : PySem.W.subIn K (.ref C) (.type "BaseException") = some true
  t : PySem.W.typeIn K (.ref C) = some (.type "type")
  s : PySem.W.subIn K (.ref C) (.ref C) = some true
  e : ExcC K C
theorem ExC.exm {K : PySem.W.Frag} {mg : Str → Option Value} {x : Str} {C : Addr} (T : ExC K mg x C) : PySem.W.exmOne K (.ref C) (.ref C) = some true := exm_self T.b T.e.hd T.t T.s
theorem beq_ref_ne {a b : Addr} (h : a ≠ b) : (Value.ref a == Value.ref b) = false := by
  rw [beq_eq_false_iff_ne]
  intro e
  injection e with e
  exact h e
end Fl

set_option Elab.async false
set_option linter.all false
set_option maxRecDepth 100000
set_option maxHeartbeats 4000000
namespace Fl
open PySem PySem.Spec PyProof.Rows L2
/-! ### the error with a name and a value -/
structure BnC (K : PySem.W.Frag) (mg : Str → Option Value) (C : Addr) : Prop where
  o : OexC K C
  g : mg "BadNumber" = some (.ref C)
  nN : PySem.W.findIn K (.ref C) "name" = some none
  nV : PySem.W.findIn K (.ref C) "value" = some none
  e : ExcC K C
  s : PySem.W.subIn K (.ref C) (.ref C) = some true
theorem BnC.exm {K : PySem.W.Frag} {mg : Str → Option Value} {C : Addr} (T : BnC K mg C) : PySem.W.exmOne K (.ref C) (.ref C) = some true := exm_self T.o.exC T.e.hd T.o.tyC T.s
theorem BnC.xf {K : PySem.W.Frag} {mg : Str → Option Value} {C : Addr} (T : BnC K mg C) : XfC K C := ⟨T.e.hg, T.e.hk, T.e.hs, T.e.hd⟩
def bnf (n v : V) : List (Str × V) := [("value", v), ("name", n)]
theorem nv : ¬ (("name" : Str) = "value") := by decide +kernel
theorem look_ne {f g : Str} {v : V} {fs : List (Str × V)} (h : ¬ f = g) : List.lookup f ((g, v) :: fs) = List.lookup f fs := by
  have e : (f == g) = false := by simpa using h
  rw [List.lookup_cons, e]
theorem look_eq {f : Str} {v : V} {fs : List (Str × V)} : List.lookup f ((f, v) :: fs) = some v := by
  rw [List.lookup_cons, beq_self_eq_true]
theorem bnf_name (n v : V) : (bnf n v).lookup ("name" : Str) = some n := by
  unfold bnf
  rw [look_ne nv, look_eq]
theorem bnf_value (n v : V) : (bnf n v).lookup ("value" : Str) = some v := look_eq
def spBN (C : Addr) : Sp := fun vs H Q _ => ∃ (a : Addr) (n v : V), vs = [.ref a, n, v] ∧ H a = some (exo a C none) ∧ ∀ (dx : Addr), H dx = none → dx ≠ a → Q .non (upd (upd (upd H dx (exd dx [("name", n)])) a (exo a C (some dx))) dx (exd dx (bnf n v)))
structure CalE (P : Program) (w : World) (K : PySem.W.Frag) (mg : Str → Option Value) (base : Heap) (k : Nat) (C : Addr) : Prop where
  ex : ∃ (fI : Addr) (fd : FuncData), PySem.W.findIn K (.ref C) "__init__" = some (some (.ref fI)) ∧ PySem.W.typeIn K (.ref fI) = some (.type "function") ∧ FnOk P w K mg base CX0 k fI fd ["self", "name", "value"] (spBN C) ∧ Binds K fd ["self", "name", "value"] []
theorem pmk_bn {X : Cx} {k : Nat} {C : Addr} {p pos : Pos} {e : Expr} {es : List Expr} {ta : TA} (T : BnC X.K X.mg C) (B : CalE X.prog X.w X.K X.mg X.base k C) (hr : Room (k + 1) X.A) (ha : PA X (e :: es) ta) (hg : Gl X "BadNumber" := by rfl)
    (he : starEach (e :: es) X.env = (false, eval e X.env) :: starEach es X.env := by rfl) (hpl : (backTo pos (starEach es X.env)).any (·.1) = false := by rfl) : PMk X (.Call (.Name "BadNumber" p) (e :: es) [] pos) (tMkO C (spBN C) [] ta) := by
  obtain ⟨fI, fd, iC, tI, F, b⟩ := B.ex
  exact pmk_oex T.o iC tI F hr b .nil (fun _ _ _ _ _ _ _ h => h.elim) hg T.g ha (by decide +kernel) he hpl
/-- what is wished where BadNumber(n, v) leaves -/
def Ref (E : XK) (C : Addr) (H : Hp) (n : Str) (v : Int) : Prop := ∀ (d : Addr) (H' : Hp), Same H H' → H d = none → H' d = some (.xd (bnf (.str n) (.int v))) → E (.ref C) (some d) H'
theorem Ref.same {E : XK} {C : Addr} {H H1 : Hp} {n : Str} {v : Int} (h : Ref E C H n v) (s : Same H H1) : Ref E C H1 n v := fun d H' s' hd he => h d H' (s.trans s') (s.free hd) he
theorem bn_made {C : Addr} {n : Str} {v : Int} {H : Hp} {Q : XK} (k : Ref Q C H n v) : [V.str n, V.int v].length ≤ 1000 ∧ ∀ a, H a = none → spBN C (.ref a :: ([V.str n, V.int v] ++ [])) (upd H a (exo a C none))
    (fun z H2 => z = .non ∧ ∃ (d : Addr) (fs : List (Str × V)), H2 a = some (exo a C (some d)) ∧ H2 d = some (exd d fs) ∧ H d = none ∧ Q (.ref C) (some d) (upd (del H2 a) d (.xd fs))) (fun _ _ _ => False) := by
  refine ⟨(show 2 ≤ 1000 by decide), fun a ha => ⟨a, .str n, .int v, rfl, upd_same, fun dx hdx hne => ⟨rfl, dx, bnf (.str n) (.int v), ?_, upd_same, ?_, ?_⟩⟩⟩
  · rw [upd_ne (Ne.symm hne), upd_same]
  · rw [upd_ne hne] at hdx
    exact hdx
  · rw [upd_ne hne] at hdx
    refine k dx _ (fun b o e => ?_) hdx upd_same
    have h1 : b ≠ a := ne_of_none e ha
    have h2 : b ≠ dx := ne_of_none e hdx
    rw [upd_ne h2, del_ne h1, upd_ne h2, upd_ne h1, upd_ne h2, upd_ne h1]
    exact e
end Fl

set_option Elab.async false
set_option linter.all false
set_option maxRecDepth 100000
set_option maxHeartbeats 4000000
namespace Fl
/-! ### the sum of the whole parts of (a i + b) / m, i below n -/
def fs (m a b : Nat) : Nat → Nat
  | 0 => 0
  | n + 1 => fs m a b n + (a * n + b) / m
theorem tri_succ (n : Nat) : (n + 1) * n / 2 = n * (n - 1) / 2 + n := by
  cases n with
  | zero => rfl
  | succ k =>
    have e : (k + 1 + 1) * (k + 1) = (k + 1) * (k + 1 - 1) + 2 * (k + 1) := by
      rw [Nat.add_sub_cancel, show k + 1 + 1 = k + 2 from rfl, Nat.add_mul, Nat.mul_comm k (k + 1)]
    rw [e, Nat.add_mul_div_left _ _ (by decide)]
theorem fs_split {m : Nat} (hm : 0 < m) (a b : Nat) : ∀ n : Nat, fs m a b n = n * (n - 1) / 2 * (a / m) + n * (b / m) + fs m (a % m) (b % m) n
  | 0 => by simp [fs]
  | n + 1 => by
    have ih := fs_split hm a b n
    have e : (a * n + b) / m = n * (a / m) + b / m + ((a % m) * n + b % m) / m := by
      have e1 : a * n + b = (a % m * n + b % m) + m * (n * (a / m) + b / m) := by
        have h1 := Nat.mod_add_div a m
        have h2 := Nat.mod_add_div b m
        calc a * n + b = (a % m + m * (a / m)) * n + (b % m + m * (b / m)) := by rw [h1, h2]
          _ = (a % m * n + b % m) + m * (n * (a / m) + b / m) := by
            rw [Nat.add_mul, Nat.mul_add, Nat.mul_assoc, Nat.mul_comm (a / m) n]
            omega
      rw [e1, Nat.add_mul_div_left _ _ hm]
      omega
    show fs m a b n + (a * n + b) / m = (n + 1) * (n + 1 - 1) / 2 * (a / m) + (n + 1) * (b / m) + (fs m (a % m) (b % m) n + (a % m * n + b % m) / m)
    rw [Nat.add_sub_cancel, tri_succ, ih, e, Nat.add_mul, Nat.add_mul]
    omega
theorem fs_up {a m r : Nat} (ha : 0 < a) : ∀ k : Nat, fs a m (r + a) k = fs a m r k + k
  | 0 => rfl
  | k + 1 => by
    have ih := fs_up (m := m) (r := r) ha k
    show fs a m (r + a) k + (m * k + (r + a)) / a = fs a m r k + (m * k + r) / a + (k + 1)
    rw [ih, ← Nat.add_assoc, Nat.add_div_right _ ha]
    omega
theorem fs_shift {a m r : Nat} : ∀ k : Nat, fs a m r (k + 1) = r / a + fs a m (r + m) k
  | 0 => by
    show 0 + (m * 0 + r) / a = r / a + 0
    rw [Nat.mul_zero, Nat.zero_add, Nat.zero_add, Nat.add_zero]
  | k + 1 => by
    have ih := fs_shift (a := a) (m := m) (r := r) k
    show fs a m r (k + 1) + (m * (k + 1) + r) / a = r / a + (fs a m (r + m) k + (m * k + (r + m)) / a)
    rw [ih, Nat.mul_add, Nat.mul_one, Nat.add_assoc (m * k), Nat.add_comm m r]
    omega
theorem fs_swap {m a b : Nat} (ham : a < m) (hbm : b < m) (ha : 0 < a) : ∀ n : Nat, fs m a b n = fs a m ((a * n + b) % m) ((a * n + b) / m)
  | 0 => by
    have e : (a * 0 + b) / m = 0 := by
      rw [Nat.mul_zero, Nat.zero_add]
      exact Nat.div_eq_of_lt hbm
    rw [e]
    rfl
  | n + 1 => by
    have hm : 0 < m := by omega
    have ih := fs_swap ham hbm ha n
    show fs m a b n + (a * n + b) / m = _
    rw [ih]
    have hr := Nat.mod_lt (a * n + b) hm
    have hd := Nat.mod_add_div (a * n + b) m
    generalize hR : (a * n + b) % m = r at *
    generalize hK : (a * n + b) / m = K at *
    have e : a * (n + 1) + b = m * K + (r + a) := by
      rw [Nat.mul_add, Nat.mul_one]
      omega
    rw [e, Nat.mul_add_mod, Nat.mul_add_div hm]
    by_cases hc : r + a < m
    · rw [Nat.mod_eq_of_lt hc, Nat.div_eq_of_lt hc, Nat.add_zero, fs_up ha]
    · have h1 : (r + a) / m = 1 := by
        rw [Nat.div_eq_sub_div hm (by omega), Nat.div_eq_of_lt (by omega)]
      have h2 : (r + a) % m = r + a - m := by
        rw [Nat.mod_eq_sub_mod (by omega), Nat.mod_eq_of_lt (by omega)]
      rw [h1, h2, fs_shift, Nat.div_eq_of_lt (by omega : r + a - m < a), show r + a - m + m = r + a by omega, fs_up ha]
      omega
theorem fs_zero {m b : Nat} (hbm : b < m) : ∀ n : Nat, fs m 0 b n = 0
  | 0 => rfl
  | n + 1 => by
    show fs m 0 b n + (0 * n + b) / m = 0
    rw [fs_zero hbm n, Nat.zero_mul, Nat.zero_add, Nat.zero_add, Nat.div_eq_of_lt hbm]
/-- one turn of Euclid's rule -/
theorem fs_turn {m : Nat} (hm : 0 < m) (a b n : Nat) : fs m a b n = n * (n - 1) / 2 * (a / m) + n * (b / m) + fs (a % m) m ((a % m * n + b % m) % m) ((a % m * n + b % m) / m) := by
  rw [fs_split hm]
  have h1 := Nat.mod_lt a hm
  have h2 := Nat.mod_lt b hm
  by_cases h0 : a % m = 0
  · rw [h0, Nat.zero_mul, Nat.zero_add, fs_zero h2, Nat.div_eq_of_lt h2]
    rfl
  · rw [fs_swap h1 h2 (by omega)]
theorem fs_tot {n m a b tot : Nat} (hn : 0 < n) : (tot : Int) + (n : Int) * ((n : Int) - 1) / 2 * ((a : Int) / (m : Int)) + (n : Int) * ((b : Int) / (m : Int)) = ((tot + n * (n - 1) / 2 * (a / m) + n * (b / m) : Nat) : Int) := by
  have e : (n : Int) - 1 = ((n - 1 : Nat) : Int) := by omega
  rw [e]
  simp only [Int.natCast_add, Int.natCast_mul, Int.natCast_ediv]
  rfl
theorem fs_many_le {n m a b : Nat} (hm : 0 < m) (hn : 0 < n) : (a % m * n + b % m) / m ≤ n := by
  have h1 := Nat.mod_lt a hm
  have h2 := Nat.mod_lt b hm
  have h3 : a % m * n ≤ (m - 1) * n := Nat.mul_le_mul_right n (by omega)
  have h4 : (m - 1) * n = m * n - n := by rw [Nat.sub_mul, Nat.one_mul]
  have h5 : n ≤ m * n := Nat.le_mul_of_pos_left n hm
  refine Nat.le_of_lt_succ (Nat.div_lt_of_lt_mul ?_)
  rw [Nat.mul_succ]
  omega
end Fl

set_option Elab.async false
set_option linter.all false
set_option maxRecDepth 100000
set_option maxHeartbeats 4000000
namespace Fl
open PySem PySem.Spec PyProof.Rows L2
/-! ### several except clauses, each with a name -/
abbrev Suites := List (Value × Nat × (Addr → Value → Option Addr → TS))
inductive ClsOk (X : Cx) : List ExceptHandler → Suites → Prop
  | nil : ClsOk X [] []
  | cons {x n : Str} {c : Value} {i : Nat} {ts : Addr → Value → Option Addr → TS} {b : Stmt} {su : List Stmt} {p q : Pos} {hs : List ExceptHandler} {l : Suites} (at_ : X.N[i]? = some n) (lo : X.env.kindOf n = some .local) (nm : Names X x c)
      (go : ∀ (a : Addr) (o : Obj) (cls : Value) (d : Option Addr) (pn : List (Addr × Obj)), Zc cls d o → (∃ vs, o.data = .fields vs) → PSs (X.suite a ((a, o) :: pn)) (b :: su) (ts a cls d)) (r : ClsOk X hs l) : ClsOk X (.ExceptHandler (some (.Name x p)) (some n) (b :: su) q :: hs) ((c, i, ts) :: l)
def wCls (K : PySem.W.Frag) (Wo : WX) (D : Ends) : Suites → WX
  | [] => Wo
  | (c, i, ts) :: r => wAs K c i ts (wCls K Wo D r) D
theorem ps_try_cls {X : Cx} {body : List Stmt} {h : ExceptHandler} {hds : List ExceptHandler} {l : Suites} {pos : Pos} {tb : WX → TS} {Wo : WX} (hs : X.stack = X.env :: X.outer) (hf : X.env.frame = some X.env.locals) (nd : X.N.Nodup) (tk : Takes X Wo)
    (hb : ∀ (W : WX) (pn : List (Addr × Obj)) (xe : Value → Shared → Prop), Takes (X.tr pn xe) W → PassesOwn (model X.prog X.w) X.A X.env xe → PSs (X.tr pn xe) body (tb W)) (hh : ClsOk X (h :: hds) l) :
    PS X (.Try body (h :: hds) [] [] pos) (fun D σ H => tb (wCls X.K Wo D l) D σ H) := by
  refine ⟨fun pins s σ H D I hw => ?_⟩
  have ok := I.ok
  have fr1 : X.A.frames = some (X.env :: X.outer) := ok.frames.trans (by rw [hs])
  refine wpAny_Try_except (wpAny_mono ((hb (wCls X.K Wo D l) (X.pn ++ pins) (fun e t₁ => wpAny (model X.prog X.w) X.A (noteFrame e X.env) (fun _ t₂ => wpAny (model X.prog X.w) X.A (setFlight e none) (fun _ t₃ => wpAny (model X.prog X.w) X.A (handleBy e X.env (h :: hds)) (SP X pins D) X.xe t₃) X.xe t₂) X.xe t₁) (fun u s' xx => ?_) PassesOwn.looking).run [] s σ H D (I.toTry _) hw) (fun f s1 hsp => ?_) (fun e s1 he => he))
  · obtain ⟨a, B, sI, _, σ', H', cls, d, rfl, J0, nb, up, sk0, na, os, ag, wish⟩ := xx
    have J : Inv X pins σ' H' sI := J0.ofTry ok
    have sk1 : Sky B (X.env :: X.outer) a (Zc cls d) X.env.locals s'.heap := by rw [← hs]; exact sk0
    show wpAny (model X.prog X.w) X.A (noteFrame (.ref a) X.env) _ _ _
    refine Sky.land Zc.steady fr1 hf sk1 fun g3 f3 u3 => ?_
    have Jn : Inv X pins σ' H' { s' with heap := g3 } := J.landed nb f3.1 (up.trans u3) os ag
    obtain ⟨o3, vs3, ho3, hz3, hd3⟩ := f3.there
    have far : a ∉ frs (X.env :: X.outer) := fun m => by
      obtain ⟨_, o', e', bad⟩ := f3.2.2.1.mem m
      cases ho3.symm.trans e'
      exact bad _ hd3
    have nL : a ≠ X.env.locals := fun z => far (List.mem_filterMap.mpr ⟨X.env, List.mem_cons_self, by rw [hf, z]⟩)
    have nF : a ∉ X.fs := fun m => by
      obtain ⟨e, me, q⟩ := List.mem_filterMap.mp m
      exact far (List.mem_filterMap.mpr ⟨e, List.mem_cons_of_mem _ me, q⟩)
    have Sn := Jn.suite ho3 hd3 na nL nF
    have each : ∀ {gs : List ExceptHandler} {m : Suites}, ClsOk X gs m → wCls X.K Wo D m cls d σ' H' → wpAny (model X.prog X.w) X.A (handleBy (.ref a) X.env gs) (SP X pins D) X.xe { s' with heap := g3 } := by
      intro gs m hk
      induction hk with
      | nil =>
        intro w0
        refine wpAny_handleBy_nil ?_
        obtain ⟨_, _, _, oe, vs, T, oT, ts', he, hz, hd, h1, hr⟩ := id f3
        have fin : wpAny (model X.prog X.w) X.A (setFlight (.ref a) X.env.frame) (fun _ s4 => wpAny (model X.prog X.w) X.A (throw (.ref a) : Sem Flow) (SP X pins D) X.xe s4) X.xe { s' with heap := g3 } := by
          rw [hf]
          exact HandSPX.setFlight_upZ f3 fun h4 hh4 up4 => wpAny_throw (tk _ _ ⟨a, B, sI, pins, σ', H', cls, d, rfl, J, nb, (up.trans u3).trans up4, .inr (.inr (by rw [hs]; exact hh4)), na, os, ag, w0⟩)
        unfold PySem.passOn
        refine wpAny_bind (wpAny_field he hd h1 ?_)
        rw [if_neg (by simp : ¬ ((Value.ref T == Value.none) = true))]
        first | exact wpAny_bind (wpAny_pure (wpAny_bind fin)) | exact wpAny_bind fin
      | @cons x n c i ts b su p q hs' l' at_ lo nm go r ih =>
        rintro ⟨k, hk1, yes, no⟩
        refine wpAny_handleBy_cons (codeAny_handlers_test ?_) nofun
        have LM := PySem.W.exm_one (M := model X.prog X.w) Jn.kIn (fun A Q E s k q => wpAny_typeOf_ref (k _ _ ho3) (by rw [hz3.1]; exact q)) hk1
        have asked : ∀ {Q E : Value → Shared → Prop}, Q c { s' with heap := g3 } → wpAny (model X.prog X.w) (X.A.mark (some (.ref a))) (eval (.Name x p) X.env) Q E { s' with heap := g3 } := fun {Q E} y => by
          obtain ⟨g, db, hm | ⟨hm, hv, hn⟩⟩ := nm
          · exact ld_glob (X := X.suite a ((a, o3) :: (X.pn ++ pins))) Sn g hm y db
          · exact ld_blt (X := X.suite a ((a, o3) :: (X.pn ++ pins))) Sn g hm hv y hn db
        refine asked (LM.here ?_)
        cases k with
        | false => exact ih (no rfl)
        | true =>
          refine codeAny_handlers_suite_as (HandSPX.lands_againZ f3 fun g4 f4 u4 => ?_)
          have J4 : Inv X pins σ' H' { s' with heap := g4 } := J.landed nb f4.1 ((up.trans u3).trans u4) os ag
          obtain ⟨o4, vs4, ho4, hz4, hd4⟩ := f4.there
          have S4 := J4.suite ho4 hd4 na nL nF
          refine store_ok (X := X.suite a ((a, o4) :: (X.pn ++ pins))) (v := .ref a) S4 nd at_ (.inl lo) rfl (fun s5 S5 => ?_) (.inr lo)
          refine wpAny_mono ((go a o4 cls d (X.pn ++ pins) hz4 ⟨_, hd4⟩).run [] s5 _ H' _ S5 (yes rfl a na)) (fun f s6 z6 => ?_) (fun _ _ z => z.elim)
          have gone : ∀ {σ6 : L2.St} {H6 : Hp} {Q : Shared → Prop}, Inv (X.suite a ((a, o4) :: (X.pn ++ pins))) [] σ6 H6 s6 → (∀ s7, Inv X pins (σ6.set i none) H6 s7 → Q s7) → wpAny (model X.prog X.w) X.A (do bindName X.env n .none; unbindBehindTheSuite X.env n q) (fun _ s7 => Q s7) X.xe s6 := fun {σ6 H6 Q} S6 y => gone_ok (S6.unsuite ok) nd at_ lo y
          cases f with
          | ret u =>
            obtain ⟨v6, σ6, H6, S6, r6, q6⟩ := z6
            exact gone S6 fun s7 J7 => ⟨_, _, _, J7, r6, q6⟩
          | next => obtain ⟨σ6, H6, S6, q6⟩ := z6; exact gone S6 fun s7 J7 => ⟨_, _, J7, q6⟩
          | brk => obtain ⟨σ6, H6, S6, q6⟩ := z6; exact gone S6 fun s7 J7 => ⟨_, _, J7, q6⟩
          | cont => obtain ⟨σ6, H6, S6, q6⟩ := z6; exact gone S6 fun s7 J7 => ⟨_, _, J7, q6⟩
    exact each hh wish
  · cases f with
    | ret u => obtain ⟨v, σ', H', J', r, q⟩ := hsp; exact ⟨v, σ', H', J'.ofTry ok, r, q⟩
    | next => obtain ⟨σ', H', J', q⟩ := hsp; exact wpAny_execs_nil ⟨σ', H', J'.ofTry ok, q⟩
    | brk => obtain ⟨σ', H', J', q⟩ := hsp; exact ⟨σ', H', J'.ofTry ok, q⟩
    | cont => obtain ⟨σ', H', J', q⟩ := hsp; exact ⟨σ', H', J'.ofTry ok, q⟩
end Fl

set_option Elab.async false
set_option linter.all false
set_option maxRecDepth 100000
set_option maxHeartbeats 4000000
namespace Bx
open PySem PySem.Spec PyProof.Rows L2 Fl
theorem int_add_own (a : Int) (t : Tok) (x C dx : Addr) : Meets (Builtin.«int.__add__» ⟨[.int a t, .ref x], []⟩) (fun _ R s => s.heap.get? x = some (PySem.W.instObj C dx) ∧ R (.ok (.ret Value.notImplemented)) s) :=
  .of_wp fun prog w A R s h => by obtain ⟨hp, g, d, tk, os⟩ := s; obtain ⟨hl, h⟩ := h; unfold PySem.W.instObj at hl; wp_walk; exact ⟨_, rfl, h⟩
theorem int_sub_own (a : Int) (t : Tok) (x C dx : Addr) : Meets (Builtin.«int.__sub__» ⟨[.int a t, .ref x], []⟩) (fun _ R s => s.heap.get? x = some (PySem.W.instObj C dx) ∧ R (.ok (.ret Value.notImplemented)) s) :=
  .of_wp fun prog w A R s h => by obtain ⟨hp, g, d, tk, os⟩ := s; obtain ⟨hl, h⟩ := h; unfold PySem.W.instObj at hl; wp_walk; exact ⟨_, rfl, h⟩
theorem int_mul_own (a : Int) (t : Tok) (x C dx : Addr) : Meets (Builtin.«int.__mul__» ⟨[.int a t, .ref x], []⟩) (fun _ R s => s.heap.get? x = some (PySem.W.instObj C dx) ∧ R (.ok (.ret Value.notImplemented)) s) :=
  .of_wp fun prog w A R s h => by obtain ⟨hp, g, d, tk, os⟩ := s; obtain ⟨hl, h⟩ := h; unfold PySem.W.instObj at hl; wp_walk; exact ⟨_, rfl, h⟩
section
open PySem.W PySem.Calls
variable {prog : Program} {w : World} {A : Around} {E : Value → Shared → Prop} {s : Shared} {K : Frag} {x C L f g dx : Addr} {h₀ : Heap} {m : Str → Option Value} {od : Option Obj}
theorem bin_refl {op : Operator} {n : Int} {t : Tok} {id : String} {B : Builtin} {Q : Value → Shared → Prop} (F : Fr h₀ L s.heap m) (X₀ : K.In h₀) (I : PySem.W.InstAt s.heap x (PySem.W.instObj C dx) C od) (hc : selfFirst K C = true)
    (hs : findIn K (.ref C) (PySem.dunder op.info.2) = some (some (.ref f))) (hr : findIn K (.ref C) (dunderR op.info.2) = some (some (.ref g))) (hg : isFn K (.ref g) = true)
    (hsub : subIn K (.ref C) (.type "int") = some false) (fills : fillsNumberSlot (.type "int") op.info.2 = pure true) (slot : Slot "int" (PySem.dunder op.info.2) id) (entry : entryFor table id = some B) (args : argsOk id ⟨[.int n t, .ref x], []⟩)
    (mt : Meets (B ⟨[.int n t, .ref x], []⟩) (fun _ R s => s.heap.get? x = some (PySem.W.instObj C dx) ∧ R (.ok (.ret Value.notImplemented)) s))
    (h : wpAny (model prog w) A (call (.ref g) [.ref x, .int n t]) (PySem.W.CmpBack Q) E s) : wpAny (model prog w) A (binaryOp op (.int n t) (.ref x)) Q E s := by
  have X := X₀.keeps F.keep
  obtain ⟨cd, rest, hcd, hm⟩ := ksp_first hc
  rcases hi : op.info with ⟨sym, nm'⟩
  rw [hi] at hs hr fills slot
  dsimp only at hs hr fills slot
  have one := ksp_try X I hr hg h
  simp only [binaryOp, hi]
  refine wpAny_holding (wpAny_bind ?_)
  simp only [binaryOp1]
  refine wpAny_bind (wpAny_typeOf (typeIs_int s n t) (wpAny_bind (I.type.here (wpAny_bind (wpAny_of_eq fills ?_)))))
  have hne : (Value.type "int" == Value.ref C) = false := Bool.eq_false_iff.mpr fun q => by cases beq_iff_eq.mp q
  simp only [hne, Bool.false_eq_true, if_false]
  refine wpAny_bind ((fills_K X hcd hm hs).here ?_)
  simp only [Bool.and_self, if_true]
  refine wpAny_bind ((looks_subIn X hsub).here ?_)
  have hpy : numberSlotInPython (.type "int") nm' = pure false := rfl
  simp only [Bool.false_eq_true, if_false, pure_bind, Bool.not_false, Bool.and_self, if_true, hpy]
  refine wpAny_bind (wpAny_tryMethod_declines (typeIs_int s n t) slot (call_meets slot (typeIs_int s n t) entry args mt ⟨I.at_, ?_⟩))
  refine ⟨rfl, ?_⟩
  refine wpAny_bind (wpAny_mono one (fun r s' hr' => ?_) fun _ _ e => e)
  obtain ⟨v, rfl, hq⟩ := hr'
  exact wpAny_bind (wpAny_rule (wpAny_pure (wpAny_pure hq)))
end

section
open PySem.W PySem.Calls
variable {prog : Program} {w : World} {A : Around} {E : Value → Shared → Prop} {s : Shared} {K : Frag} {x C f : Addr} {ox : Obj} {od : Option Obj}
theorem call_abs_own {Q : Value → Shared → Prop} (X : K.In s.heap) (I : PySem.W.InstAt s.heap x ox C od) (hs : findIn K (.ref C) "__abs__" = some (some (.ref f))) (hf : isFn K (.ref f) = true)
    (h : wpAny (model prog w) A.in1 (call (.ref f) [.ref x]) Q E s) : wpAny (model prog w) A (call (.builtin "abs") [.ref x]) Q E s := by
  refine call_function_entry kind_abs plain_abs entry_abs (args_abs _) ?_
  unfold Builtin.«abs»
  refine wpAny_bind (wpAny_pure ?_)
  refine wpAny_bind (m := callSpecial? (.ref x) (Str.ofString "__abs__")) (special_fn X I hs (beq_iff_eq.mp hf) (wpAny_mono h (fun v s' hv => ?_) fun _ _ z => ?_))
  · exact wpAny_pure ⟨_, rfl, hv⟩
  · exact z
end
section
/-- the def that an operator's special name of the class C finds -/
structure OpOwn (P : Program) (w : World) (K : PySem.W.Frag) (mg : Str → Option Value) (base : Heap) (k : Nat) (C : Addr) (nm : Str) (ps : List Str) (sp : Sp) : Prop where
  ex : ∃ (f : Addr) (fd : FuncData), PySem.W.findIn K (.ref C) nm = some (some (.ref f)) ∧ PySem.W.isFn K (.ref f) = true ∧ FnOk P w K mg base CX0 k f fd ps sp ∧ Binds K fd ps []
def oR (Q : VK) : VK := fun v H2 => ∃ z, v = .ref z ∧ Q (.ref z) H2
def rOO (C : Addr) (sp : Sp) : R2 := fun x y H Q => ∃ (a dx : Addr) (gs : List (Str × V)) (b dy : Addr) (hs : List (Str × V)), x = .ref a ∧ H a = some (.ins C dx gs) ∧ y = .ref b ∧ H b = some (.ins C dy hs) ∧ sp [.ref a, .ref b] H (oR Q) E0
def rOI (C : Addr) (sp : Sp) : R2 := fun x y H Q => ∃ (a dx : Addr) (gs : List (Str × V)) (n : Int), x = .ref a ∧ H a = some (.ins C dx gs) ∧ y = .int n ∧ sp [.ref a, .int n] H (oR Q) E0
def rIO (C : Addr) (sp : Sp) : R2 := fun x y H Q => ∃ (a dx : Addr) (gs : List (Str × V)) (n : Int), y = .ref a ∧ H a = some (.ins C dx gs) ∧ x = .int n ∧ sp [.ref a, .int n] H (oR Q) E0
variable {X : Cx} {k : Nat} {C : Addr} {ps : List Str} {sp : Sp} {op : Operator}
theorem op_oo (M : OpOwn X.prog X.w X.K X.mg X.base k C (PySem.dunder op.info.2) ps sp) (hc : PySem.W.selfFirst X.K C = true) (hr : Room k X.A) : OpR X (binaryOp op) (rOO C sp) := by
  obtain ⟨f, fd, hs, hf, F, b⟩ := M.ex
  intro pins s σ H x y v u Q I rx ry h
  obtain ⟨a, dx, gs, b', dy, gs', rfl, ea, rfl, eb, q⟩ := h
  cases rx
  cases ry
  obtain ⟨mA, J, _⟩ := ins_get I.hok ea
  obtain ⟨od, J, _⟩ := J.look
  obtain ⟨mB, J', _⟩ := ins_get I.hok eb
  obtain ⟨od', J', _⟩ := J'.look
  obtain ⟨m, hF⟩ := I.fr
  refine PySem.W.binop_K hF I.ok.mod.kin J J'.type hc hs hf (wpAny_mono (run_fn F hr b (dvs := []) .nil pass0 I (.cons (show RelV (.ref a) (.ref a) from rfl) (.cons (show RelV (.ref b') (.ref b') from rfl) .nil)) q) (fun r s' hr => ?_) fun _ _ z => z)
  obtain ⟨z, H2, I2, rz, c, rfl, q2⟩ := hr
  cases rz
  exact ⟨V.ref c, H2, I2, rfl, q2⟩
theorem op_oi {rc : Option Value} {fo ro : Option Value} (M : OpOwn X.prog X.w X.K X.mg X.base k C (PySem.dunder op.info.2) ps sp) (hc : PySem.W.selfFirst X.K C = true) (hR : PySem.W.findIn X.K (.ref C) (dunderR op.info.2) = some rc) (hp : rc = none ∨ ∃ g : Addr, rc = some (.ref g))
    (h1 : PySem.W.findIn X.K (.type "int") (PySem.dunder op.info.2) = some fo) (h2 : PySem.W.findIn X.K (.type "int") (dunderR op.info.2) = some ro) (hsub : PySem.W.subIn X.K (.type "int") (.ref C) = some false) (hr : Room k X.A) : OpR X (binaryOp op) (rOI C sp) := by
  obtain ⟨f, fd, hs, hf, F, b⟩ := M.ex
  intro pins s σ H x y v u Q I rx ry h
  obtain ⟨a, dx, gs, n, rfl, ea, rfl, q⟩ := h
  cases rx
  obtain ⟨t, rfl⟩ := ry
  obtain ⟨mA, J, _⟩ := ins_get I.hok ea
  obtain ⟨od, J, _⟩ := J.look
  obtain ⟨m, hF⟩ := I.fr
  refine PySem.W.ksp_binT hF I.ok.mod.kin J (T := "int") rfl hc hs hf hR hp h1 h2 hsub (wpAny_mono (run_fn F hr b (dvs := []) .nil pass0 I (.cons (show RelV (.ref a) (.ref a) from rfl) (.cons (show RelV (.int n) (.int n t) from ⟨_, rfl⟩) .nil)) q) (fun r s' hr => ?_) fun _ _ z => z)
  obtain ⟨z, H2, I2, rz, c, rfl, q2⟩ := hr
  cases rz
  exact ⟨V.ref c, H2, I2, rfl, q2⟩
theorem op_io {f0 : Addr} {id : String} {B : Builtin} (M : OpOwn X.prog X.w X.K X.mg X.base k C (dunderR op.info.2) ps sp) (hc : PySem.W.selfFirst X.K C = true) (hs0 : PySem.W.findIn X.K (.ref C) (PySem.dunder op.info.2) = some (some (.ref f0))) (hsub : PySem.W.subIn X.K (.ref C) (.type "int") = some false)
    (fills : fillsNumberSlot (.type "int") op.info.2 = pure true) (slot : Slot "int" (PySem.dunder op.info.2) id) (entry : entryFor table id = some B) (args : ∀ a b, argsOk id ⟨[a, b], []⟩)
    (mt : ∀ (n : Int) (t : Tok) (x C dx : Addr), Meets (B ⟨[.int n t, .ref x], []⟩) (fun _ R s => s.heap.get? x = some (PySem.W.instObj C dx) ∧ R (.ok (.ret Value.notImplemented)) s)) (hr : Room k X.A) : OpR X (binaryOp op) (rIO C sp) := by
  obtain ⟨f, fd, hs, hf, F, b⟩ := M.ex
  intro pins s σ H x y v u Q I rx ry h
  obtain ⟨a, dx, gs, n, rfl, ea, rfl, q⟩ := h
  cases ry
  obtain ⟨t, rfl⟩ := rx
  obtain ⟨mA, J, _⟩ := ins_get I.hok ea
  obtain ⟨od, J, _⟩ := J.look
  obtain ⟨m, hF⟩ := I.fr
  refine bin_refl hF I.ok.mod.kin J hc hs0 hs hf hsub fills slot entry (args _ _) (mt n t a C dx) (wpAny_mono (run_fn F hr b (dvs := []) .nil pass0 I (.cons (show RelV (.ref a) (.ref a) from rfl) (.cons (show RelV (.int n) (.int n t) from ⟨_, rfl⟩) .nil)) q) (fun r s' hr => ?_) fun _ _ z => z)
  obtain ⟨z, H2, I2, rz, c, rfl, q2⟩ := hr
  cases rz
  exact ⟨V.ref c, H2, I2, rfl, q2⟩
def rNegO (C : Addr) (sp : Sp) : V → Hp → VK → Prop := fun x H Q => ∃ (a dx : Addr) (gs : List (Str × V)), x = .ref a ∧ H a = some (.ins C dx gs) ∧ sp [.ref a] H Q E0
theorem un_negO (M : OpOwn X.prog X.w X.K X.mg X.base k C "__neg__" ps sp) (hr : Room k X.A) : UnR X (unaryOp .USub) (rNegO C sp) := by
  obtain ⟨f, fd, hs, hf, F, b⟩ := M.ex
  intro pins s σ H x v Q I rx h
  obtain ⟨a, dx, gs, rfl, ea, q⟩ := h
  cases rx
  obtain ⟨mA, J, _⟩ := ins_get I.hok ea
  obtain ⟨od, J, _⟩ := J.look
  obtain ⟨m, hF⟩ := I.fr
  exact PySem.W.ksp_neg hF I.ok.mod.kin J hs hf (run_fn F hr b (dvs := []) .nil pass0 I (.cons (show RelV (.ref a) (.ref a) from rfl) .nil) q)
def rAbsO (C : Addr) (sp : Sp) : List V → Hp → VK → Prop := fun xs H Q => ∃ (a dx : Addr) (gs : List (Str × V)), xs = [.ref a] ∧ H a = some (.ins C dx gs) ∧ sp [.ref a] H Q E0
theorem call_absO (M : OpOwn X.prog X.w X.K X.mg X.base k C "__abs__" ps sp) (hr : Room (k + 1) X.A) : CallR X (.builtin "abs") (rAbsO C sp) := by
  obtain ⟨f, fd, hs, hf, F, b⟩ := M.ex
  intro pins s σ H xs us Q I r h
  obtain ⟨a, dx, gs, rfl, ea, q⟩ := h
  obtain ⟨u, rfl, rx⟩ := vals1 r
  cases rx
  obtain ⟨mA, J, _⟩ := ins_get I.hok ea
  obtain ⟨od, J, _⟩ := J.look
  have hl := F.len _ _ _ _ q
  have r2 : Vals [V.ref a] [Value.ref a] := .cons (show RelV (.ref a) (.ref a) from rfl) .nil
  have bb := b s [.ref a] I.kIn (by simpa using hl)
  rw [List.append_nil] at bb
  refine call_abs_own I.kIn J hs hf (wpAny_call (codeAny_mono (F.run X.A.in1 X.stack s H ⟨[.ref a], []⟩ [.ref a] [.ref a] Q E0 hr.in1 I.env0.in1 bb r2 q) fun r s' hq => ?_))
  cases r with
  | error e => exact (pass0 pins σ H s e s' I hq)
  | ok fl =>
    cases fl with
    | ret z => exact I.after hq
    | next => exact False.elim hq
    | brk => exact False.elim hq
    | cont => exact False.elim hq
end
end Bx

set_option Elab.async false
set_option linter.all false
set_option maxRecDepth 100000
set_option maxHeartbeats 4000000
namespace Bx
open PySem PySem.Spec PyProof.Rows L2 Fl
section
/-- a def of the class that may raise what its spec says -/
structure OwnX (P : Program) (w : World) (K : PySem.W.Frag) (mg : Str → Option Value) (base : Heap) (k : Nat) (C : Addr) (nm : Str) (ps : List Str) (sp : Sp) : Prop where
  ex : ∃ (f : Addr) (fd : FuncData), PySem.W.findIn K (.ref C) nm = some (some (.ref f)) ∧ PySem.W.isFn K (.ref f) = true ∧ PySem.W.keepIn K (.ref f) = true ∧ FnOk P w K mg base (L2.CX P w) k f fd ps sp ∧ Binds K fd ps []
variable {X : Cx} {k : Nat} {C : Addr} {ps : List Str} {sp : Sp} {op : Operator} {E : L2.St → XK}
def tMethX (C : Addr) (m : Str) (sp : Sp) (E : L2.St → XK) (ta : TE) (t : TA) : TE := fun σ H Q => ta σ H fun x H1 => ∃ a dx fs, x = .ref a ∧ H1 a = some (.ins C dx fs) ∧ fs.lookup m = none ∧ t σ H1 fun vs H2 => sp (x :: vs) H2 Q (E σ)
theorem pe_methX {pl : Sem Bool} {m : Str} {o e : Expr} {es : List Expr} {apos pos : Pos} {ta : TE} {t : TA} (M : OwnX X.prog X.w X.K X.mg X.base k C m ps sp) (c : Cls X.K C) (hx : ∀ σ, PassesAt (L2.CX X.prog X.w) X σ (E σ)) (hr : Room k X.A) (he : PE X o ta) (ha : PA X (e :: es) t)
    (hst : starEach (e :: es) X.env = (false, eval e X.env) :: starEach es X.env := by rfl) (hpl : (backTo pos (starEach es X.env)).any (·.1) = false := by rfl)
    (ht : eval (.Call (.Attribute o m apos) (e :: es) [] pos) X.env = (do
      let ov ← eval o X.env
      standAt apos.atName
      let (f, first) ← holding [ov] (getMethod ov m pl)
      callWith pos f first (backTo pos (starEach (e :: es) X.env)) (backToKw pos (keywordEach [] X.env))) := by rfl) :
    PE X (.Call (.Attribute o m apos) (e :: es) [] pos) (tMethX C m sp E ta t) := by
  obtain ⟨f, fd, h1, h2, h3, F, b⟩ := M.ex
  refine ⟨fun pins s σ H Q I h => ?_⟩
  refine PySem.W.methodCall_KW (pl := pl) (thn (he.run pins s σ H _ I h) fun u s1 ⟨x, H1, I1, rx, a, dx, fs, ex, ea, l, q⟩ => ?_) ht
  subst ex
  obtain rfl : u = Value.ref a := rx
  refine getmeth_ok I1 ea c ⟨h1, h2, h3⟩ l ?_
  refine PySem.W.callWith_K (first := [.ref a]) (h₀ := X.base) I.ok.mod.kin h3 (thn (ha.run pos pins s1 σ H1 _ I1 q) fun us s2 ⟨vs, H2, I2, r, q2⟩ => ⟨I2.kIn, ?_⟩) hst hpl
  exact run_fnS (us := .ref a :: us) (vs := .ref a :: vs) (E := E) F hr b (hx σ) I2 (.cons rfl r) q2
/-- what comes back: a reference or a whole number -/
def oA (Q : VK) : VK := fun v H2 => ((∃ z, v = .ref z) ∨ ∃ i, v = .int i) ∧ Q v H2
def rOwnX (C : Addr) (sp : Sp) (E : L2.St → XK) : L2.St → R2 := fun σ x y H Q => ∃ (a dx : Addr) (gs : List (Str × V)), x = .ref a ∧ H a = some (.ins C dx gs) ∧ ((∃ (b dy : Addr) (hs : List (Str × V)), y = .ref b ∧ H b = some (.ins C dy hs)) ∨ ∃ n : Int, y = .int n) ∧ sp [x, y] H (oA Q) (E σ)
def tOpS (R : L2.St → R2) (ta tb : TE) : TE := fun σ H Q => ta σ H fun x H1 => tb σ H1 fun y H2 => R σ x y H2 Q
theorem back {pins : List (Addr × Obj)} {σ : L2.St} {Q : VK} {r : Value} {s' : Shared} (h : EP X pins σ (oA Q) r s') : PySem.W.CmpBack (EP X pins σ Q) r s' := by
  obtain ⟨z, H2, I2, rz, c, q2⟩ := h
  rcases c with ⟨c, rfl⟩ | ⟨i, rfl⟩
  · cases rz
    exact ⟨V.ref c, H2, I2, rfl, q2⟩
  · obtain ⟨t, rfl⟩ := rz
    exact ⟨V.int i, H2, I2, ⟨t, rfl⟩, q2⟩
theorem pe_ownX {rc fo ro : Option Value} {a b : Expr} {ta tb : TE} {pos : Pos} (M : OwnX X.prog X.w X.K X.mg X.base k C (PySem.dunder op.info.2) ps sp) (hx : ∀ σ, PassesAt (L2.CX X.prog X.w) X σ (E σ)) (hc : PySem.W.selfFirst X.K C = true)
    (hR : PySem.W.findIn X.K (.ref C) (dunderR op.info.2) = some rc) (hp : rc = none ∨ ∃ g : Addr, rc = some (.ref g)) (h1 : PySem.W.findIn X.K (.type "int") (PySem.dunder op.info.2) = some fo) (h2 : PySem.W.findIn X.K (.type "int") (dunderR op.info.2) = some ro)
    (hsub : PySem.W.subIn X.K (.type "int") (.ref C) = some false) (hr : Room k X.A) (ha : PE X a ta) (hb : PE X b tb) : PE X (.BinOp a op b pos) (tOpS (rOwnX C sp E) ta tb) := by
  obtain ⟨f, fd, hs, hf, hk, F, bd⟩ := M.ex
  refine ⟨fun pins s σ H Q I h => ?_⟩
  refine wpAny_BinOp (binT ha hb I h fun v u s2 x y H2 I2 rx ry q => ?_)
  obtain ⟨a', dx, gs, rfl, ea, hy, q⟩ := q
  cases rx
  obtain ⟨mA, J, _⟩ := ins_get I2.hok ea
  obtain ⟨od, J, _⟩ := J.look
  obtain ⟨m, hF⟩ := I2.fr
  have run := run_fnS (E := E) F hr bd (hx σ) I2 (.cons (show RelV (.ref a') (.ref a') from rfl) (.cons ry .nil)) q
  rcases hy with ⟨b', dy, gs', rfl, eb⟩ | ⟨n, rfl⟩
  · cases ry
    obtain ⟨mB, J', _⟩ := ins_get I2.hok eb
    obtain ⟨od', J', _⟩ := J'.look
    exact PySem.W.binop_K hF I2.ok.mod.kin J J'.type hc hs hf (wpAny_mono run (fun r s' hr => back hr) fun _ _ z => z)
  · obtain ⟨t, rfl⟩ := ry
    exact PySem.W.ksp_binT hF I2.ok.mod.kin J (T := "int") rfl hc hs hf hR hp h1 h2 hsub (wpAny_mono run (fun r s' hr => back hr) fun _ _ z => z)
theorem op_or {f : Value → Value → Sem Value} {r1 r2 : R2} (h1 : OpR X f r1) (h2 : OpR X f r2) : OpR X f (fun x y H Q => r1 x y H Q ∨ r2 x y H Q) := fun pins s σ H x y v u Q I rx ry h => h.elim (h1 pins s σ H x y v u Q I rx ry) (h2 pins s σ H x y v u Q I rx ry)
end
end Bx

set_option Elab.async false
set_option linter.all false
set_option maxRecDepth 100000
set_option maxHeartbeats 4000000
namespace Bx
open PySem PySem.Spec PyProof.Rows L2 Fl
theorem int_lt_own (a : Int) (t : Tok) (x C dx : Addr) : Meets (Builtin.«int.__lt__» ⟨[.int a t, .ref x], []⟩) (fun _ R s => s.heap.get? x = some (PySem.W.instObj C dx) ∧ R (.ok (.ret Value.notImplemented)) s) :=
  .of_wp fun prog w A R s h => by obtain ⟨hp, g, d, tk, os⟩ := s; obtain ⟨hl, h⟩ := h; unfold PySem.W.instObj at hl; wp_walk; exact ⟨_, rfl, h⟩
theorem int_le_own (a : Int) (t : Tok) (x C dx : Addr) : Meets (Builtin.«int.__le__» ⟨[.int a t, .ref x], []⟩) (fun _ R s => s.heap.get? x = some (PySem.W.instObj C dx) ∧ R (.ok (.ret Value.notImplemented)) s) :=
  .of_wp fun prog w A R s h => by obtain ⟨hp, g, d, tk, os⟩ := s; obtain ⟨hl, h⟩ := h; unfold PySem.W.instObj at hl; wp_walk; exact ⟨_, rfl, h⟩
theorem int_gt_own (a : Int) (t : Tok) (x C dx : Addr) : Meets (Builtin.«int.__gt__» ⟨[.int a t, .ref x], []⟩) (fun _ R s => s.heap.get? x = some (PySem.W.instObj C dx) ∧ R (.ok (.ret Value.notImplemented)) s) :=
  .of_wp fun prog w A R s h => by obtain ⟨hp, g, d, tk, os⟩ := s; obtain ⟨hl, h⟩ := h; unfold PySem.W.instObj at hl; wp_walk; exact ⟨_, rfl, h⟩
theorem int_ge_own (a : Int) (t : Tok) (x C dx : Addr) : Meets (Builtin.«int.__ge__» ⟨[.int a t, .ref x], []⟩) (fun _ R s => s.heap.get? x = some (PySem.W.instObj C dx) ∧ R (.ok (.ret Value.notImplemented)) s) :=
  .of_wp fun prog w A R s h => by obtain ⟨hp, g, d, tk, os⟩ := s; obtain ⟨hl, h⟩ := h; unfold PySem.W.instObj at hl; wp_walk; exact ⟨_, rfl, h⟩
theorem int_eq_own (a : Int) (t : Tok) (x C dx : Addr) : Meets (Builtin.«int.__eq__» ⟨[.int a t, .ref x], []⟩) (fun _ R s => s.heap.get? x = some (PySem.W.instObj C dx) ∧ R (.ok (.ret Value.notImplemented)) s) :=
  .of_wp fun prog w A R s h => by obtain ⟨hp, g, d, tk, os⟩ := s; obtain ⟨hl, h⟩ := h; unfold PySem.W.instObj at hl; wp_walk; exact ⟨_, rfl, h⟩
theorem int_ne_own (a : Int) (t : Tok) (x C dx : Addr) : Meets (Builtin.«int.__ne__» ⟨[.int a t, .ref x], []⟩) (fun _ R s => s.heap.get? x = some (PySem.W.instObj C dx) ∧ R (.ok (.ret Value.notImplemented)) s) :=
  .of_wp fun prog w A R s h => by obtain ⟨hp, g, d, tk, os⟩ := s; obtain ⟨hl, h⟩ := h; unfold PySem.W.instObj at hl; wp_walk; exact ⟨_, rfl, h⟩
section
open PySem.W PySem.Calls
variable {prog : Program} {w : World} {A : Around} {E : Value → Shared → Prop} {s : Shared} {K : Frag} {x C L f g dx : Addr} {h₀ : Heap} {m : Str → Option Value} {od : Option Obj}
theorem cmp_refl {op : CmpOp} {n : Int} {t : Tok} {id : String} {B : Builtin} {Q : Value → Shared → Prop} (hu : A.units < cLine) (F : Fr h₀ L s.heap m) (X₀ : K.In h₀) (I : PySem.W.InstAt s.heap x (PySem.W.instObj C dx) C od)
    (hr : findIn K (.ref C) (cmpInfo op).2.2 = some (some (.ref g))) (hg : isFn K (.ref g) = true)
    (hsub : subIn K (.ref C) (.type "int") = some false) (slot : Slot "int" (cmpInfo op).2.1 id) (entry : entryFor table id = some B) (args : argsOk id ⟨[.int n t, .ref x], []⟩)
    (mt : Meets (B ⟨[.int n t, .ref x], []⟩) (fun _ R s => s.heap.get? x = some (PySem.W.instObj C dx) ∧ R (.ok (.ret Value.notImplemented)) s))
    (h : wpAny (model prog w) A (call (.ref g) [.ref x, .int n t]) (PySem.W.CmpBack Q) E s) : wpAny (model prog w) A (richCompare op (.int n t) (.ref x)) Q E s := by
  have X := X₀.keeps F.keep
  have one : wpAny (model prog w) A (tryCompare (.ref x) (cmpInfo op).2.2 (.int n t)) (fun r s' => ∃ v, r = some v ∧ Q v s') E s := by
    unfold tryCompare
    refine wpAny_bind (ifBound_K X I hr hg (wpAny_mono h (fun v s' hv => ?_) fun _ _ e => e))
    cases v <;> first | exact hv.elim | exact wpAny_pure ⟨_, rfl, hv⟩
  have ot : oneThing? op (.int n t) (.ref x) = none := rfl
  unfold richCompare
  simp only [ot]
  refine wpAny_holding (wpAny_bind (wpAny_cRoomFor hu ?_))
  refine wpAny_bind (wpAny_typeOf (typeIs_int s n t) (wpAny_bind (I.type.here ?_)))
  have hne : (Value.type "int" != Value.ref C) = true := by
    rw [bne_iff_ne]
    intro q
    cases q
  simp only [hne, if_true]
  refine wpAny_bind ((looks_subIn X hsub).here ?_)
  simp only [Bool.false_eq_true, if_false, Bool.not_false, if_true]
  refine wpAny_bind (wpAny_tryCompare_declines (typeIs_int s n t) slot (call_meets slot (typeIs_int s n t) entry args mt ⟨I.at_, ?_⟩))
  refine ⟨rfl, ?_⟩
  refine wpAny_bind (wpAny_mono one (fun r s' hr' => ?_) fun _ _ e => e)
  obtain ⟨v, rfl, hq⟩ := hr'
  exact wpAny_pure hq
end
section
variable {X : Cx} {k : Nat} {C : Addr} {ps : List Str} {sp : Sp} {op : CmpOp}
def oB (Q : VK) : VK := fun v H2 => ∃ b, v = .bl b ∧ Q (.bl b) H2
/-- own op y: y of the same class -/
def cOO (C : Addr) (sp : Sp) : R2 := fun x y H Q => ∃ (a dx : Addr) (gs : List (Str × V)) (b dy : Addr) (hs : List (Str × V)), x = .ref a ∧ H a = some (.ins C dx gs) ∧ y = .ref b ∧ H b = some (.ins C dy hs) ∧ sp [.ref a, .ref b] H (oB Q) E0
def cOI (C : Addr) (sp : Sp) : R2 := fun x y H Q => ∃ (a dx : Addr) (gs : List (Str × V)) (n : Int), x = .ref a ∧ H a = some (.ins C dx gs) ∧ y = .int n ∧ sp [.ref a, .int n] H (oB Q) E0
def cIO (C : Addr) (sp : Sp) : R2 := fun x y H Q => ∃ (a dx : Addr) (gs : List (Str × V)) (n : Int), y = .ref a ∧ H a = some (.ins C dx gs) ∧ x = .int n ∧ sp [.ref a, .int n] H (oB Q) E0
theorem backB {pins : List (Addr × Obj)} {σ : L2.St} {Q : VK} {r : Value} {s' : Shared} (h : EP X pins σ (oB Q) r s') : PySem.W.CmpBack (EP X pins σ Q) r s' := by
  obtain ⟨z, H2, I2, rz, c, rfl, q2⟩ := h
  cases rz
  exact ⟨V.bl c, H2, I2, rfl, q2⟩
theorem cmp_oo (hop : ∀ a b, compareOp op a b = richCompare op a b) (M : OpOwn X.prog X.w X.K X.mg X.base k C (cmpInfo op).2.1 ps sp) (hu : X.A.units < cLine) (hr : Room k X.A) : OpR X (compareOp op) (cOO C sp) := by
  obtain ⟨f, fd, hs, hf, F, b⟩ := M.ex
  intro pins s σ H x y v u Q I rx ry h
  obtain ⟨a, dx, gs, b', dy, gs', rfl, ea, rfl, eb, q⟩ := h
  cases rx
  cases ry
  obtain ⟨mA, J, _⟩ := ins_get I.hok ea
  obtain ⟨od, J, _⟩ := J.look
  obtain ⟨mB, J', _⟩ := ins_get I.hok eb
  obtain ⟨od', J', _⟩ := J'.look
  obtain ⟨m, hF⟩ := I.fr
  rw [hop]
  refine PySem.W.cmp_K hu hF I.ok.mod.kin J J'.type (by unfold PySem.W.notFirst; simp) hs hf (wpAny_mono (run_fn F hr b (dvs := []) .nil pass0 I (.cons (show RelV (.ref a) (.ref a) from rfl) (.cons (show RelV (.ref b') (.ref b') from rfl) .nil)) q) (fun r s' hr => backB hr) fun _ _ z => z)
theorem cmp_oi (hop : ∀ a b, compareOp op a b = richCompare op a b) (M : OpOwn X.prog X.w X.K X.mg X.base k C (cmpInfo op).2.1 ps sp) (hsub : PySem.W.subIn X.K (.type "int") (.ref C) = some false) (hu : X.A.units < cLine) (hr : Room k X.A) : OpR X (compareOp op) (cOI C sp) := by
  obtain ⟨f, fd, hs, hf, F, b⟩ := M.ex
  intro pins s σ H x y v u Q I rx ry h
  obtain ⟨a, dx, gs, n, rfl, ea, rfl, q⟩ := h
  cases rx
  obtain ⟨t, rfl⟩ := ry
  obtain ⟨mA, J, _⟩ := ins_get I.hok ea
  obtain ⟨od, J, _⟩ := J.look
  obtain ⟨m, hF⟩ := I.fr
  rw [hop]
  refine PySem.W.cmp_K (tb := .type "int") hu hF I.ok.mod.kin J (PySem.W.Looks.of_pure rfl) (by unfold PySem.W.notFirst; rw [hsub]; simp) hs hf (wpAny_mono (run_fn F hr b (dvs := []) .nil pass0 I (.cons (show RelV (.ref a) (.ref a) from rfl) (.cons (show RelV (.int n) (.int n t) from ⟨_, rfl⟩) .nil)) q) (fun r s' hr => backB hr) fun _ _ z => z)
theorem cmp_io {id : String} {B : Builtin} (hop : ∀ a b, compareOp op a b = richCompare op a b) (M : OpOwn X.prog X.w X.K X.mg X.base k C (cmpInfo op).2.2 ps sp) (hsub : PySem.W.subIn X.K (.ref C) (.type "int") = some false) (slot : Slot "int" (cmpInfo op).2.1 id) (entry : entryFor table id = some B) (args : ∀ a b, argsOk id ⟨[a, b], []⟩)
    (mt : ∀ (n : Int) (t : Tok) (x C dx : Addr), Meets (B ⟨[.int n t, .ref x], []⟩) (fun _ R s => s.heap.get? x = some (PySem.W.instObj C dx) ∧ R (.ok (.ret Value.notImplemented)) s)) (hu : X.A.units < cLine) (hr : Room k X.A) : OpR X (compareOp op) (cIO C sp) := by
  obtain ⟨f, fd, hs, hf, F, b⟩ := M.ex
  intro pins s σ H x y v u Q I rx ry h
  obtain ⟨a, dx, gs, n, rfl, ea, rfl, q⟩ := h
  cases ry
  obtain ⟨t, rfl⟩ := rx
  obtain ⟨mA, J, _⟩ := ins_get I.hok ea
  obtain ⟨od, J, _⟩ := J.look
  obtain ⟨m, hF⟩ := I.fr
  rw [hop]
  refine cmp_refl hu hF I.ok.mod.kin J hs hf hsub slot entry (args _ _) (mt n t a C dx) (wpAny_mono (run_fn F hr b (dvs := []) .nil pass0 I (.cons (show RelV (.ref a) (.ref a) from rfl) (.cons (show RelV (.int n) (.int n t) from ⟨_, rfl⟩) .nil)) q) (fun r s' hr => backB hr) fun _ _ z => z)
end
end Bx

set_option Elab.async false
set_option linter.all false
set_option maxRecDepth 100000
set_option maxHeartbeats 4000000
namespace Bx
open PySem PySem.Spec PyProof.Rows L2 Fl
section
variable {X : Cx} {k : Nat} {C : Addr} {x m : Str} {ps : List Str} {dvs : List V} {sp : Sp} {E : L2.St → XK} {p pos apos : Pos} {e o : Expr} {es : List Expr} {t : TA} {tv ta : TE}
/-- v(e, ..), v a local that holds the class at C -/
def tMakeV (C : Addr) (sp : Sp) (dvs : List V) (E : L2.St → XK) (tv : TE) (t : TA) : TE := fun σ H Q => tv σ H fun v H1 => v = .ref C ∧ t σ H1 fun vs H2 => ∀ x dx, H2 x = none → H2 dx = none → dx ≠ x →
  sp (.ref x :: (vs ++ dvs)) (upd (upd H2 dx (.own x)) x (.ins C dx [])) (fun v H2 => v = .non ∧ Q (.ref x) H2) (E σ)
theorem pe_mkV (M : CalC X.prog X.w X.K X.mg X.base (L2.CX X.prog X.w) k C x ps dvs sp) (hx : ∀ σ, PassesAt (L2.CX X.prog X.w) X σ (E σ)) (hr : Room (k + 1) X.A) {y : Str} (hv : PE X (.Name y p) tv) (ha : PA X (e :: es) t)
    (he : starEach (e :: es) X.env = (false, eval e X.env) :: starEach es X.env := by rfl) (hpl : (backTo pos (starEach es X.env)).any (·.1) = false := by rfl) :
    PE X (.Call (.Name y p) (e :: es) [] pos) (tMakeV C sp dvs E tv t) := by
  obtain ⟨f, fd, ds, M, F, hm, hb, hd⟩ := M.ex
  refine ⟨fun pins s σ H Q I h => ?_⟩
  refine wpAny_Call_Name_kw (thn (hv.run pins s σ H _ I h) fun u s1 ⟨v, H1, I1, rv, ev, q⟩ => ?_)
  subst ev
  cases rv
  refine PySem.W.callWith_K (h₀ := X.base) I1.ok.mod.kin M.kp (thn (ha.run pos pins s1 σ H1 _ I1 q) fun us s2 ⟨vs, H2, I2, r, q2⟩ => ⟨I2.kIn, ?_⟩) he hpl
  exact run_makeS (E := E) M F hr hb hd (hx σ) I2 r q2
/-- a classmethod of C by the name m -/
structure CalCM (P : Program) (w : World) (K : PySem.W.Frag) (mg : Str → Option Value) (base : Heap) (k : Nat) (C : Addr) (m : Str) (ps : List Str) (sp : Sp) : Prop where
  ex : ∃ (mc : Value) (p g : Addr) (fd : FuncData), ClX.CRead K C mc ∧ ClX.CMet K C mc m p g ∧ FnOk P w K mg base (L2.CX P w) k g fd ps sp ∧ Binds K fd ps []
def tCMethS (C : Addr) (sp : Sp) (E : L2.St → XK) (ta : TE) (t : TA) : TE := fun σ H Q => ta σ H fun x H1 => x = .ref C ∧ t σ H1 fun vs H2 => sp (.ref C :: vs) H2 Q (E σ)
theorem pe_cm {pl : Sem Bool} (M : CalCM X.prog X.w X.K X.mg X.base k C m ps sp) (hx : ∀ σ, PassesAt (L2.CX X.prog X.w) X σ (E σ)) (hr : Room k X.A) (he : PE X o ta) (ha : PA X (e :: es) t)
    (hst : starEach (e :: es) X.env = (false, eval e X.env) :: starEach es X.env := by rfl) (hpl : (backTo pos (starEach es X.env)).any (·.1) = false := by rfl)
    (ht : eval (.Call (.Attribute o m apos) (e :: es) [] pos) X.env = (do
      let ov ← eval o X.env
      standAt apos.atName
      let (f, first) ← holding [ov] (getMethod ov m pl)
      callWith pos f first (backTo pos (starEach (e :: es) X.env)) (backToKw pos (keywordEach [] X.env))) := by rfl) :
    PE X (.Call (.Attribute o m apos) (e :: es) [] pos) (tCMethS C sp E ta t) := by
  obtain ⟨mc, pp, g, fd, r, c, F, b⟩ := M.ex
  refine ⟨fun pins s σ H Q I h => ?_⟩
  refine PySem.W.methodCall_KW (pl := pl) (thn (he.run pins s σ H _ I h) fun u s1 ⟨x, H1, I1, rx, ex, q⟩ => ?_) ht
  subst ex
  obtain rfl : u = Value.ref C := rx
  refine ClX.getmethcm_ok I1 r c fun s2 I2 => ?_
  refine ClX.callwith_cm I2 (ClX.base_none I1 (Nat.le_refl _)) c.fi (thn (ha.run pos _ s2 σ H1 _ I2 q) fun us s3 ⟨vs, H2, I3, rv, q2⟩ => ⟨⟨ClX.pin_at I3, I3.kIn⟩, ?_⟩) hst hpl
  have hl := F.len _ _ _ _ q2
  have r2 : Vals (V.ref C :: vs) (Value.ref C :: us) := .cons (show RelV (.ref C) (.ref C) from rfl) rv
  have bb := b s3 (Value.ref C :: us) I3.kIn (by rw [List.append_nil, ← r2.length]; exact hl)
  rw [List.append_nil] at bb
  have z : wpAny (model X.prog X.w) X.A (call (.ref s1.heap.objs.size) us) (EP X ((s1.heap.objs.size, PySem.W.methodObj (.ref g) (.ref C)) :: pins) σ Q) X.xe s3 := by
    refine wpAny_call (PySem.W.method_call (ClX.pin_at I3) (codeAny_mono (F.run X.A X.stack s3 H2 ⟨Value.ref C :: us, []⟩ (Value.ref C :: us) (V.ref C :: vs) Q (E σ) hr I3.env0 bb r2 q2) fun r s' hq => ?_))
    cases r with
    | error e => exact hx σ _ H2 s3 e s' I3 hq
    | ok fl =>
      cases fl with
      | ret u => exact I3.after hq
      | next => exact False.elim hq
      | brk => exact False.elim hq
      | cont => exact False.elim hq
  exact thn z fun _ _ y => ClX.unpinE y
end
end Bx

set_option Elab.async false
set_option linter.all false
set_option maxRecDepth 100000
set_option maxHeartbeats 4000000
namespace Fl
open PySem PySem.Spec PyProof.Rows L2
/-! ### what stands in a heap, as a list of places and objects -/
def Al (fs : List (Addr × HO)) (H : Hp) : Prop := ∀ a o, (a, o) ∈ fs → H a = some o
theorem Al.nil {H : Hp} : Al [] H := fun _ _ h => nomatch h
theorem Al.at {fs : List (Addr × HO)} {H : Hp} {a : Addr} {o : HO} (W : Al fs H) (h : (a, o) ∈ fs) : H a = some o := W a o h
theorem Al.same {fs : List (Addr × HO)} {H H' : Hp} (W : Al fs H) (s : Same H H') : Al fs H' := fun a o h => s a o (W a o h)
theorem Al.got {fs : List (Addr × HO)} {H : Hp} {a : Addr} {o : HO} (W : Al fs H) (h : H a = some o) : Al ((a, o) :: fs) H := fun b u hm => by
  rcases List.mem_cons.mp hm with e | e
  · cases e
    exact h
  · exact W b u e
theorem Al.new {fs : List (Addr × HO)} {H : Hp} {a : Addr} {o : HO} (W : Al fs H) (h : H a = none) : Al ((a, o) :: fs) (upd H a o) := (W.same (same_upd h)).got upd_same
structure Wd (p : Pla) (fs : List (Addr × HO)) (H : Hp) : Prop where
  P : Pool H p
  W : Al fs H
  n : ∀ a o, (a, o) ∈ fs → a ≠ p.p
theorem Wd.nil {p : Pla} {H : Hp} (h : Pool H p) : Wd p [] H := ⟨h, Al.nil, fun _ _ h => nomatch h⟩
theorem Wd.at {p : Pla} {fs : List (Addr × HO)} {H : Hp} {a : Addr} {o : HO} (W : Wd p fs H) (h : (a, o) ∈ fs) : H a = some o := W.W a o h
theorem Wd.same {p : Pla} {fs : List (Addr × HO)} {H H' : Hp} (W : Wd p fs H) (s : Same H H') : Wd p fs H' := ⟨W.P.same s, W.W.same s, W.n⟩
theorem Wd.keep {p : Pla} {fs : List (Addr × HO)} {H H' : Hp} (W : Wd p fs H) (hP : Pool H' p) (k : Keeps H H' p.p) : Wd p fs H' := ⟨hP, fun a o h => k a o (W.W a o h) (W.n a o h), W.n⟩
theorem Wd.got {p : Pla} {fs : List (Addr × HO)} {H : Hp} {a : Addr} {o : HO} (W : Wd p fs H) (h : H a = some o) (ne : ∀ xs, o ≠ .lst xs) : Wd p ((a, o) :: fs) H := ⟨W.P, W.W.got h, fun b u hm => by
  rcases List.mem_cons.mp hm with e | e
  · cases e
    obtain ⟨ns, i, b, c, d, h1, _⟩ := W.P
    exact ne_of h h1 (ne _)
  · exact W.n b u e⟩
theorem Wd.new {p : Pla} {fs : List (Addr × HO)} {H : Hp} {a : Addr} {o : HO} (W : Wd p fs H) (h : H a = none) : Wd p ((a, o) :: fs) (upd H a o) := ⟨W.P.upd h, W.W.new h, fun b u hm => by
  rcases List.mem_cons.mp hm with e | e
  · cases e
    exact (W.P.apart h).1
  · exact W.n b u e⟩
/-! ### tests whose answer is known -/
theorem itT {p : Prop} [Decidable p] {A B : Prop} (h : p) (a : A) : if decide p = true then A else B := by rw [decide_eq_true h]; exact iteT a
theorem itF {p : Prop} [Decidable p] {A B : Prop} (h : ¬ p) (b : B) : if decide p = true then A else B := by rw [decide_eq_false h]; exact iteF b
theorem niT {p : Prop} [Decidable p] {A B : Prop} (h : p) (b : B) : if (!decide p) = true then A else B := by rw [decide_eq_true h]; exact iteF b
theorem niF {p : Prop} [Decidable p] {A B : Prop} (h : ¬ p) (a : A) : if (!decide p) = true then A else B := by rw [decide_eq_false h]; exact iteT a
theorem ieT {a b : Int} {A B : Prop} (h : a = b) (x : A) : if decide (V.int a = V.int b) = true then A else B := itT (by rw [h]) x
theorem ieF {a b : Int} {A B : Prop} (h : a ≠ b) (x : B) : if decide (V.int a = V.int b) = true then A else B := itF (fun e => h (V.int.inj e)) x
theorem jeT {a b : Int} {A B : Prop} (h : a = b) (x : B) : if (!decide (V.int a = V.int b)) = true then A else B := niT (by rw [h]) x
theorem jeF {a b : Int} {A B : Prop} (h : a ≠ b) (x : A) : if (!decide (V.int a = V.int b)) = true then A else B := niF (fun e => h (V.int.inj e)) x
/-! ### values that are known -/
theorem vT {Q : VK} {H : Hp} {p : Prop} [Decidable p] (h : p) (q : Q (.bl true) H) : Q (.bl (decide p)) H := by rw [decide_eq_true h]; exact q
theorem vF {Q : VK} {H : Hp} {p : Prop} [Decidable p] (h : ¬ p) (q : Q (.bl false) H) : Q (.bl (decide p)) H := by rw [decide_eq_false h]; exact q
theorem veT {Q : VK} {H : Hp} {a b : Int} (h : a = b) (q : Q (.bl true) H) : Q (.bl (decide (V.int a = V.int b))) H := vT (by rw [h]) q
theorem veF {Q : VK} {H : Hp} {a b : Int} (h : a ≠ b) (q : Q (.bl false) H) : Q (.bl (decide (V.int a = V.int b))) H := vF (fun e => h (V.int.inj e)) q
/-! ### bounds -/
theorem ba {i j : Int} {a : Nat} (h1 : i.natAbs < 2 ^ a) (h2 : j.natAbs < 2 ^ a) : (i + j).natAbs < 2 ^ (a + 1) := by
  rw [Nat.pow_succ]
  generalize 2 ^ a = z at *
  omega
theorem bs {i j : Int} {a : Nat} (h1 : i.natAbs < 2 ^ a) (h2 : j.natAbs < 2 ^ a) : (i - j).natAbs < 2 ^ (a + 1) := by
  rw [Nat.pow_succ]
  generalize 2 ^ a = z at *
  omega
theorem bn {i : Int} {a : Nat} (h1 : i.natAbs < 2 ^ a) : (-i).natAbs < 2 ^ a := by
  rw [Int.natAbs_neg]
  exact h1
theorem ub {n : Int} {a b : Nat} (h : n.natAbs < 2 ^ a) (k : a ≤ b) : n.natAbs < 2 ^ b := Nat.lt_of_lt_of_le h (Nat.pow_le_pow_right (by decide) k)
end Fl
namespace Fl
open PySem PySem.Spec PyProof.Rows L2
theorem Al.drop {x : Addr × HO} {fs : List (Addr × HO)} {H : Hp} (W : Al (x :: fs) H) : Al fs H := fun a o h => W a o (List.mem_cons_of_mem _ h)
theorem Wd.drop {p : Pla} {x : Addr × HO} {fs : List (Addr × HO)} {H : Hp} (W : Wd p (x :: fs) H) : Wd p fs H := ⟨W.P, W.W.drop, fun a o h => W.n a o (List.mem_cons_of_mem _ h)⟩
end Fl

set_option Elab.async false
set_option linter.all false
set_option maxRecDepth 100000
set_option maxHeartbeats 4000000
namespace Bx
open PySem PySem.Spec PyProof.Rows L2 Fl
section
open PySem.W PySem.Calls
variable {prog : Program} {w : World} {A : Around} {E : Value → Shared → Prop} {s : Shared} {K : Frag} {x C L f dx : Addr} {h₀ : Heap} {m : Str → Option Value} {od : Option Obj} {ox : Obj} {b tb : Value}
open Builtin in
theorem obj_ne {Q : Value → Shared → Prop} (hu : A.in1.units < cLine) (X : K.In s.heap) (I : PySem.W.InstAt s.heap x ox C od) (hm : mroIn K C (.type "object") = some true) (hs : findIn K (.ref C) "__eq__" = some (some (.ref f))) (hf : isFn K (.ref f) = true)
    (h : wpAny (model prog w) A.in1 (call (.ref f) [.ref x, b]) (fun v s' => ∃ c, v = .bool c ∧ Q (.bool (!c)) s') E s) : wpAny (model prog w) A (call (.builtin "object.__ne__") [.ref x, b]) Q E s := by
  refine wpAny_call (codeAny_call_builtin PySem.F.slot_object_ne.plain PySem.F.entry_object_ne (check_slot (i := "object.__ne__") (owner := "object") (n := "__ne__") (by decide +kernel) (by decide +kernel) (I.type.andThen (looks_mroIn X hm)) (PySem.F.args_object_ne_2 _ _) ?_))
  unfold Builtin.«object.__ne__»
  refine wpAny_bind (m := slotArgs "__ne__" 1 _) (wpAny_pure ?_)
  refine wpAny_bind (m := cRoomFor _ _) (wpAny_cRoomFor hu ?_)
  refine wpAny_bind (m := callSpecialIfBound? (.ref x) (Str.ofString "__eq__") _) (ifBound_K X I hs hf (wpAny_mono h (fun r s' hq => ?_) fun _ _ y => y))
  obtain ⟨c, rfl, hq⟩ := hq
  exact wpAny_bind (m := truthy (.bool _)) (wpAny_truthy_bool (wpAny_pure hq))
theorem try_ne {Q : Value → Shared → Prop} (hu : A.in1.units < cLine) (X : K.In s.heap) (I : PySem.W.InstAt s.heap x ox C od) (hm : mroIn K C (.type "object") = some true) (hN : findIn K (.ref C) "__ne__" = some (some (.builtin "object.__ne__"))) (hs : findIn K (.ref C) "__eq__" = some (some (.ref f))) (hf : isFn K (.ref f) = true)
    (h : wpAny (model prog w) A.in1 (call (.ref f) [.ref x, b]) (fun v s' => ∃ c, v = .bool c ∧ Q (.bool (!c)) s') E s) : wpAny (model prog w) A (tryCompare (.ref x) "__ne__" b) (fun r s' => ∃ v, r = some v ∧ Q v s') E s := by
  have fin : wpAny (model prog w) A (call (.builtin "object.__ne__") [.ref x, b] >>= fun v => pure (some v)) (fun r s' => ∃ c, r = some (.bool c) ∧ Q (.bool c) s') E s :=
    wpAny_bind (wpAny_mono (obj_ne (Q := fun v s' => ∃ c, v = .bool c ∧ Q (.bool c) s') hu X I hm hs hf (wpAny_mono h (fun v s' ⟨c, e, q⟩ => ⟨c, e, _, rfl, q⟩) fun _ _ e => e)) (fun v s' ⟨c, e, q⟩ => wpAny_pure ⟨c, by rw [e], q⟩) fun _ _ e => e)
  unfold tryCompare
  refine wpAny_bind (wpAny_mono (Q := fun r s' => ∃ c, r = some (.bool c) ∧ Q (.bool c) s') ?_ (fun r s' ⟨c, e, q⟩ => ?_) fun _ _ e => e)
  · simp only [callSpecialIfBound?, bindSpecialIfBound?]
    refine wpAny_holding (wpAny_bind (wpAny_bind (wpAny_bind (I.type.here ((looks_findIn X hN).here ?_)))))
    refine wpAny_bind (wpAny_askSetting (wpAny_ite ?_))
    split
    · exact wpAny_bind ((Looks.of_pure (PySem.F.slot_object_ne.bind _)).here (wpAny_pure (by exact fin)))
    · exact wpAny_tryCatch (wpAny_bind ((Looks.of_pure (PySem.F.slot_object_ne.bind _)).here (wpAny_pure (by exact fin))))
  · subst e
    exact wpAny_pure ⟨_, rfl, q⟩
theorem ne_K {Q : Value → Shared → Prop} (hu : A.in1.units < cLine) (hu0 : A.units < cLine) (F : Fr h₀ L s.heap m) (X₀ : K.In h₀) (I : PySem.W.InstAt s.heap x ox C od) (hb : Looks (model prog w) s.heap (typeOf b) tb) (hn : notFirst K C tb = true) (hm : mroIn K C (.type "object") = some true)
    (hN : findIn K (.ref C) "__ne__" = some (some (.builtin "object.__ne__"))) (hs : findIn K (.ref C) "__eq__" = some (some (.ref f))) (hf : isFn K (.ref f) = true)
    (h : wpAny (model prog w) A.in1 (call (.ref f) [.ref x, b]) (fun v s' => ∃ c, v = .bool c ∧ Q (.bool (!c)) s') E s) : wpAny (model prog w) A (richCompare .NotEq (.ref x) b) Q E s := by
  have X := X₀.keeps F.keep
  have one := try_ne (Q := Q) hu X I hm hN hs hf h
  unfold richCompare
  simp only [oneThing_ref]
  refine wpAny_holding (wpAny_bind (wpAny_cRoomFor hu0 ?_))
  refine wpAny_bind (I.type.here (wpAny_bind (hb.here ?_)))
  unfold notFirst at hn
  by_cases hne : (Value.ref C != tb) = true
  · simp only [hne, if_true]
    by_cases h0 : subIn K tb (.ref C) = some false
    · refine wpAny_bind ((looks_subIn X h0).here ?_)
      simp only [Bool.false_eq_true, if_false]
      refine wpAny_bind (wpAny_mono one (fun r s' hr' => ?_) fun _ _ e => e)
      obtain ⟨v, rfl, hq⟩ := hr'
      exact wpAny_pure hq
    · exfalso
      have e : (tb == Value.ref C) = false := by
        rw [beq_eq_false_iff_ne]
        intro q
        rw [q] at hne
        simp at hne
      simp [e, h0] at hn
  · simp only [hne, Bool.false_eq_true, if_false]
    refine wpAny_bind (wpAny_pure ?_)
    simp only [Bool.false_eq_true, if_false]
    refine wpAny_bind (wpAny_mono one (fun r s' hr' => ?_) fun _ _ e => e)
    obtain ⟨v, rfl, hq⟩ := hr'
    exact wpAny_pure hq
theorem ne_refl {n : Int} {t : Tok} {Q : Value → Shared → Prop} (hu : A.in1.units < cLine) (hu0 : A.units < cLine) (F : Fr h₀ L s.heap m) (X₀ : K.In h₀) (I : PySem.W.InstAt s.heap x (PySem.W.instObj C dx) C od) (hm : mroIn K C (.type "object") = some true)
    (hN : findIn K (.ref C) "__ne__" = some (some (.builtin "object.__ne__"))) (hs : findIn K (.ref C) "__eq__" = some (some (.ref f))) (hf : isFn K (.ref f) = true) (hsub : subIn K (.ref C) (.type "int") = some false)
    (h : wpAny (model prog w) A.in1 (call (.ref f) [.ref x, .int n t]) (fun v s' => ∃ c, v = .bool c ∧ Q (.bool (!c)) s') E s) : wpAny (model prog w) A (richCompare .NotEq (.int n t) (.ref x)) Q E s := by
  have X := X₀.keeps F.keep
  have one := try_ne (Q := Q) hu X I hm hN hs hf h
  have ot : oneThing? .NotEq (.int n t) (.ref x) = none := rfl
  unfold richCompare
  simp only [ot]
  refine wpAny_holding (wpAny_bind (wpAny_cRoomFor hu0 ?_))
  refine wpAny_bind (wpAny_typeOf (typeIs_int s n t) (wpAny_bind (I.type.here ?_)))
  have hne : (Value.type "int" != Value.ref C) = true := by
    rw [bne_iff_ne]
    intro q
    cases q
  simp only [hne, if_true]
  refine wpAny_bind ((looks_subIn X hsub).here ?_)
  simp only [Bool.false_eq_true, if_false, Bool.not_false, if_true]
  refine wpAny_bind (wpAny_tryCompare_declines (typeIs_int s n t) PySem.F.slot_int_ne (call_meets PySem.F.slot_int_ne (typeIs_int s n t) PySem.F.entry_int_ne (PySem.F.args_int_ne_2 _ _) (int_ne_own n t x C dx) ⟨I.at_, ?_⟩))
  refine ⟨rfl, ?_⟩
  refine wpAny_bind (wpAny_mono one (fun r s' hr' => ?_) fun _ _ e => e)
  obtain ⟨v, rfl, hq⟩ := hr'
  exact wpAny_pure hq
end
end Bx

set_option Elab.async false
set_option linter.all false
set_option maxRecDepth 100000
set_option maxHeartbeats 4000000
namespace Bx
open PySem PySem.Spec PyProof.Rows L2 Fl
section
open PySem.W PySem.Calls
variable {prog : Program} {w : World} {A : Around} {E : Value → Shared → Prop} {s : Shared}
theorem bool_in (x : Value) : MeetsIn prog w (Builtin.«bool.__new__» ⟨[.type "bool", x], []⟩) (fun A R s => wpAny (model prog w) A.in1 (truthy x) (fun c s' => R (.ok (.ret (.bool c))) s') (fun e s' => R (.error e) s') s) :=
  .of_wp fun A R s h => by
    have f1 := F.conv_sub_bool
    obtain ⟨hp, g, d, tk, os⟩ := s
    repeat (any_goals (first | assumption | (with_reducible refine wpAny_mono h (fun c s' q => ?_) fun _ _ z => z) | wp_step))
    all_goals first | exact ⟨_, rfl, q⟩ | exact q | skip
theorem call_bool_own {x : Value} {Q : Value → Shared → Prop} (h : wpAny (model prog w) A.in1.in1 (truthy x) (fun c s' => Q (.bool c) s') E s) : wpAny (model prog w) A (call (.type "bool") [x]) Q E s :=
  callType_newIn F.called_bool F.newNe_bool (F.typeCall_bool_1 x) (F.newCall_bool_1 x) (fun obj => F.args_object_init_2 obj x) F.entry_bool_new (bool_in x) (wpAny_mono h (fun c s' q => ⟨rfl, q⟩) fun _ _ z => z)
end
end Bx
namespace Bx
open PySem PySem.Spec PyProof.Rows L2 Fl
section
variable {X : Cx} {k : Nat} {C : Addr} {ps : List Str} {sp : Sp}
/-- a def of one's own run one frame in -/
theorem run_in1 {pins : List (Addr × Obj)} {s : Shared} {σ : L2.St} {H : Hp} {f : Addr} {fd : FuncData} {us : List Value} {vs : List V} {Q : VK} (F : FnOk X.prog X.w X.K X.mg X.base CX0 k f fd ps sp) (bd : Binds X.K fd ps []) (hr : Room (k + 1) X.A) (I : Inv X pins σ H s) (r : Vals vs us) (q : sp vs H Q E0) :
    wpAny (model X.prog X.w) X.A.in1 (call (.ref f) us) (EP X pins σ Q) X.xe s := by
  have hl := F.len _ _ _ _ q
  have bb := bd s us I.kIn (by rw [List.append_nil]; rw [← r.length]; exact hl)
  rw [List.append_nil] at bb
  refine wpAny_call (codeAny_mono (F.run X.A.in1 X.stack s H ⟨us, []⟩ us vs Q E0 hr.in1 I.env0.in1 bb r q) fun r s' hq => ?_)
  cases r with
  | error e => exact pass0 pins σ H s e s' I hq
  | ok fl =>
    cases fl with
    | ret z => exact I.after hq
    | next => exact False.elim hq
    | brk => exact False.elim hq
    | cont => exact False.elim hq
theorem run_in2 {pins : List (Addr × Obj)} {s : Shared} {σ : L2.St} {H : Hp} {f : Addr} {fd : FuncData} {us : List Value} {vs : List V} {Q : VK} (F : FnOk X.prog X.w X.K X.mg X.base CX0 k f fd ps sp) (bd : Binds X.K fd ps []) (hr : Room (k + 2) X.A) (I : Inv X pins σ H s) (r : Vals vs us) (q : sp vs H Q E0) :
    wpAny (model X.prog X.w) X.A.in1.in1 (call (.ref f) us) (EP X pins σ Q) X.xe s := by
  have hl := F.len _ _ _ _ q
  have bb := bd s us I.kIn (by rw [List.append_nil]; rw [← r.length]; exact hl)
  rw [List.append_nil] at bb
  refine wpAny_call (codeAny_mono (F.run X.A.in1.in1 X.stack s H ⟨us, []⟩ us vs Q E0 hr.in1.in1 I.env0.in1.in1 bb r q) fun r s' hq => ?_)
  cases r with
  | error e => exact pass0 pins σ H s e s' I hq
  | ok fl =>
    cases fl with
    | ret z => exact I.after hq
    | next => exact False.elim hq
    | brk => exact False.elim hq
    | cont => exact False.elim hq
def oN (Q : VK) : VK := fun v H2 => ∃ c, v = .bl c ∧ Q (.bl (!c)) H2
theorem backN {pins : List (Addr × Obj)} {σ : L2.St} {Q : VK} {r : Value} {s' : Shared} (h : EP X pins σ (oN Q) r s') : ∃ c, r = .bool c ∧ EP X pins σ Q (.bool (!c)) s' := by
  obtain ⟨z, H2, I2, rz, c, rfl, q2⟩ := h
  cases rz
  exact ⟨c, rfl, V.bl (!c), H2, I2, rfl, q2⟩
structure NeC (K : PySem.W.Frag) (C : Addr) : Prop where
  hm : PySem.W.mroIn K C (.type "object") = some true
  hN : PySem.W.findIn K (.ref C) "__ne__" = some (some (.builtin "object.__ne__"))
  si : PySem.W.subIn K (.type "int") (.ref C) = some false
  sc : PySem.W.subIn K (.ref C) (.type "int") = some false
def nOX (C : Addr) (sp : Sp) : R2 := fun x y H Q => ∃ (a dx : Addr) (gs : List (Str × V)), x = .ref a ∧ H a = some (.ins C dx gs) ∧ ((∃ n : Int, y = .int n) ∨ ∃ (b dy : Addr) (hs : List (Str × V)), y = .ref b ∧ H b = some (.ins C dy hs)) ∧ sp [.ref a, y] H (oN Q) E0
def nIO (C : Addr) (sp : Sp) : R2 := fun x y H Q => ∃ (a dx : Addr) (gs : List (Str × V)) (n : Int), y = .ref a ∧ H a = some (.ins C dx gs) ∧ x = .int n ∧ sp [.ref a, .int n] H (oN Q) E0
theorem op_ne_ox (N : NeC X.K C) (M : OpOwn X.prog X.w X.K X.mg X.base k C "__eq__" ps sp) (hr : Room (k + 1) X.A) : OpR X (compareOp .NotEq) (nOX C sp) := by
  obtain ⟨f, fd, hs, hf, F, b⟩ := M.ex
  intro pins s σ H x y v u Q I rx ry h
  obtain ⟨a, dx, gs, rfl, ea, hy, q⟩ := h
  cases rx
  obtain ⟨mA, J, _⟩ := ins_get I.hok ea
  obtain ⟨od, J, _⟩ := J.look
  obtain ⟨m, hF⟩ := I.fr
  have run := run_in1 F b hr I (.cons (show RelV (.ref a) (.ref a) from rfl) (.cons ry .nil)) q
  have fin := wpAny_mono run (fun r s' z => backN z) fun _ _ z => z
  rcases hy with ⟨n, rfl⟩ | ⟨b', dy, gs', rfl, eb⟩
  · obtain ⟨t, rfl⟩ := ry
    exact ne_K (tb := .type "int") hr.in1.units0 hr.units0 hF I.ok.mod.kin J (PySem.W.Looks.of_pure rfl) (by unfold PySem.W.notFirst; rw [N.si]; simp) N.hm N.hN hs hf fin
  · cases ry
    obtain ⟨mB, J', _⟩ := ins_get I.hok eb
    obtain ⟨od', J', _⟩ := J'.look
    exact ne_K hr.in1.units0 hr.units0 hF I.ok.mod.kin J J'.type (by unfold PySem.W.notFirst; simp) N.hm N.hN hs hf fin
theorem op_ne_io (N : NeC X.K C) (M : OpOwn X.prog X.w X.K X.mg X.base k C "__eq__" ps sp) (hr : Room (k + 1) X.A) : OpR X (compareOp .NotEq) (nIO C sp) := by
  obtain ⟨f, fd, hs, hf, F, b⟩ := M.ex
  intro pins s σ H x y v u Q I rx ry h
  obtain ⟨a, dx, gs, n, rfl, ea, rfl, q⟩ := h
  cases ry
  obtain ⟨t, rfl⟩ := rx
  obtain ⟨mA, J, _⟩ := ins_get I.hok ea
  obtain ⟨od, J, _⟩ := J.look
  obtain ⟨m, hF⟩ := I.fr
  have run := run_in1 F b hr I (.cons (show RelV (.ref a) (.ref a) from rfl) (.cons (show RelV (.int n) (.int n t) from ⟨_, rfl⟩) .nil)) q
  exact ne_refl hr.in1.units0 hr.units0 hF I.ok.mod.kin J N.hm N.hN hs hf N.sc (wpAny_mono run (fun r s' z => backN z) fun _ _ z => z)
/-- own == y, y of a built-in type -/
def cOX (K : PySem.W.Frag) (C : Addr) (sp : Sp) : R2 := fun x y H Q => ∃ (a dx : Addr) (gs : List (Str × V)) (T : String), x = .ref a ∧ H a = some (.ins C dx gs) ∧ TyX K H y (.type T) ∧ PySem.W.subIn K (.type T) (.ref C) = some false ∧ sp [.ref a, y] H (oB Q) E0
theorem cmp_ox (M : OpOwn X.prog X.w X.K X.mg X.base k C "__eq__" ps sp) (hr : Room (k + 1) X.A) : OpR X (compareOp .Eq) (cOX X.K C sp) := by
  obtain ⟨f, fd, hs, hf, F, b⟩ := M.ex
  intro pins s σ H x y v u Q I rx ry h
  obtain ⟨a, dx, gs, T, rfl, ea, ty, hsub, q⟩ := h
  cases rx
  obtain ⟨mA, J, _⟩ := ins_get I.hok ea
  obtain ⟨od, J, _⟩ := J.look
  obtain ⟨m, hF⟩ := I.fr
  obtain ⟨P, kx, hp, _⟩ := kit_of I ry ty
  refine PySem.W.cmp_K (op := .Eq) hr.units0 hF I.ok.mod.kin J (kx.ty _ _ I.kIn hp) (by unfold PySem.W.notFirst; rw [hsub]; simp) hs hf ?_
  exact wpAny_mono (run_fn F (hr.mono (Nat.le_succ _)) b (dvs := []) .nil pass0 I (.cons (show RelV (.ref a) (.ref a) from rfl) (.cons ry .nil)) q) (fun r s' hr => backB hr) fun _ _ z => z
def rBoolO (C : Addr) (sp : Sp) : List V → Hp → VK → Prop := fun xs H Q => ∃ (a dx : Addr) (gs : List (Str × V)), xs = [.ref a] ∧ H a = some (.ins C dx gs) ∧ sp [.ref a] H (oB Q) E0
theorem call_boolO (M : OpOwn X.prog X.w X.K X.mg X.base k C "__bool__" ps sp) (hr : Room (k + 2) X.A) : CallR X (.type "bool") (rBoolO C sp) := by
  obtain ⟨f, fd, hs, hf, F, b⟩ := M.ex
  intro pins s σ H xs us Q I r h
  obtain ⟨a, dx, gs, rfl, ea, q⟩ := h
  obtain ⟨u, rfl, rx⟩ := vals1 r
  cases rx
  obtain ⟨mA, J, _⟩ := ins_get I.hok ea
  obtain ⟨od, J, _⟩ := J.look
  obtain ⟨m, hF⟩ := I.fr
  refine call_bool_own (PySem.W.truthy_K hF I.ok.mod.kin J hs hf (wpAny_mono (run_in2 F b hr I r q) (fun v s' hv => ?_) fun _ _ z => z))
  obtain ⟨z, H2, I2, rz, c, rfl, q2⟩ := hv
  cases rz
  exact ⟨V.bl c, H2, I2, rfl, q2⟩
def oS (Q : VK) : VK := fun v H2 => ∃ z, v = .str z ∧ Q (.str z) H2
def rStrO (C : Addr) (sp : Sp) : List V → Hp → VK → Prop := fun xs H Q => ∃ (a dx : Addr) (gs : List (Str × V)), xs = [.ref a] ∧ H a = some (.ins C dx gs) ∧ sp [.ref a] H (oS Q) E0
theorem call_strO (M : OpOwn X.prog X.w X.K X.mg X.base k C "__str__" ps sp) (hr : Room (k + 2) X.A) : CallR X (.type "str") (rStrO C sp) := by
  obtain ⟨f, fd, hs, hf, F, b⟩ := M.ex
  intro pins s σ H xs us Q I r h
  obtain ⟨a, dx, gs, rfl, ea, q⟩ := h
  obtain ⟨u, rfl, rx⟩ := vals1 r
  cases rx
  obtain ⟨mA, J, _⟩ := ins_get I.hok ea
  obtain ⟨od, J, _⟩ := J.look
  refine PySem.W.kso_call hr.in1.in1.units0 I.kIn J hs hf (wpAny_mono (run_in2 F b hr I r q) (fun v s' hv => ?_) fun _ _ z => z)
  obtain ⟨z, H2, I2, rz, c, rfl, q2⟩ := hv
  obtain ⟨t, rfl⟩ := rz
  exact ⟨V.str c, H2, I2, ⟨t, rfl⟩, q2⟩
def CPowW (i j : Int) : Prop := 0 ≤ j ∧ (Builtin.Int.intBits i : Int) * j ≤ 2 ^ 27
theorem op_powW : OpR X (binaryOp .Pow) (rI CPowW fun i j => .int (i ^ j.toNat)) := opI fun _ _ _ _ _ _ _ hc q => PyProof.Rows.pow_int hc.1 hc.2 q
end
end Bx

set_option Elab.async false
set_option linter.all false
set_option maxRecDepth 100000
set_option maxHeartbeats 4000000
namespace Fl
open PySem PySem.Spec PyProof.Rows L2
/-! ### a heap without one place -/
def wo (H : Hp) (d : Addr) : Hp := fun a => if a = d then none else H a
theorem wo_sub (H : Hp) (d : Addr) : Same (wo H d) H := fun a o h => by
  unfold wo at h
  split at h
  · cases h
  · exact h
theorem wo_same {H H' : Hp} (d : Addr) (s : Same H H') : Same (wo H d) (wo H' d) := fun a o h => by
  unfold wo at *
  split at h
  · cases h
  · rename_i n
    rw [if_neg n]
    exact s a o h
theorem wo_keep {H H' : Hp} {d : Addr} (s : Keeps H H' d) : Same (wo H d) (wo H' d) := fun a o h => by
  unfold wo at *
  split at h
  · cases h
  · rename_i n
    rw [if_neg n]
    exact s a o h n
theorem wo_upd {H : Hp} {d : Addr} {o : HO} : Same (wo H d) (wo (upd H d o) d) := fun a u h => by
  unfold wo at *
  split at h
  · cases h
  · rename_i n
    rw [if_neg n, upd_ne n]
    exact h
theorem wo_of {H : Hp} {d : Addr} (h : H d = none) : Same H (wo H d) := fun a o e => by
  unfold wo
  rw [if_neg (ne_of_none e h)]
  exact e
theorem wo_at {H : Hp} {d a : Addr} {o : HO} (h : H a = some o) (n : a ≠ d) : wo H d a = some o := by
  unfold wo
  rw [if_neg n]
  exact h
theorem same_late {H0 H : Hp} {D : Addr} {o : HO} (s : Same H0 H) (h : H0 D = none) : Same H0 (upd H D o) := fun b u e => by
  rw [upd_ne (ne_of_none e h)]
  exact s b u e
/-! ### lists whose items are told one by one -/
def LAt {α : Type} (R : Hp → V → α → Prop) (H : Hp) (a : Addr) (xs : List α) : Prop := ∃ vs : List V, H a = some (.lst vs) ∧ vs.length = xs.length ∧ ∀ (i : Nat) (x : α), xs[i]? = some x → ∃ v, vs[i]? = some v ∧ R H v x
def Mono {α : Type} (R : Hp → V → α → Prop) : Prop := ∀ (H H' : Hp) (v : V) (x : α), Same H H' → R H v x → R H' v x
theorem LAt.same {α : Type} {R : Hp → V → α → Prop} (m : Mono R) {H H' : Hp} {a : Addr} {xs : List α} (h : LAt R H a xs) (k : Same H H') : LAt R H' a xs := by
  obtain ⟨vs, h1, h2, h3⟩ := h
  refine ⟨vs, k _ _ h1, h2, fun i x hx => ?_⟩
  obtain ⟨v, hv, r⟩ := h3 i x hx
  exact ⟨v, hv, m _ _ _ _ k r⟩
theorem LAt.imp {α β : Type} {R : Hp → V → α → Prop} {S : Hp → V → β → Prop} {f : α → β} {H : Hp} {a : Addr} {xs : List α} (h : LAt R H a xs) (k : ∀ v x, R H v x → S H v (f x)) : LAt S H a (xs.map f) := by
  obtain ⟨vs, h1, h2, h3⟩ := h
  refine ⟨vs, h1, by rw [List.length_map]; exact h2, fun i y hy => ?_⟩
  rw [List.getElem?_map] at hy
  cases hx : xs[i]? with
  | none => rw [hx] at hy; cases hy
  | some x =>
    rw [hx] at hy
    cases hy
    obtain ⟨v, hv, r⟩ := h3 i x hx
    exact ⟨v, hv, k v x r⟩
theorem LAt.map {α : Type} {R : Hp → V → α → Prop} {H : Hp} {a : Addr} {xs : List α} {f : α → V} (h : LAt R H a xs) (k : ∀ v x, R H v x → v = f x) : H a = some (.lst (xs.map f)) := by
  obtain ⟨vs, h1, h2, h3⟩ := h
  rw [h1]
  congr 2
  refine List.ext_getElem? fun i => ?_
  rw [List.getElem?_map]
  cases hx : xs[i]? with
  | none =>
    rw [List.getElem?_eq_none_iff] at hx
    exact List.getElem?_eq_none (by omega)
  | some x =>
    obtain ⟨v, hv, r⟩ := h3 i x hx
    rw [hv, k v x r]
    rfl
theorem item {vs : List V} {α : Type} {xs : List α} {i : Nat} {v : V} (hl : vs.length = xs.length) (hv : vs[i]? = some v) : ∃ x, xs[i]? = some x := by
  have h : i < vs.length := (List.getElem?_eq_some_iff.mp hv).1
  exact ⟨_, List.getElem?_eq_getElem (by omega)⟩
/-- a comprehension over a list, one new item for each -/
theorem lc_build {K : PySem.W.Frag} {a : Addr} {xs : List V} {g : TG} {tt : TT} {te : TE} {vs : List Nat} {σ : L2.St} {Hc : Hp} {D : Addr} {Qd : Hp → Prop} {β : Type} (S : Hp → V → β → Prop) (ys : List β) (mono : Mono S)
    (hD : Hc D = none) (hlen : xs.length = ys.length) (hl : SqL K Hc a xs) (small : ys.length ≤ 1000)
    (hs : ∀ (i : Nat) (x : V) (y : β) (H : Hp) (Kc : VK) (Ke : Hp → Prop), xs[i]? = some x → ys[i]? = some y → Same Hc H → (∃ acc, H D = some (.lst acc)) → (∀ v H4, Same H H4 → S (wo H4 D) v y → Kc v H4) →
      g x (wipe σ vs) H fun σ2 H2 => wipe σ2 vs = wipe σ vs ∧ tt σ2 H2 fun b H3 => if b = true then te σ2 H3 Kc else Ke H3)
    (hd : ∀ H', Same Hc H' → LAt S H' D ys → Qd H') :
    ∃ W : Nat → Nat → Hp → Prop, (∃ m, W 0 m (upd Hc D (.lst []))) ∧ ∀ i m H, W i m H →
      ((Itl K a).stop i H ∧ Qd H) ∨ ((Itl K a).go i H ∧ ∃ Nx : Hp → Prop, (∀ H', Nx H' → ∃ m', m' < m ∧ W (i + 1) m' H') ∧ ∀ x H', (Itl K a).yld i H x H' → g x (wipe σ vs) H' fun σ2 H2 => wipe σ2 vs = wipe σ vs ∧ tt σ2 H2 fun b H3 =>
        if b = true then te σ2 H3 fun y H4 => ∃ acc, H4 D = some (.lst acc) ∧ acc.length < sizeLine ∧ Nx (upd H4 D (.lst (acc ++ [y]))) else Nx H3) := by
  refine lc_list (xs := xs) (fun i H' => Same Hc H' ∧ ∃ acc : List V, H' D = some (.lst acc) ∧ acc.length = i ∧ ∀ (j : Nat) (y : β), j < i → ys[j]? = some y → ∃ v, acc[j]? = some v ∧ S (wo H' D) v y)
    ⟨same_upd hD, [], upd_same, rfl, fun j y hj => absurd hj (by omega)⟩ (fun i H' _ h => h.1.seq hl) ?_ ?_
  · rintro i x H hx ⟨s, acc, hacc, hlen2, hall⟩
    have hi : i < xs.length := (List.getElem?_eq_some_iff.mp hx).1
    have hy : ys[i]? = some ys[i] := List.getElem?_eq_getElem (by omega)
    refine hs i x ys[i] H _ _ hx hy s ⟨acc, hacc⟩ fun v H4 s4 hS => ?_
    have hacc4 := s4 _ _ hacc
    refine ⟨acc, hacc4, by rw [hlen2]; exact small1000 (by omega), same_late (s.trans s4) hD, acc ++ [v], upd_same, by rw [List.length_append, hlen2]; rfl, fun j y hj hyj => ?_⟩
    by_cases hji : j < i
    · obtain ⟨u, hu, hSu⟩ := hall j y hji hyj
      refine ⟨u, by rw [List.getElem?_append_left (by omega)]; exact hu, ?_⟩
      exact mono _ _ _ _ ((wo_same D s4).trans wo_upd) hSu
    · have e : j = i := by omega
      subst e
      rw [hy] at hyj
      cases hyj
      refine ⟨v, by rw [List.getElem?_append_right (by omega), hlen2, Nat.sub_self]; rfl, mono _ _ _ _ wo_upd hS⟩
  · rintro H' ⟨s, acc, hacc, hlen2, hall⟩
    refine hd H' s ⟨acc, hacc, by omega, fun j y hy => ?_⟩
    have hj : j < ys.length := (List.getElem?_eq_some_iff.mp hy).1
    obtain ⟨v, hv, hS⟩ := hall j y (by omega) hy
    exact ⟨v, hv, mono _ _ _ _ (wo_sub H' D) hS⟩
end Fl

set_option Elab.async false
set_option linter.all false
set_option maxRecDepth 100000
set_option maxHeartbeats 4000000
set_option pp.maxSteps 160
set_option pp.deepTerms false
namespace L
open PySem PySem.Spec PyProof.Rows L2 Fl
local macro_rules | `(tactic| walk_at "side") => `(tactic| first | (exact .inl ⟨by omega, by omega⟩) | (exact .inr ⟨by omega, by omega⟩) | (exact .inr ⟨by decide, by decide⟩) | (show (_ : Int) ≠ _; omega) | (exact ⟨by omega, by decide⟩) | (exact ⟨by decide, by decide, by decide⟩))
local macro_rules | `(tactic| walk_at "go") => `(tactic| repeat (first | refine ⟨_, rfl, ?_⟩ | refine ⟨_, _, rfl, rfl, ?_⟩ | refine .inl ⟨_, rfl, ?_⟩ | refine ⟨rfl, ?_⟩ | refine ⟨(by walk_at "side"), ?_⟩))
local macro_rules | `(tactic| walk_at "see") => `(tactic| (set_option pp.maxSteps 110 in set_option pp.deepTerms false in trace_state))
local macro_rules | `(tactic| walk_at "if") => `(tactic| first | refine ifE ?_ ?_ | refine ifNE ?_ ?_ | refine ifD ?_ ?_ | refine ifN ?_ ?_ | refine ifB ?_ ?_)
def topS (i : Nat) : Stmt := PySem.Challenge.pw_fieldlots_k64_row_pay.main.body.getD i (.Pass ⟨0, 0, 0, 0⟩)
abbrev s_BadNumber_init : Stmt := inClass (topS 2) 0
theorem sc_BadNumber_init : FnScope ["self", "name", "value"] ["self", "name", "value"] (defScope s_BadNumber_init) := ⟨rfl, rfl, rfl, by decide +kernel, rfl, by decide +kernel, by decide +kernel⟩
abbrev s_check_ties : Stmt := topS 5
theorem sc_check_ties : FnScope ["ties"] ["ties"] (defScope s_check_ties) := ⟨rfl, rfl, rfl, by decide +kernel, rfl, by decide +kernel, by decide +kernel⟩
abbrev s_check_prizes : Stmt := topS 7
theorem sc_check_prizes : FnScope ["prizes", "prize"] ["prizes"] (defScope s_check_prizes) := ⟨rfl, rfl, rfl, by decide +kernel, rfl, by decide +kernel, by decide +kernel⟩
abbrev s_winner : Stmt := topS 8
theorem sc_winner : FnScope ["x", "y", "ties"] ["x", "y", "ties"] (defScope s_winner) := ⟨rfl, rfl, rfl, by decide +kernel, rfl, by decide +kernel, by decide +kernel⟩
abbrev s_stretches : Stmt := topS 9
theorem sc_stretches : FnScope ["winners", "found", "winner"] ["winners"] (defScope s_stretches) := ⟨rfl, rfl, rfl, by decide +kernel, rfl, by decide +kernel, by decide +kernel⟩
abbrev s_paid : Stmt := topS 10
theorem sc_paid : FnScope ["one", "other", "prizes", "ties", "winners", "x", "y", "winner", "length"] ["one", "other", "prizes", "ties"] (defScope s_paid) := ⟨rfl, rfl, rfl, by decide +kernel, rfl, by decide +kernel, by decide +kernel⟩
abbrev s_row_pay : Stmt := topS 11
theorem sc_row_pay : FnScope ["one", "other", "prizes", "ties"] ["one", "other", "prizes", "ties"] (defScope s_row_pay) := ⟨rfl, rfl, rfl, by decide +kernel, rfl, by decide +kernel, by decide +kernel⟩
abbrev s_pool : Stmt := topS 13
theorem sc_pool : FnScope ["_law_script", "_law_cell"] ["_law_script"] (defScope s_pool) := ⟨rfl, rfl, rfl, by decide +kernel, rfl, by decide +kernel, by decide +kernel⟩
abbrev s_mix : Stmt := topS 14
theorem sc_mix : FnScope ["_law_state", "_law_turn", "_law_many", "_law_first", "_law_second"] ["_law_state", "_law_turn", "_law_many"] (defScope s_mix) := ⟨rfl, rfl, rfl, by decide +kernel, rfl, by decide +kernel, by decide +kernel⟩
abbrev s_draw : Stmt := topS 15
theorem sc_draw : FnScope ["_law_pool_here", "_law_many", "_law_spare", "_law_found", "_law_cell"] ["_law_pool_here", "_law_many"] (defScope s_draw) := ⟨rfl, rfl, rfl, by decide +kernel, rfl, by decide +kernel, by decide +kernel⟩
abbrev s_wide : Stmt := topS 16
theorem sc_wide : FnScope ["_law_pool_here", "_law_size", "_law_many", "_law_found", "_law_spare"] ["_law_pool_here"] (defScope s_wide) := ⟨rfl, rfl, rfl, by decide +kernel, rfl, by decide +kernel, by decide +kernel⟩
abbrev s_whole : Stmt := topS 17
theorem sc_whole : FnScope ["_law_actual"] ["_law_actual"] (defScope s_whole) := ⟨rfl, rfl, rfl, by decide +kernel, rfl, by decide +kernel, by decide +kernel⟩
abbrev s_ties : Stmt := topS 18
theorem sc_ties : FnScope ["_law_pool_here"] ["_law_pool_here"] (defScope s_ties) := ⟨rfl, rfl, rfl, by decide +kernel, rfl, by decide +kernel, by decide +kernel⟩
abbrev s_outcome : Stmt := topS 19
theorem sc_outcome : FnScope ["_law_x", "_law_y", "_law_ties_here"] ["_law_x", "_law_y", "_law_ties_here"] (defScope s_outcome) := ⟨rfl, rfl, rfl, by decide +kernel, rfl, by decide +kernel, by decide +kernel⟩
abbrev s_pair_of_layouts : Stmt := topS 20
theorem sc_pair_of_layouts : FnScope ["_law_pool_here", "_law_many", "_law_shape", "_law_one", "_law_other", "_law_spare"] ["_law_pool_here"] (defScope s_pair_of_layouts) := ⟨rfl, rfl, rfl, by decide +kernel, rfl, by decide +kernel, by decide +kernel⟩
abbrev s_prizes : Stmt := topS 21
theorem sc_prizes : FnScope ["_law_pool_here", "_law_great", "_law_prizes_here", "_law_spare"] ["_law_pool_here"] (defScope s_prizes) := ⟨rfl, rfl, rfl, by decide +kernel, rfl, by decide +kernel, by decide +kernel⟩
abbrev s_earned : Stmt := topS 22
theorem sc_earned : FnScope ["_law_winners", "_law_side", "_law_prizes_here", "_law_found", "_law_start", "_law_length", "_law_place"] ["_law_winners", "_law_side", "_law_prizes_here"] (defScope s_earned) := ⟨rfl, rfl, rfl, by decide +kernel, rfl, by decide +kernel, by decide +kernel⟩
abbrev s_pay : Stmt := topS 23
theorem sc_pay : FnScope ["_law_one", "_law_other", "_law_prizes_here", "_law_ties_here", "_law_winners", "_law_at"] ["_law_one", "_law_other", "_law_prizes_here", "_law_ties_here"] (defScope s_pay) := ⟨rfl, rfl, rfl, by decide +kernel, rfl, by decide +kernel, by decide +kernel⟩
abbrev s_refused : Stmt := topS 24
theorem sc_refused : FnScope ["_law_one", "_law_other", "_law_prizes_here", "_law_rule", "_law_found", "e", "other_kind"] ["_law_one", "_law_other", "_law_prizes_here", "_law_rule"] (defScope s_refused) := ⟨rfl, rfl, rfl, by decide +kernel, rfl, by decide +kernel, by decide +kernel⟩
abbrev s_due : Stmt := topS 25
theorem sc_due : FnScope ["_law_one", "_law_other", "_law_prizes_here", "_law_rule", "_law_prize"] ["_law_one", "_law_other", "_law_prizes_here", "_law_rule"] (defScope s_due) := ⟨rfl, rfl, rfl, by decide +kernel, rfl, by decide +kernel, by decide +kernel⟩
abbrev s_law : Stmt := topS 26
theorem sc_law : FnScope ["_law_script", "_law_pool_here", "_law_pair", "_law_one", "_law_other", "_law_prizes_here", "_law_rule", "_law_bad", "_law_handed", "_law_due_here", "_law_pay_here", "_law_found", "_law_turned"] ["_law_script"] (defScope s_law) := ⟨rfl, rfl, rfl, by decide +kernel, rfl, by decide +kernel, by decide +kernel⟩
section
variable {P : Program} {w : World} {K : PySem.W.Frag} {mg : Str → Option Value} {base : Heap}

def spMix : Sp := fun vs H Q _ => ∃ (s t m : Int), vs = [.int s, .int t, .int m] ∧ 2 ≤ m ∧ m < 1073741824 ∧ ∀ r : Int, 0 ≤ r → r < m → Q (.int r) H
abbrev CalMix (P : Program) (w : World) (K : PySem.W.Frag) (mg : Str → Option Value) (base : Heap) := Cal P w K mg base 1 "_law_mix" ["_law_state", "_law_turn", "_law_many"] spMix
theorem ok_mix (B : Blt mg) (D : Dfn K mg "_law_mix" "_law_mix" s_mix ["_law_state", "_law_turn", "_law_many"]) : CalMix P w K mg base := by
  refine D.cal sc_mix (fun vs H Q E h => ?_) (fun f cdv A outer st H vs Q E hr h => ?_)
  · obtain ⟨s, t, m, rfl, _⟩ := h
    rfl
  · obtain ⟨s, t, m, rfl, h2, h3, q⟩ := h
    refine ⟨_, (pss_cons (ps_set (i := 3) sc_mix.nd rfl (Or.inl rfl) (pe_op op_modN (pe_callTy call_int1 (by rfl) B.int (by decide +kernel) (pa_cons (pe_op op_add (pe_op op_add (pe_op op_mul (pv 0) (pe_int)) (pe_op op_mul (pv 1) (pe_int))) (pe_int)) pa_nil)) (pe_int)))
      (pss_cons (ps_set (i := 4) sc_mix.nd rfl (Or.inl rfl) (pe_op op_modN (pe_callTy call_int1 (by rfl) B.int (by decide +kernel) (pa_cons (pe_op op_add (pe_op op_add (pe_op op_mul (pv 3) (pv 3)) (pe_op op_mul (pv 1) (pe_int))) (pv 0)) pa_nil)) (pe_int)))
      (pss_one (ps_ret (pe_op op_modN (pe_callTy call_int1 (by rfl) B.int (by decide +kernel) (pa_cons (pe_op op_fdivA (pv 4) (pe_int)) pa_nil)) (pv 2)))))), ?_⟩
    walk_at "go"
    have b1 := fm (s * 16807 + t * 7919 + 101) (show (0 : Int) < 2147483629 by decide)
    refine ⟨.inl ⟨by omega, by omega⟩, ?_⟩
    walk_at "go"
    have b2 := fm (((((s * 16807 + t * 7919 + 101).fmod 2147483629 * (s * 16807 + t * 7919 + 101).fmod 2147483629) + t * 104729 + s).fmod 2147483587).fdiv 11) (show (0 : Int) < m by omega)
    exact q _ b2.1 b2.2
def spDraw : Sp := fun vs H Q _ => ∃ (p : Pla) (m : Int), vs = [.ref p, .int m] ∧ Pool H p ∧ 2 ≤ m ∧ m < 1073741824 ∧ ∀ (r : Int) (H' : Hp), 0 ≤ r → r < m → Pool H' p → Keeps H H' p → Q (.int r) H'
abbrev CalDraw (P : Program) (w : World) (K : PySem.W.Frag) (mg : Str → Option Value) (base : Heap) := Cal P w K mg base 2 "_law_draw" ["_law_pool_here", "_law_many"] spDraw
theorem ok_draw (B : Blt mg) (D : Dfn K mg "_law_draw" "_law_draw" s_draw ["_law_pool_here", "_law_many"]) (C_mix : CalMix P w K mg base) : CalDraw P w K mg base := by
  refine D.cal sc_draw (fun vs H Q E h => ?_) (fun f cdv A outer st H vs Q E hr h => ?_)
  · obtain ⟨p, m, rfl, _⟩ := h
    rfl
  · obtain ⟨p, m, rfl, ⟨ns, i, b, c, d, hp, hq, hi, hqp⟩, h2, h3, k⟩ := h
    refine ⟨_, (pss_cons (ps_if (PW.pt (pw_or (pt_cmpR op_lt (pv 1) (pe_int) (nomark _)) (pw_or1 (pt_cmpR op_eq (pe_callB call_len_seq (by rfl) B.len PySem.boot_len (pa_cons (pe_ix ix_list (pv 0) (pe_int) (fun _ _ => rfl)) pa_nil)) (pe_int) (nomark _))))) (pss_one (ps_ret (pe_int))) pss_nil)
      (pss_cons (ps_asg (pe_op op_add (pe_ix ix_list (pv 0) (pe_int) (fun _ _ => rfl)) (pe_int)) (pg_sub (pv 0) (pe_int) set_list))
      (pss_cons (ps_for PassesOwn.never rfl (pi_range1 (by rfl) B.range (pa_cons (pe_int) pa_nil)) (pg_name (i := 2) sc_draw.nd rfl (Or.inl rfl)) (pss_cons (ps_if (pt_cmpR op_gt (pe_ix ix_list (pv 0) (pe_int) (fun _ _ => rfl)) (pe_int) (nomark _)) (pss_cons (ps_set (i := 3) sc_draw.nd rfl (Or.inl rfl) (pe_op op_modN (pe_callTy call_int1 (by rfl) B.int (by decide +kernel) (pa_cons (pe_ix ix_list (pv 0) (pe_int) (fun _ _ => rfl)) pa_nil)) (pv 1)))
      (pss_cons (ps_asg (pe_op op_fdivA (pe_ix ix_list (pv 0) (pe_int) (fun _ _ => rfl)) (pv 1)) (pg_sub (pv 0) (pe_int) set_list))
      (pss_one (ps_ret (pv 3))))) pss_nil)
      (pss_cons (ps_if (pt_cmpR op_ge (pe_ix ix_list (pv 0) (pe_int) (fun _ _ => rfl)) (pe_callB call_len_seq (by rfl) B.len PySem.boot_len (pa_cons (pe_ix ix_list (pv 0) (pe_int) (fun _ _ => rfl)) pa_nil)) (nomark _)) (pss_one (ps_ret (pe_cal C_mix (hr.mono (by decide)) (pa_cons (pe_ix ix_list (pv 0) (pe_int) (fun _ _ => rfl)) (pa_cons (pe_ix ix_list (pv 0) (pe_int) (fun _ _ => rfl)) (pa_cons (pv 1) pa_nil)))))) pss_nil)
      (pss_cons (ps_set (i := 4) sc_draw.nd rfl (Or.inl rfl) (pe_ix ix_list (pe_ix ix_list (pv 0) (pe_int) (fun _ _ => rfl)) (pe_ix ix_list (pv 0) (pe_int) (fun _ _ => rfl)) (fun _ _ => rfl)))
      (pss_cons (ps_asg (pe_op op_add (pe_ix ix_list (pv 0) (pe_int) (fun _ _ => rfl)) (pe_int)) (pg_sub (pv 0) (pe_int) set_list))
      (pss_cons (ps_asg (pe_op op_modN (pe_callTy call_int1 (by rfl) B.int (by decide +kernel) (pa_cons (pe_op op_add (pe_op op_add (pe_op op_mul (pe_ix ix_list (pv 0) (pe_int) (fun _ _ => rfl)) (pe_int)) (pe_op op_mul (pv 4) (pe_int))) (pe_int)) pa_nil)) (pe_int)) (pg_sub (pv 0) (pe_int) set_list))
      (pss_cons (ps_if (pt_cmpR op_lt (pv 4) (pe_op op_pow (pe_int) (pe_int)) (nomark _)) (pss_one (ps_ret (pe_cal C_mix (hr.mono (by decide)) (pa_cons (pe_ix ix_list (pv 0) (pe_int) (fun _ _ => rfl)) (pa_cons (pe_ix ix_list (pv 0) (pe_int) (fun _ _ => rfl)) (pa_cons (pv 1) pa_nil)))))) pss_nil)
      (pss_one (ps_asg (pe_op op_sub (pv 4) (pe_op op_pow (pe_int) (pe_int))) (pg_sub (pv 0) (pe_int) set_list))))))))))
      (pss_one (ps_ret (pe_cal C_mix (hr.mono (by decide)) (pa_cons (pe_ix ix_list (pv 0) (pe_int) (fun _ _ => rfl)) (pa_cons (pe_ix ix_list (pv 0) (pe_int) (fun _ _ => rfl)) (pa_cons (pv 1) pa_nil))))))))), ?_⟩
    walk_at "go"
    rw [decide_eq_false (by omega)]
    refine iteF ?_
    walk_at "go"
    refine ⟨_, _, _, _, rfl, rfl, SqL.of hp, rfl, ?_⟩
    refine ⟨_, _, rfl, .inl (SqL.of hq), ?_⟩
    walk_at "go"
    walk_at "if"
    · intro _
      walk_at "go"
      exact k 0 H (by omega) (by omega) ⟨ns, i, b, c, d, hp, hq, hi, hqp⟩ (Keeps.refl _ _)
    intro hlen
    refine ⟨_, rfl, _, _, _, _, rfl, rfl, SqL.of hp, rfl, ?_⟩
    walk_at "go"
    refine ⟨_, _, _, _, rfl, rfl, hp, rfl, ?_⟩
    refine ⟨64, rfl, by decide, by decide, for_range (n := 64) (fun _ σ H' => ∃ v2 v3 v4 : Option V, σ = [some (.ref (p : Addr)), some (.int m), v2, v3, v4] ∧ ∃ i b c d : Int, H' p = some (.lst [.ref p.q, .int i, .int b, .int c, .int d]) ∧ H' p.q = some (.lst (ns.map V.int)) ∧ 0 ≤ i ∧ Keeps H H' p)
      ⟨none, none, none, rfl, i, b, c, d + 1, upd_same, by rw [upd_ne hqp]; exact hq, hi, Keeps.upd⟩ ?_ ?_⟩
    · rintro j σ H1 hj ⟨v2, v3, v4, rfl, i, b, c, d, hp, hq, hi, hk⟩
      refine ⟨_, rfl, _, _, _, _, rfl, rfl, SqL.of hp, rfl, ?_⟩
      walk_at "go"
      walk_at "if"
      · intro hb
        refine ⟨_, rfl, _, _, _, _, rfl, rfl, SqL.of hp, rfl, ?_⟩
        walk_at "go"
        refine ⟨_, _, _, _, rfl, rfl, SqL.of hp, rfl, ?_⟩
        walk_at "go"
        refine ⟨divA (b := 30) (by omega) (by omega) (by decide) (by decide), ?_⟩
        walk_at "go"
        refine ⟨_, _, _, _, rfl, rfl, hp, rfl, ?_⟩
        walk_at "go"
        have b2 := fm b (show (0 : Int) < m by omega)
        exact k _ _ b2.1 b2.2 ⟨ns, i, _, c, d, upd_same, by rw [upd_ne hqp]; exact hq, hi, hqp⟩ (hk.trans Keeps.upd)
      · intro hb
        refine ⟨_, rfl, _, _, _, _, rfl, rfl, SqL.of hp, rfl, ?_⟩
        walk_at "go"
        refine ⟨_, _, _, _, rfl, rfl, SqL.of hp, rfl, ?_⟩
        refine ⟨_, _, rfl, .inl (SqL.of hq), ?_⟩
        walk_at "go"
        walk_at "if"
        · intro hl
          refine ⟨_, rfl, _, _, _, _, rfl, rfl, SqL.of hp, rfl, ?_⟩
          refine ⟨_, rfl, _, _, _, _, rfl, rfl, SqL.of hp, rfl, ?_⟩
          walk_at "go"
          refine ⟨_, _, _, rfl, h2, h3, fun r r0 r1 => ?_⟩
          exact k _ _ r0 r1 ⟨ns, i, b, c, d, hp, hq, hi, hqp⟩ hk
        · intro hl
          have hl2 : i < (ns.length : Int) := by
            have hl' : ¬ ((ns.map V.int).length : Int) ≤ i := hl
            rw [List.length_map] at hl'
            omega
          obtain ⟨n, rfl⟩ : ∃ n : Nat, i = (n : Int) := ⟨i.toNat, by omega⟩
          have hn : n < ns.length := by omega
          refine ⟨_, rfl, _, _, _, _, rfl, rfl, SqL.of hp, rfl, ?_⟩
          refine ⟨_, rfl, _, _, _, _, rfl, rfl, SqL.of hp, rfl, ?_⟩
          refine ⟨_, _, _, _, rfl, rfl, SqL.of hq, atI_nat (ints_at hn), ?_⟩
          refine ⟨_, rfl, _, _, _, _, rfl, rfl, SqL.of hp, rfl, ?_⟩
          walk_at "go"
          refine ⟨_, _, _, _, rfl, rfl, hp, rfl, ?_⟩
          refine ⟨_, rfl, _, _, _, _, rfl, rfl, SqL.of upd_same, rfl, ?_⟩
          walk_at "go"
          refine ⟨_, _, _, _, rfl, rfl, upd_same, rfl, ?_⟩
          walk_at "go"
          walk_at "if"
          · intro hcell
            refine ⟨_, rfl, _, _, _, _, rfl, rfl, SqL.of upd_same, rfl, ?_⟩
            refine ⟨_, rfl, _, _, _, _, rfl, rfl, SqL.of upd_same, rfl, ?_⟩
            walk_at "go"
            refine ⟨_, _, _, rfl, h2, h3, fun r r0 r1 => ?_⟩
            exact k _ _ r0 r1 ⟨ns, _, b, _, d, upd_same, by rw [upd_ne hqp, upd_ne hqp]; exact hq, by omega, hqp⟩ ((hk.trans Keeps.upd).trans Keeps.upd)
          · intro hcell
            walk_at "go"
            refine ⟨_, _, _, _, rfl, rfl, upd_same, rfl, ?_⟩
            exact ⟨_, _, _, rfl, _, _, _, d, upd_same, by rw [upd_ne hqp, upd_ne hqp, upd_ne hqp]; exact hq, by omega, ((hk.trans Keeps.upd).trans Keeps.upd).trans Keeps.upd⟩
    · rintro σ H1 ⟨v2, v3, v4, rfl, i, b, c, d, hp, hq, hi, hk⟩
      refine ⟨_, rfl, _, _, _, _, rfl, rfl, SqL.of hp, rfl, ?_⟩
      refine ⟨_, rfl, _, _, _, _, rfl, rfl, SqL.of hp, rfl, ?_⟩
      walk_at "go"
      refine ⟨_, _, _, rfl, h2, h3, fun r r0 r1 => ?_⟩
      exact k _ _ r0 r1 ⟨ns, i, b, c, d, hp, hq, hi, hqp⟩ hk

theorem wide_ix {s : Int} (h0 : 3 ≤ s) (h1 : s < 6) : ∃ M : Int, atI [V.int 1, V.int 2, V.int 5] (s - 3) = some (V.int M) ∧ (M = 1 ∨ M = 2 ∨ M = 5) := by
  have : s = 3 ∨ s = 4 ∨ s = 5 := by omega
  rcases this with rfl | rfl | rfl
  · exact ⟨1, rfl, by omega⟩
  · exact ⟨2, rfl, by omega⟩
  · exact ⟨5, rfl, by omega⟩
def spWide : Sp := fun vs H Q _ => ∃ (p : Pla), vs = [.ref p] ∧ Pool H p ∧ ∀ (r : Int) (H' : Hp), 0 ≤ r → r < 10 ^ 30 → Pool H' p → Keeps H H' p → Q (.int r) H'
abbrev CalWide (P : Program) (w : World) (K : PySem.W.Frag) (mg : Str → Option Value) (base : Heap) := Cal P w K mg base 3 "_law_wide" ["_law_pool_here"] spWide
theorem ok_wide (B : Blt mg) (D : Dfn K mg "_law_wide" "_law_wide" s_wide ["_law_pool_here"]) (C_draw : CalDraw P w K mg base) : CalWide P w K mg base := by
  refine D.cal sc_wide (fun vs H Q E h => ?_) (fun f cdv A outer st H vs Q E hr h => ?_)
  · obtain ⟨p, rfl, _⟩ := h
    rfl
  · obtain ⟨p, rfl, hP, k⟩ := h
    refine ⟨_, (pss_cons (ps_set (i := 1) sc_wide.nd rfl (Or.inl rfl) (pe_cal C_draw (hr.mono (by decide)) (pa_cons (pv 0) (pa_cons (pe_int) pa_nil))))
      (pss_cons (ps_if (pt_cmpR op_eq (pv 1) (pe_int) (nomark _)) (pss_one (ps_ret (pe_cal C_draw (hr.mono (by decide)) (pa_cons (pv 0) (pa_cons (pe_int) pa_nil))))) pss_nil)
      (pss_cons (ps_if (pt_cmpR op_lt (pv 1) (pe_int) (nomark _)) (pss_one (ps_ret (pe_cal C_draw (hr.mono (by decide)) (pa_cons (pv 0) (pa_cons (pe_int) pa_nil))))) pss_nil)
      (pss_cons (ps_set (i := 2) sc_wide.nd rfl (Or.inl rfl) (pe_ix ix_tup (pe_tup (pa_cons (pe_int) (pa_cons (pe_int) (pa_cons (pe_int) pa_nil)))) (pe_op op_sub (pv 1) (pe_int)) (fun _ _ => rfl)))
      (pss_cons (ps_set (i := 3) sc_wide.nd rfl (Or.inl rfl) (pe_int))
      (pss_cons (ps_for PassesOwn.never rfl (pi_range1 (by rfl) B.range (pa_cons (pv 2) pa_nil)) (pg_name (i := 4) sc_wide.nd rfl (Or.inl rfl)) (pss_one (ps_set (i := 3) sc_wide.nd rfl (Or.inl rfl) (pe_op op_add (pe_op op_mul (pv 3) (pe_op op_pow (pe_int) (pe_int))) (pe_cal C_draw (hr.mono (by decide)) (pa_cons (pv 0) (pa_cons (pe_op op_pow (pe_int) (pe_int)) pa_nil)))))))
      (pss_one (ps_ret (pv 3))))))))), ?_⟩
    refine ⟨_, rfl, p, 6, rfl, hP, by decide, by decide, fun s H1 s0 s1 hP1 hk1 => ?_⟩
    walk_at "go"
    walk_at "if"
    · intro _
      refine ⟨_, rfl, p, 4, rfl, hP1, by decide, by decide, fun r H2 r0 r1 hP2 hk2 => ?_⟩
      exact k r H2 r0 (by omega) hP2 (hk1.trans hk2)
    intro n0
    walk_at "go"
    walk_at "if"
    · intro _
      refine ⟨_, rfl, p, 30, rfl, hP1, by decide, by decide, fun r H2 r0 r1 hP2 hk2 => ?_⟩
      exact k r H2 r0 (by omega) hP2 (hk1.trans hk2)
    intro n3
    obtain ⟨M, eM, hM⟩ := wide_ix (s := s) (by omega) s1
    refine ⟨(by show 3 ≤ sizeLine; decide), fun t ht => ?_⟩
    walk_at "go"
    refine ⟨_, _, _, _, rfl, rfl, SqT.of upd_same, eM, ?_⟩
    refine ⟨_, rfl, _, rfl, (by omega), (by omega), for_range (n := M.toNat) (fun i σ H' => ∃ (f : Int) (v4 : Option V), σ = [some (.ref (p : Addr)), some (.int s), some (.int M), some (.int f), v4] ∧ 0 ≤ f ∧ f < 1000000 ^ i ∧ Pool H' p ∧ Keeps H H' p)
      ⟨0, none, rfl, by omega, by decide, hP1.upd ht, hk1.trans (same_keeps (same_upd ht))⟩ ?_ ?_⟩
    · rintro i σ H2 hi ⟨f, v4, rfl, f0, f1, hP2, hk2⟩
      walk_at "go"
      refine ⟨_, _, rfl, hP2, by decide, by decide, fun r H3 r0 r1 hP3 hk3 => ?_⟩
      walk_at "go"
      have r1' : r < 1000000 := r1
      refine ⟨f * 1000000 + r, _, rfl, by omega, ?_, hP3, hk2.trans hk3⟩
      rw [Int.pow_succ]
      omega
    · rintro σ H2 ⟨f, v4, rfl, f0, f1, hP2, hk2⟩
      refine ⟨_, rfl, k f H2 f0 ?_ hP2 hk2⟩
      rcases hM with rfl | rfl | rfl
      · exact Int.lt_of_lt_of_le f1 (by decide)
      · exact Int.lt_of_lt_of_le f1 (by decide)
      · exact Int.lt_of_lt_of_le f1 (by decide)

def spPool (K : PySem.W.Frag) : Sp := fun vs H Q _ => ∃ (a : Addr) (ns : List Int), vs = [.ref a] ∧ SqL K H a (ns.map V.int) ∧ ns.length ≤ 63 ∧ ∀ (p : Pla) (H' : Hp), Same H H' → H p = none → H p.q = none → Pool H' p → Q (.ref p) H'
abbrev CalPool (P : Program) (w : World) (K : PySem.W.Frag) (mg : Str → Option Value) (base : Heap) := Cal P w K mg base 1 "_law_pool" ["_law_script"] (spPool K)
theorem ok_pool (B : Blt mg) (D : Dfn K mg "_law_pool" "_law_pool" s_pool ["_law_script"]) : CalPool P w K mg base := by
  refine D.cal sc_pool (fun vs H Q E h => ?_) (fun f cdv A outer st H vs Q E hr h => ?_)
  · obtain ⟨a, ns, rfl, _⟩ := h
    rfl
  · obtain ⟨a, ns, rfl, hS, hl, k⟩ := h
    refine ⟨_, (pss_one (ps_ret (pe_lst (pa_cons (pe_lc (own := [("_law_cell", 1)]) (g := gName 1) rfl sc_pool.nd (pi_list (pv 0)) (blkOk_by (N := ["_law_script", "_law_cell"]) (sc := defScope s_pool) (by decide +kernel)) (fun _ _ _ _ _ => pg_name (i := 1) sc_pool.nd rfl (Or.inl rfl)) (fun _ _ _ _ _ => pts_nil) (fun _ _ _ _ _ => (pe_callTy call_int1 (by rfl) B.int (by decide +kernel) (pa_cons (pv 1) pa_nil)))) (pa_cons (pe_int) (pa_cons (pe_int) (pa_cons (pe_int) (pa_cons (pe_int) pa_nil)))))))), ?_⟩
    refine ⟨_, rfl, a, rfl, ⟨_, hS⟩, fun D hD => lc_list (K := K) (a := a) (xs := ns.map V.int) (fun i H' => H' = upd H D (.lst ((ns.take i).map V.int))) rfl (fun i H' _ e => by rw [e]; exact (same_upd hD).seq hS) ?_ ?_⟩
    · rintro i x H' hx rfl
      obtain ⟨z, hz, rfl⟩ := int_of_map hx
      refine ⟨rfl, ?_⟩
      refine ⟨_, rfl, .inl ⟨_, rfl, _, upd_same, ?_, ?_⟩⟩
      · rw [List.length_map, List.length_take]
        exact small1000 (by omega)
      · rw [upd_upd, List.take_add_one, hz, List.map_append]
        rfl
    · rintro H' rfl
      refine ⟨(by show 5 ≤ sizeLine; decide), fun p hp => ?_⟩
      have hne : D ≠ p := ne_of_none upd_same hp
      have hp0 : H p = none := by rw [upd_ne hne.symm] at hp; exact hp
      refine k ⟨p, D⟩ _ ((same_upd hD).trans (same_upd hp)) hp0 hD ⟨ns, 0, 0, 1, 0, upd_same, ?_, by decide, hne⟩
      show upd _ p _ D = _
      rw [upd_ne hne, upd_same, List.length_map, List.take_length]

theorem kit_own {K : PySem.W.Frag} {t : Value} {C : Addr} {b : Bool} (hd : PySem.W.hasDictIn K C = true) (ht : PySem.W.typeIn K (.ref C) = some (.type "type")) (hs : PySem.W.subIn K t (.ref C) = some b) (hself : PySem.W.subIn K t t = some true) : PySem.W.kitOne K t (.ref C) = some b := by
  unfold PySem.W.kitOne
  by_cases h : (t == Value.ref C) = true
  · rw [if_pos h]
    have e := beq_iff_eq.mp h
    subst e
    rw [hs] at hself
    exact hself.symm
  · rw [if_neg h]
    obtain ⟨cd, hc, _⟩ := PySem.W.any_some hd
    have e2 : ((PySem.W.clsIn K C).isSome && PySem.W.typeIn K (.ref C) == some (.type "type")) = true := by rw [hc, ht] <;> rfl
    show (if ((PySem.W.clsIn K C).isSome && PySem.W.typeIn K (.ref C) == some (.type "type")) = true then PySem.W.subIn K t (.ref C) else none) = some b
    rw [if_pos e2]
    exact hs
theorem kit_int {K : PySem.W.Frag} {C : Addr} {b : Bool} (hd : PySem.W.hasDictIn K C = true) (ht : PySem.W.typeIn K (.ref C) = some (.type "type")) (hs : PySem.W.subIn K (.type "int") (.ref C) = some b) : PySem.W.kitOne K (.type "int") (.ref C) = some b := by
  unfold PySem.W.kitOne
  rw [if_neg (by intro h; cases beq_iff_eq.mp h)]
  obtain ⟨cd, hc, _⟩ := PySem.W.any_some hd
  have e2 : ((PySem.W.clsIn K C).isSome && PySem.W.typeIn K (.ref C) == some (.type "type")) = true := by rw [hc, ht] <;> rfl
  show (if ((PySem.W.clsIn K C).isSome && PySem.W.typeIn K (.ref C) == some (.type "type")) = true then PySem.W.subIn K (.type "int") (.ref C) else none) = some b
  rw [if_pos e2]
  exact hs
def spWhole : Sp := fun vs H Q _ => ∃ (i : Int), vs = [.int i] ∧ Q (.bl true) H
abbrev CalWhole (P : Program) (w : World) (K : PySem.W.Frag) (mg : Str → Option Value) (base : Heap) := Cal P w K mg base 1 "_law_whole" ["_law_actual"] spWhole
theorem ok_whole (B : Blt mg) (D : Dfn K mg "_law_whole" "_law_whole" s_whole ["_law_actual"]) : CalWhole P w K mg base := by
  refine D.cal sc_whole (fun vs H Q E h => ?_) (fun f cdv A outer st H vs Q E hr h => ?_)
  · obtain ⟨i, rfl, _⟩ := h
    rfl
  · obtain ⟨i, rfl, q⟩ := h
    refine ⟨_, (pss_one (ps_ret ((pe_and (pe_callB call_isi (by rfl) B.isinstance (by decide +kernel) (pa_cons (pv 0) (pa_cons (pe_bltn (v := .ty "int") (by rfl) B.int (by decide +kernel) rfl) pa_nil))) (pe_one (pe_not (pe_callB call_isi (by rfl) B.isinstance (by decide +kernel) (pa_cons (pv 0) (pa_cons (pe_bltn (v := .ty "bool") (by rfl) B.bool (by decide +kernel) rfl) pa_nil))))))))), ?_⟩
    refine ⟨_, rfl, _, _, _, _, true, rfl, .ty _, .base (.int _), kit_ty (by decide +kernel), _, rfl, iteT ?_⟩
    refine ⟨_, rfl, _, _, _, _, false, rfl, .ty _, .base (.int _), kit_ty (by decide +kernel), _, rfl, ?_⟩
    exact q

theorem ok_bn {C f : Addr} {fd : FuncData} (T : BnC K mg C) (F : Fun K "__init__" "BadNumber.__init__" s_BadNumber_init f fd) : FnOk P w K mg base CX0 1 f fd ["self", "name", "value"] (spBN C) := by
  refine F.ok sc_BadNumber_init (fun vs H Q E h => ?_) (fun cdv A outer st H vs Q E hr h => ?_)
  · obtain ⟨a, n, v, rfl, _⟩ := h
    rfl
  · obtain ⟨a, n, v, rfl, ha, k⟩ := h
    refine ⟨_, pss_cons (ps_ost (pv 0) (pv 1)) (pss_one (ps_ost (pv 0) (pv 2))), ?_⟩
    refine ⟨_, rfl, _, rfl, a, C, rfl, T.o, T.nN, .inl ⟨ha, fun dx hdx hne => ?_⟩⟩
    refine ⟨_, rfl, _, rfl, a, C, rfl, T.o, T.nV, .inr ⟨dx, [("name", n)], upd_same, ?_, (by show 1 ≤ 900; decide), k dx hdx hne⟩⟩
    rw [upd_ne hne, upd_same]
def spTies (BN : Addr) : Sp := fun vs H Q E => ∃ (v : Int), vs = [.int v] ∧ ((v = -1 ∨ v = 0 ∨ v = 1) → ∀ H', Same H H' → Q .non H') ∧ (¬ (v = -1 ∨ v = 0 ∨ v = 1) → Ref E BN H "ties" v)
abbrev CalTies (P : Program) (w : World) (K : PySem.W.Frag) (mg : Str → Option Value) (base : Heap) (BN : Addr) := CalX P w K mg base 3 "check_ties" ["ties"] (spTies BN)
theorem ok_ties {BN : Addr} (TB : BnC K mg BN) (CE : CalE P w K mg base 1 BN) (D : Dfn K mg "check_ties" "check_ties" s_check_ties ["ties"]) : CalTies P w K mg base BN := by
  refine D.calX sc_check_ties (fun vs H Q E h => ?_) (fun f cdv A outer st H vs Q E hr h => ?_)
  · obtain ⟨v, rfl, _⟩ := h
    rfl
  · obtain ⟨v, rfl, k1, k2⟩ := h
    have hr0 : Room 2 _ := hr
    refine ⟨_, (pss_one (ps_if (pt_cmpR op_notIn_seq (pv 0) (pe_tup (pa_cons (pe_un un_neg pe_int) (pa_cons pe_int (pa_cons pe_int pa_nil)))) (by rfl)) (pss_one (ps_raise rfl (takes_of rfl rfl rfl rfl) (pmk_bn TB CE (hr0.mono (by decide)) (pa_cons pe_str (pa_cons (pv 0) pa_nil))))) pss_nil)), ?_⟩
    refine ⟨_, rfl, _, rfl, (by show 3 ≤ sizeLine; decide), fun t ht => ?_⟩
    refine ⟨t, _, rfl, .inr (SqT.of upd_same), rfl, rfl, _, rfl, ?_⟩
    show if (!inV (V.int v) [V.int (-1), V.int 0, V.int 1]) = true then _ else _
    by_cases h : v = -1 ∨ v = 0 ∨ v = 1
    · have e : inV (V.int v) [V.int (-1), V.int 0, V.int 1] = true := by
        rcases h with rfl | rfl | rfl <;> rfl
      rw [e]
      exact iteF (k1 h _ (same_upd ht))
    · have e : inV (V.int v) [V.int (-1), V.int 0, V.int 1] = false := by
        show ((-1 : Int) == v || ((0 : Int) == v || ((1 : Int) == v || false))) = false
        rw [beq_eq_false_iff_ne.mpr (show (-1 : Int) ≠ v by omega), beq_eq_false_iff_ne.mpr (show (0 : Int) ≠ v by omega), beq_eq_false_iff_ne.mpr (show (1 : Int) ≠ v by omega)]
        rfl
      rw [e]
      refine iteT ?_
      exact ⟨_, rfl, bn_made ((k2 h).same (same_upd ht))⟩
end

theorem keeps_late {H0 H : Hp} {D p : Addr} {o : HO} (s : Keeps H0 H p) (h : H0 D = none) : Keeps H0 (upd H D o) p := fun b u e n => by
  rw [upd_ne (ne_of_none e h)]
  exact s b u e n
/-! ### lists of ints as data -/
theorem ints_lay : ∀ ns : List Int, PyData.canLayAll0 (ns.map PyData.int) = true
  | [] => by simp [PyData.canLayAll0]
  | n :: r => by simp [PyData.canLayAll0, PyData.canLay0, ints_lay r]
theorem ints_depth : ∀ ns : List Int, PyData.depthAll (ns.map PyData.int) ≤ 1
  | [] => by simp [PyData.depthAll]
  | n :: r => by
    have := ints_depth r
    simp [PyData.depthAll, PyData.depth]
    omega
theorem ints_ok (ns : List Int) : SeqAt.shaped (.list (ns.map PyData.int)) = true := by
  have h1 := ints_lay ns
  have h2 := ints_depth ns
  simp [SeqAt.shaped, PyData.canLay0, PyData.depth, h1]
  omega
theorem ints_dpa {K : PySem.W.Frag} {H : Hp} : ∀ ns : List Int, DpAll K H (ns.map V.int) (ns.map PyData.int)
  | [] => .nil
  | n :: r => .cons (.int n) (ints_dpa r)
theorem ints_dp {K : PySem.W.Frag} {H : Hp} {a : Addr} {ns : List Int} (h : H a = some (.lst (ns.map V.int))) : Dp K H (.ref a) (.list (ns.map PyData.int)) := .lst (SqL.of h) (ints_dpa ns)
/-! ### stretches -/
def outc (x y t : Int) : Int := if x > y then 1 else if x < y then -1 else t
abbrev Tri (w : Int) : Prop := w = -1 ∨ w = 0 ∨ w = 1
theorem outc_tri {x y t : Int} (h : Tri t) : Tri (outc x y t) := by
  unfold outc
  split
  · exact .inr (.inr rfl)
  · split
    · exact .inl rfl
    · exact h
theorem outc_neg {x y t : Int} : outc y x (-t) = -outc x y t := by
  unfold outc
  split <;> split <;> (try split) <;> (try split) <;> omega
def wins (xs ys : List Int) (v : Int) : List Int := List.zipWith (fun x y => outc x y v) xs ys
def pz (ps : List Int) (n : Nat) : Int := ps.getD (min n ps.length - 1) 0
/-- what stands when the stretch of w is n long, and the rest of it -/
def pend (ps : List Int) : Int → Nat → List Int → Int
  | w, n, [] => w * pz ps n
  | w, n, x :: r => if w = x then pend ps w (n + 1) r else w * pz ps n + pend ps x 1 r
def paidv (ps : List Int) : List Int → Int
  | [] => 0
  | w :: r => pend ps w 1 r
/-- the stretches, as they grow -/
def rleAdd (acc : List (Int × Nat)) (x : Int) : List (Int × Nat) := match acc.getLast? with
  | none => [(x, 1)]
  | some (w, n) => if w = x then acc.dropLast ++ [(w, n + 1)] else acc ++ [(x, 1)]
def rle (ws : List Int) : List (Int × Nat) := ws.foldl rleAdd []
def worth (ps : List Int) (zs : List (Int × Nat)) : Int := (zs.map (fun z => z.1 * pz ps z.2)).sum
theorem rleAdd_last {acc : List (Int × Nat)} {w x : Int} {n : Nat} : rleAdd (acc ++ [(w, n)]) x = if w = x then acc ++ [(w, n + 1)] else acc ++ [(w, n)] ++ [(x, 1)] := by
  unfold rleAdd
  rw [List.getLast?_concat]
  simp only [List.dropLast_concat]
theorem worth_app {ps : List Int} {a b : List (Int × Nat)} : worth ps (a ++ b) = worth ps a + worth ps b := by
  unfold worth
  rw [List.map_append, List.sum_append]
theorem worth_one {ps : List Int} {w : Int} {n : Nat} : worth ps [(w, n)] = w * pz ps n := by
  show w * pz ps n + 0 = _
  omega
theorem worth_fold {ps : List Int} : ∀ {r : List Int} {acc : List (Int × Nat)} {w : Int} {n : Nat}, worth ps (r.foldl rleAdd (acc ++ [(w, n)])) = worth ps acc + pend ps w n r
  | [], acc, w, n => by
    show worth ps (acc ++ [(w, n)]) = _
    rw [worth_app, worth_one]
    rfl
  | x :: r, acc, w, n => by
    show worth ps (r.foldl rleAdd (rleAdd (acc ++ [(w, n)]) x)) = worth ps acc + (if w = x then pend ps w (n + 1) r else w * pz ps n + pend ps x 1 r)
    rw [rleAdd_last]
    by_cases h : w = x
    · rw [if_pos h, if_pos h, worth_fold]
    · rw [if_neg h, if_neg h, worth_fold, worth_app, worth_one]
      omega
theorem worth_rle {ps ws : List Int} : worth ps (rle ws) = paidv ps ws := by
  cases ws with
  | nil => rfl
  | cons w r =>
    have h := worth_fold (ps := ps) (r := r) (acc := []) (w := w) (n := 1)
    show worth ps (r.foldl rleAdd ([] ++ [(w, 1)])) = pend ps w 1 r
    rw [h]
    show (0 : Int) + _ = _
    omega
theorem rle_tri : ∀ {r : List Int} {acc : List (Int × Nat)}, (∀ x, x ∈ r → Tri x) → (∀ z, z ∈ acc → Tri z.1 ∧ 1 ≤ z.2) → ∀ z, z ∈ r.foldl rleAdd acc → Tri z.1 ∧ 1 ≤ z.2
  | [], acc, _, ha => ha
  | x :: r, acc, hr, ha => by
    refine rle_tri (r := r) (acc := rleAdd acc x) (fun y hy => hr y (List.mem_cons_of_mem _ hy)) fun z hz => ?_
    have hx := hr x (List.mem_cons_self ..)
    unfold rleAdd at hz
    split at hz
    · rw [List.mem_singleton.mp hz]
      exact ⟨hx, Nat.le_refl _⟩
    · rename_i w n e
      have hw : (w, n) ∈ acc := List.mem_of_getLast? e
      split at hz
      · rcases List.mem_append.mp hz with h | h
        · exact ha z (List.dropLast_subset _ h)
        · rw [List.mem_singleton.mp h]
          exact ⟨(ha _ hw).1, by show 1 ≤ n + 1; omega⟩
      · rcases List.mem_append.mp hz with h | h
        · exact ha z h
        · rw [List.mem_singleton.mp h]
          exact ⟨hx, Nat.le_refl _⟩
/-- how long the stretch of w goes on -/
def lead (w : Int) : List Int → Nat
  | [] => 0
  | x :: r => if x = w then 1 + lead w r else 0
/-- what a side earns; b: the field ahead is its own -/
def earn (ps : List Int) (s : Int) : Bool → List Int → Int
  | _, [] => 0
  | b, x :: r => (if x = s ∧ b = false then pz ps (1 + lead s r) else 0) + earn ps s (decide (x = s)) r
theorem pend_earn {ps : List Int} : ∀ {r : List Int} {w : Int} {n : Nat}, Tri w → (∀ x, x ∈ r → Tri x) → pend ps w n r = w * pz ps (n + lead w r) + earn ps 1 (decide (w = 1)) r - earn ps (-1) (decide (w = -1)) r
  | [], w, n, _, _ => by
    show w * pz ps n = w * pz ps (n + 0) + 0 - 0
    rw [Nat.add_zero]
    omega
  | x :: r, w, n, hw, hr => by
    have hx := hr x (List.mem_cons_self ..)
    have hr' := fun y hy => hr y (List.mem_cons_of_mem x hy)
    show (if w = x then pend ps w (n + 1) r else w * pz ps n + pend ps x 1 r) = w * pz ps (n + (if x = w then 1 + lead w r else 0)) + ((if x = 1 ∧ decide (w = 1) = false then pz ps (1 + lead 1 r) else 0) + earn ps 1 (decide (x = 1)) r) - ((if x = -1 ∧ decide (w = -1) = false then pz ps (1 + lead (-1) r) else 0) + earn ps (-1) (decide (x = -1)) r)
    by_cases h : w = x
    · subst h
      have n1 : ¬ (w = 1 ∧ decide (w = 1) = false) := fun h => by
        rw [decide_eq_true h.1] at h
        exact absurd h.2 (by decide)
      have n2 : ¬ (w = -1 ∧ decide (w = -1) = false) := fun h => by
        rw [decide_eq_true h.1] at h
        exact absurd h.2 (by decide)
      rw [if_pos rfl, if_pos rfl, if_neg n1, if_neg n2, pend_earn hw hr', Nat.add_assoc]
      omega
    · rw [if_neg h, if_neg (Ne.symm h), pend_earn hx hr', Nat.add_zero]
      rcases hx with rfl | rfl | rfl
      · rw [if_neg (by intro q; exact absurd q.1 (by decide)), if_pos ⟨rfl, decide_eq_false h⟩]
        omega
      · rw [if_neg (by intro q; exact absurd q.1 (by decide)), if_neg (by intro q; exact absurd q.1 (by decide))]
        omega
      · rw [if_pos ⟨rfl, decide_eq_false h⟩, if_neg (by intro q; exact absurd q.1 (by decide))]
        omega
theorem paid_earn {ps ws : List Int} (h : ∀ x, x ∈ ws → Tri x) : paidv ps ws = earn ps 1 false ws - earn ps (-1) false ws := by
  cases ws with
  | nil => rfl
  | cons w r =>
    have hw := h w (List.mem_cons_self ..)
    have hr := fun y hy => h y (List.mem_cons_of_mem w hy)
    show pend ps w 1 r = ((if w = 1 ∧ false = false then pz ps (1 + lead 1 r) else 0) + earn ps 1 (decide (w = 1)) r) - ((if w = -1 ∧ false = false then pz ps (1 + lead (-1) r) else 0) + earn ps (-1) (decide (w = -1)) r)
    rw [pend_earn hw hr]
    rcases hw with rfl | rfl | rfl
    · rw [if_neg (by intro q; exact absurd q.1 (by decide)), if_pos ⟨rfl, rfl⟩]
      omega
    · rw [if_neg (by intro q; exact absurd q.1 (by decide)), if_neg (by intro q; exact absurd q.1 (by decide))]
      omega
    · rw [if_pos ⟨rfl, rfl⟩, if_neg (by intro q; exact absurd q.1 (by decide))]
      omega
theorem pend_neg {ps : List Int} : ∀ {r : List Int} {w : Int} {n : Nat}, pend ps (-w) n (r.map (fun x => -x)) = -pend ps w n r
  | [], w, n => by
    show -w * pz ps n = -(w * pz ps n)
    exact Int.neg_mul ..
  | x :: r, w, n => by
    show (if -w = -x then pend ps (-w) (n + 1) (r.map (fun x => -x)) else -w * pz ps n + pend ps (-x) 1 (r.map (fun x => -x))) = -(if w = x then pend ps w (n + 1) r else w * pz ps n + pend ps x 1 r)
    by_cases h : w = x
    · rw [if_pos h, if_pos (by rw [h]), pend_neg]
    · rw [if_neg h, if_neg (by omega), pend_neg, Int.neg_mul]
      omega
theorem paid_neg {ps ws : List Int} : paidv ps (ws.map (fun x => -x)) = -paidv ps ws := by
  cases ws with
  | nil => rfl
  | cons w r => exact pend_neg
theorem wins_neg : ∀ {xs ys : List Int} {v : Int}, wins ys xs (-v) = (wins xs ys v).map (fun x => -x)
  | [], ys, v => by
    unfold wins
    cases ys <;> rfl
  | x :: xs, [], v => rfl
  | x :: xs, y :: ys, v => by
    have h := wins_neg (xs := xs) (ys := ys) (v := v)
    show outc y x (-v) :: wins ys xs (-v) = (-outc x y v) :: (wins xs ys v).map (fun x => -x)
    rw [h, outc_neg]
theorem wins_len {xs ys : List Int} {v : Int} (h : xs.length = ys.length) : (wins xs ys v).length = xs.length := by
  unfold wins
  rw [List.length_zipWith, ← h, Nat.min_self]
theorem wins_at {xs ys : List Int} {v x y : Int} {i : Nat} (h1 : xs[i]? = some x) (h2 : ys[i]? = some y) : (wins xs ys v)[i]? = some (outc x y v) := by
  unfold wins
  rw [List.getElem?_zipWith, h1, h2]
theorem wins_tri : ∀ {xs ys : List Int} {v : Int}, Tri v → ∀ x, x ∈ wins xs ys v → Tri x
  | [], ys, v, _, x, hx => by
    unfold wins at hx
    cases ys <;> exact nomatch hx
  | a :: xs, [], v, _, x, hx => nomatch hx
  | a :: xs, b :: ys, v, hv, x, hx => by
    rcases List.mem_cons.mp hx with h | h
    · rw [h]
      exact outc_tri hv
    · exact wins_tri hv x h
def payv (xs ys : List Int) (v : Int) (ps : List Int) : Int := paidv ps (wins xs ys v)
theorem pay_turned {xs ys ps : List Int} {v : Int} : payv ys xs (-v) ps = -payv xs ys v ps := by
  unfold payv
  rw [wins_neg, paid_neg]
theorem pz_at {ps : List Int} {n : Nat} (h : 1 ≤ n) (hp : 1 ≤ ps.length) : ps[min n ps.length - 1]? = some (pz ps n) := by
  unfold pz
  rw [List.getD_eq_getElem?_getD, List.getElem?_eq_getElem (by omega)]
  rfl
/-! ### what is refused -/
inductive Du
  | ok
  | num (n : Str) (v : Int)
  | mis
def neg1 : List Int → Option Int
  | [] => none
  | p :: r => if p < 0 then some p else neg1 r
def duO (a b : Nat) (ps : List Int) (v : Int) : Du := if Tri v then (match ps with
  | [] => .num "prizes" 0
  | p :: r => match neg1 (p :: r) with
    | some z => .num "prize" z
    | none => if a = b then .ok else .mis) else .num "ties" v
theorem neg1_drop : ∀ {ps : List Int} {i : Nat} {p : Int}, ps[i]? = some p → neg1 (ps.drop i) = if p < 0 then some p else neg1 (ps.drop (i + 1))
  | [], i, p, h => by simp at h
  | a :: r, 0, p, h => by
    cases h
    rfl
  | a :: r, i + 1, p, h => neg1_drop (ps := r) (i := i) h
end L

set_option Elab.async false
set_option linter.all false
set_option maxRecDepth 100000
set_option maxHeartbeats 4000000
set_option pp.maxSteps 160
set_option pp.deepTerms false
namespace L
open PySem PySem.Spec PyProof.Rows L2 Fl
local macro_rules | `(tactic| walk_at "side") => `(tactic| first | (exact .inl ⟨by omega, by omega⟩) | (exact .inr ⟨by omega, by omega⟩) | (exact .inr ⟨by decide, by decide⟩) | (show (_ : Int) ≠ _; omega) | (exact ⟨by omega, by decide⟩) | (exact ⟨by decide, by decide, by decide⟩))
local macro_rules | `(tactic| walk_at "go") => `(tactic| repeat (first | refine ⟨_, rfl, ?_⟩ | refine ⟨_, _, rfl, rfl, ?_⟩ | refine .inl ⟨_, rfl, ?_⟩ | refine ⟨rfl, ?_⟩ | refine ⟨(by walk_at "side"), ?_⟩))
local macro_rules | `(tactic| walk_at "see") => `(tactic| (set_option pp.maxSteps 110 in set_option pp.deepTerms false in trace_state))
local macro_rules | `(tactic| walk_at "if") => `(tactic| first | refine ifE ?_ ?_ | refine ifNE ?_ ?_ | refine ifD ?_ ?_ | refine ifN ?_ ?_ | refine ifB ?_ ?_)
section
variable {P : Program} {w : World} {K : PySem.W.Frag} {mg : Str → Option Value} {base : Heap}

def spChk (BN : Addr) : Sp := fun vs H Q E => ∃ (L : Addr) (ps : List Int), vs = [.ref L] ∧ H L = some (.lst (ps.map V.int)) ∧ (ps = [] → Ref E BN H "prizes" 0) ∧ (∀ p, neg1 ps = some p → Ref E BN H "prize" p) ∧ (ps ≠ [] → neg1 ps = none → Q .non H)
abbrev CalChk (P : Program) (w : World) (K : PySem.W.Frag) (mg : Str → Option Value) (base : Heap) (BN : Addr) := CalX P w K mg base 3 "_check_prizes" ["prizes"] (spChk BN)
theorem ok_chk {BN : Addr} (B : Blt mg) (TB : BnC K mg BN) (CE : CalE P w K mg base 1 BN) (D : Dfn K mg "_check_prizes" "_check_prizes" s_check_prizes ["prizes"]) : CalChk P w K mg base BN := by
  refine D.calX sc_check_prizes (fun vs H Q E h => ?_) (fun f cdv A outer st H vs Q E hr h => ?_)
  · obtain ⟨L, ps, rfl, _⟩ := h
    rfl
  · obtain ⟨L, ps, rfl, hL, k1, k2, k3⟩ := h
    have hr0 : Room 2 _ := hr
    refine ⟨_, (pss_cons (ps_if (pt_not (pt_truth (pv 0) (by intro _; rfl))) (pss_one (ps_raise rfl (takes_of rfl rfl rfl rfl) (pmk_bn TB CE (hr0.mono (by decide)) (pa_cons pe_str (pa_cons pe_int pa_nil))))) pss_nil)
      (pss_one (ps_for (passes_of rfl) rfl (pi_list (pv 0)) (pg_name (i := 1) sc_check_prizes.nd rfl (Or.inl rfl)) (pss_one (ps_if (pt_cmpR op_lt (pv 1) (pe_int) (nomark _)) (pss_one (ps_raise rfl (takes_of rfl rfl rfl rfl) (pmk_bn TB CE (hr0.mono (by decide)) (pa_cons pe_str (pa_cons (pv 1) pa_nil))))) pss_nil))))), ?_⟩
    cases ps with
    | nil => exact ⟨_, rfl, _, .inl ⟨_, SqL.of hL, rfl⟩, iteT (bn_made (k1 rfl))⟩
    | cons p0 r0 =>
      refine ⟨_, rfl, _, .inl ⟨_, SqL.of hL, rfl⟩, iteF ?_⟩
      refine ⟨_, rfl, L, rfl, ⟨_, SqL.of hL⟩, for_list (K := K) (a := L) (xs := (p0 :: r0).map V.int) (fun i σ H' => H' = H ∧ ∃ o : Option V, σ = [some (.ref L), o] ∧ neg1 ((p0 :: r0).drop i) = neg1 (p0 :: r0)) ⟨rfl, none, rfl, rfl⟩ (fun i σ H' _ h => by rw [h.1]; exact SqL.of hL) ?_ ?_⟩
      · rintro i y σ H' hy ⟨rfl, o, rfl, hn⟩
        obtain ⟨z, hz, rfl⟩ := int_of_map hy
        have hd := neg1_drop hz
        refine ⟨_, rfl, _, _, rfl, rfl, _, rfl, ifD (fun h => ?_) (fun h => ?_)⟩
        · rw [if_pos h] at hd
          exact ⟨_, rfl, bn_made (k2 z (hn.symm.trans hd))⟩
        · rw [if_neg h] at hd
          exact ⟨rfl, _, rfl, hd.symm.trans hn⟩
      · rintro σ H' ⟨rfl, o, rfl, hn⟩
        refine k3 (by simp) (hn.symm.trans ?_)
        rw [List.length_map, List.drop_length]
        rfl
def spWin : Sp := fun vs H Q _ => ∃ (x y t : Int), vs = [.int x, .int y, .int t] ∧ Q (.int (outc x y t)) H
abbrev CalWin (P : Program) (w : World) (K : PySem.W.Frag) (mg : Str → Option Value) (base : Heap) := Cal P w K mg base 1 "_winner" ["x", "y", "ties"] spWin
theorem ok_win (D : Dfn K mg "_winner" "_winner" s_winner ["x", "y", "ties"]) : CalWin P w K mg base := by
  refine D.cal sc_winner (fun vs H Q E h => ?_) (fun f cdv A outer st H vs Q E hr h => ?_)
  · obtain ⟨x, y, t, rfl, _⟩ := h
    rfl
  · obtain ⟨x, y, t, rfl, q⟩ := h
    refine ⟨_, (pss_cons (ps_if (pt_cmpR op_eq (pv 0) (pv 1) (nomark _)) (pss_one (ps_ret (pv 2))) pss_nil)
      (pss_one (ps_ret (pe_ifExp (pt_cmpR op_gt (pv 0) (pv 1) (nomark _)) (pe_int) (pe_un un_neg (pe_int)))))), ?_⟩
    unfold outc at q
    refine ⟨_, rfl, _, rfl, rfl, _, rfl, ifE (fun h => ?_) (fun h => ?_)⟩
    · rw [if_neg (by omega), if_neg (by omega)] at q
      exact ⟨_, rfl, q⟩
    refine ⟨_, rfl, _, rfl, _, _, rfl, rfl, _, rfl, ifD (fun h2 => ?_) (fun h2 => ?_)⟩
    · rw [if_pos h2] at q
      exact q
    · rw [if_neg h2, if_pos (by omega)] at q
      exact ⟨_, rfl, q⟩
/-- a pair of a winner and a length -/
def TupP (H : Hp) (v : V) (z : Int × Nat) : Prop := ∃ t, v = .ref t ∧ H t = some (.tup [.int z.1, .int (z.2 : Int)])
theorem tupP_mono : Mono TupP := fun H H' v x s h => by
  obtain ⟨t, e, ht⟩ := h
  exact ⟨t, e, s _ _ ht⟩
theorem tupP_upd {H : Hp} {D : Addr} {xs ys : List V} {v : V} {z : Int × Nat} (h : TupP H v z) (hD : H D = some (.lst xs)) : TupP (upd H D (.lst ys)) v z := by
  obtain ⟨t, e, ht⟩ := h
  exact ⟨t, e, by rw [upd_ne (ne_of ht hD (by intro q; cases q))]; exact ht⟩
theorem tup_snoc {H : Hp} {D : Addr} {old vs : List V} {fr : List (Int × Nat)} {v : V} {z : Int × Nat} (hD : H D = some (.lst old)) (hl : vs.length = fr.length) (ha : ∀ (i : Nat) (y : Int × Nat), fr[i]? = some y → ∃ u, vs[i]? = some u ∧ TupP H u y) (hv : TupP H v z) : LAt TupP (upd H D (.lst (vs ++ [v]))) D (fr ++ [z]) := by
  refine ⟨vs ++ [v], upd_same, by rw [List.length_append, List.length_append, hl]; rfl, fun i y hy => ?_⟩
  by_cases h : i < fr.length
  · rw [List.getElem?_append_left h] at hy
    obtain ⟨u, hu, r⟩ := ha i y hy
    exact ⟨u, by rw [List.getElem?_append_left (by omega)]; exact hu, tupP_upd r hD⟩
  · rw [List.getElem?_append_right (by omega)] at hy
    have e : i = fr.length := by
      rcases Nat.lt_or_ge (i - fr.length) 1 with h2 | h2
      · omega
      · rw [List.getElem?_eq_none (by simpa using h2)] at hy
        cases hy
    subst e
    rw [Nat.sub_self] at hy
    cases hy
    exact ⟨v, by rw [List.getElem?_append_right (by omega), hl, Nat.sub_self]; rfl, tupP_upd hv hD⟩
theorem tup_last {H : Hp} {D : Addr} {fr : List (Int × Nat)} {z : Int × Nat} (h : LAt TupP H D (fr ++ [z])) : ∃ (vs : List V) (t : Addr), H D = some (.lst (vs ++ [.ref t])) ∧ vs.length = fr.length ∧ H t = some (.tup [.int z.1, .int (z.2 : Int)]) ∧ ∀ (i : Nat) (y : Int × Nat), fr[i]? = some y → ∃ u, vs[i]? = some u ∧ TupP H u y := by
  obtain ⟨us, h1, h2, h3⟩ := h
  rw [List.length_append] at h2
  have h2 : us.length = fr.length + 1 := h2
  rcases List.eq_nil_or_concat us with e | ⟨vs, v, e⟩
  · rw [e] at h2
    cases h2
  rw [List.concat_eq_append] at e
  subst e
  have hl : vs.length = fr.length := by
    rw [List.length_append] at h2
    have : vs.length + 1 = fr.length + 1 := h2
    omega
  obtain ⟨u, hu, t, eu, ht⟩ := h3 fr.length z (by rw [List.getElem?_append_right (Nat.le_refl _), Nat.sub_self]; rfl)
  rw [← hl, List.getElem?_append_right (Nat.le_refl _), Nat.sub_self] at hu
  cases hu
  subst eu
  refine ⟨vs, t, h1, hl, ht, fun i y hy => ?_⟩
  have hi : i < fr.length := (List.getElem?_eq_some_iff.mp hy).1
  obtain ⟨u, hu, r⟩ := h3 i y (by rw [List.getElem?_append_left hi]; exact hy)
  rw [List.getElem?_append_left (by omega)] at hu
  exact ⟨u, hu, r⟩
theorem set_last {vs : List V} {x y : V} : (vs ++ [x]).set vs.length y = vs ++ [y] := by
  rw [List.set_append_right _ _ (Nat.le_refl _), Nat.sub_self]
  rfl
theorem ix_last (n : Nat) : ixN (n + 1) (-1) = some n := by
  unfold ixN
  rw [if_neg (by decide), if_pos (by omega)]
  congr 1
  omega
theorem fold_take {ws : List Int} {i : Nat} {x : Int} (h : ws[i]? = some x) : (ws.take (i + 1)).foldl rleAdd [] = rleAdd ((ws.take i).foldl rleAdd []) x := by
  rw [List.take_add_one, h, List.foldl_append]
  rfl
theorem rle_len : ∀ {r : List Int} {acc : List (Int × Nat)}, (r.foldl rleAdd acc).length ≤ acc.length + r.length
  | [], acc => Nat.le_refl _
  | x :: r, acc => by
    have h := rle_len (r := r) (acc := rleAdd acc x)
    have h2 : (rleAdd acc x).length ≤ acc.length + 1 := by
      unfold rleAdd
      split
      · exact Nat.le_add_left 1 _
      · split
        · rw [List.length_append, List.length_dropLast]
          show acc.length - 1 + 1 ≤ _
          omega
        · rw [List.length_append]
          exact Nat.le_refl _
    show (r.foldl rleAdd (rleAdd acc x)).length ≤ acc.length + (r.length + 1)
    omega
def spStr : Sp := fun vs H Q _ => ∃ (L : Addr) (ws : List Int), vs = [.ref L] ∧ H L = some (.lst (ws.map V.int)) ∧ ws.length ≤ 900 ∧ ∀ (D : Addr) (H' : Hp), Same H H' → LAt TupP H' D (rle ws) → Q (.ref D) H'
abbrev CalStr (P : Program) (w : World) (K : PySem.W.Frag) (mg : Str → Option Value) (base : Heap) := Cal P w K mg base 1 "_stretches" ["winners"] spStr
theorem ok_str (B : Blt mg) (D : Dfn K mg "_stretches" "_stretches" s_stretches ["winners"]) : CalStr P w K mg base := by
  refine D.cal sc_stretches (fun vs H Q E h => ?_) (fun f cdv A outer st H vs Q E hr h => ?_)
  · obtain ⟨L, ws, rfl, _⟩ := h
    rfl
  · obtain ⟨L, ws, rfl, hL, hlen, q⟩ := h
    refine ⟨_, (pss_cons (ps_set (i := 1) sc_stretches.nd rfl (Or.inl rfl) (pe_lst pa_nil))
      (pss_cons (ps_for PassesOwn.never rfl (pi_list (pv 0)) (pg_name (i := 2) sc_stretches.nd rfl (Or.inl rfl)) (pss_one (ps_if (PW.pt (pw_and (pt_truth (pv 1) (by intro _; rfl)) (pw_and1 (pt_cmpR op_eq (pe_ix ix_tup (pe_ix ix_list (pv 1) (pe_un un_neg (pe_int)) (fun _ _ => rfl)) (pe_int) (fun _ _ => rfl)) (pv 2) (nomark _))))) (pss_one (ps_asg (pe_tup (pa_cons (pv 2) (pa_cons (pe_op op_add (pe_ix ix_tup (pe_ix ix_list (pv 1) (pe_un un_neg (pe_int)) (fun _ _ => rfl)) (pe_int) (fun _ _ => rfl)) (pe_int)) pa_nil))) (pg_sub (pv 1) (pe_un un_neg (pe_int)) set_list))) (pss_one (ps_expr (pe_bm PySem.F.plainAttrs_list PySem.F.slot_list_append PySem.F.type_list_append mt_append (pv 1) (pa_cons (pe_tup (pa_cons (pv 2) (pa_cons pe_int pa_nil))) pa_nil)))))))
      (pss_one (ps_ret (pv 1))))), ?_⟩
    refine ⟨(by show 0 ≤ sizeLine; decide), fun D hD => ?_⟩
    refine ⟨_, rfl, L, rfl, ⟨_, SqL.of (same_upd hD _ _ hL)⟩, for_list (K := K) (a := L) (xs := ws.map V.int) (fun i σ H' => ∃ o : Option V, σ = [some (.ref L), some (.ref D), o] ∧ Same H H' ∧ LAt TupP H' D ((ws.take i).foldl rleAdd [])) ⟨none, rfl, same_upd hD, [], upd_same, rfl, fun i y hy => by simp at hy⟩ (fun i σ H' _ h => by obtain ⟨o, _, s, _⟩ := h; exact SqL.of (s _ _ hL)) ?_ ?_⟩
    · rintro i y σ H' hy ⟨o, rfl, s, hA⟩
      obtain ⟨x, hx, rfl⟩ := int_of_map hy
      have hf := fold_take hx
      have hi : i < ws.length := (List.getElem?_eq_some_iff.mp hx).1
      have ll : ((ws.take i).foldl rleAdd []).length ≤ i := by
        have := rle_len (r := ws.take i) (acc := [])
        rw [List.length_take] at this
        have e : ([] : List (Int × Nat)).length = 0 := rfl
        omega
      generalize (ws.take i).foldl rleAdd [] = rl at *
      rcases List.eq_nil_or_concat rl with e | ⟨fr, ⟨w0, n0⟩, e⟩
      · subst e
        obtain ⟨us, h1, h2, _⟩ := hA
        have e : us = [] := List.length_eq_zero_iff.mp h2
        subst e
        refine ⟨_, rfl, _, .inl ⟨_, SqL.of h1, rfl⟩, iteF ?_⟩
        refine ⟨_, rfl, .inl ⟨rfl, _, SqL.of h1⟩, _, rfl, (by show 2 ≤ sizeLine; decide), fun t ht => ⟨D, _, _, rfl, rfl, same_upd ht _ _ h1, small1000 (by show 0 ≤ 1000; decide), ?_⟩⟩
        refine ⟨_, rfl, same_late (s.trans (same_upd ht)) hD, ?_⟩
        rw [hf]
        exact tup_snoc (vs := []) (fr := []) (same_upd ht _ _ h1) rfl (fun i y hy => by simp at hy) ⟨t, rfl, upd_same⟩
      · rw [List.concat_eq_append] at e
        subst e
        obtain ⟨vs, t, h1, h2, ht, h3⟩ := tup_last hA
        have hl : fr.length + 1 ≤ i := by
          rw [List.length_append] at ll
          exact ll
        rw [rleAdd_last] at hf
        refine ⟨_, rfl, _, .inl ⟨_, SqL.of h1, rfl⟩, ?_⟩
        rw [show (vs ++ [V.ref t]).isEmpty = false by cases vs <;> rfl]
        refine iteT ?_
        refine ⟨_, rfl, _, rfl, _, _, _, _, rfl, rfl, SqL.of h1, atI_last _ _, _, _, _, _, rfl, rfl, SqT.of ht, rfl, _, rfl, rfl, _, rfl, ifE (fun hw => ?_) (fun hw => ?_)⟩
        · rw [if_pos hw] at hf
          refine ⟨_, rfl, _, rfl, _, rfl, _, _, _, _, rfl, rfl, SqL.of h1, atI_last _ _, _, _, _, _, rfl, rfl, SqT.of ht, rfl, _, _, rfl, rfl, (by show 2 ≤ sizeLine; decide), fun u hu => ?_⟩
          have su := same_upd (o := .tup [.int x, .int ((n0 : Int) + 1)]) hu
          refine ⟨_, rfl, _, rfl, D, _, _, vs.length, rfl, rfl, su _ _ h1, (by rw [List.length_append]; exact ix_last _), ?_⟩
          rw [set_last]
          refine ⟨_, rfl, same_late (s.trans su) hD, ?_⟩
          rw [hf]
          refine tup_snoc (su _ _ h1) h2 (fun i y hy => ?_) ⟨u, rfl, ?_⟩
          · obtain ⟨v, hv, r⟩ := h3 i y hy
            exact ⟨v, hv, tupP_mono _ _ _ _ su r⟩
          · rw [upd_same]
            show some (HO.tup [V.int x, V.int ((n0 : Int) + 1)]) = some (HO.tup [V.int w0, V.int ((n0 + 1 : Nat) : Int)])
            rw [show w0 = x from hw]
            rfl
        · rw [if_neg hw] at hf
          refine ⟨_, rfl, .inl ⟨rfl, _, SqL.of h1⟩, _, rfl, (by show 2 ≤ sizeLine; decide), fun u hu => ⟨D, _, _, rfl, rfl, same_upd hu _ _ h1, small1000 (by rw [List.length_append]; show vs.length + 1 ≤ 1000; omega), ?_⟩⟩
          have su := same_upd (o := .tup [.int x, .int 1]) hu
          refine ⟨_, rfl, same_late (s.trans su) hD, ?_⟩
          rw [hf]
          refine tup_snoc (z := (x, 1)) (vs := vs ++ [.ref t]) (fr := fr ++ [(w0, n0)]) (su _ _ h1) (by rw [List.length_append, List.length_append, h2]; rfl) (fun i y hy => ?_) ⟨u, rfl, upd_same⟩
          obtain ⟨us, e1, e2, e3⟩ := hA
          rw [h1] at e1
          cases e1
          obtain ⟨v, hv, r⟩ := e3 i y hy
          exact ⟨v, hv, tupP_mono _ _ _ _ su r⟩
    · rintro σ H' ⟨o, rfl, s, hA⟩
      rw [List.length_map, List.take_length] at hA
      exact ⟨_, rfl, q D H' s hA⟩
end
end L

set_option Elab.async false
set_option linter.all false
set_option maxRecDepth 100000
set_option maxHeartbeats 4000000
set_option pp.maxSteps 160
set_option pp.deepTerms false
namespace L
open PySem PySem.Spec PyProof.Rows L2 Fl
local macro_rules | `(tactic| walk_at "side") => `(tactic| first | (exact .inl ⟨by omega, by omega⟩) | (exact .inr ⟨by omega, by omega⟩) | (exact .inr ⟨by decide, by decide⟩) | (show (_ : Int) ≠ _; omega) | (exact ⟨by omega, by decide⟩) | (exact ⟨by decide, by decide, by decide⟩))
local macro_rules | `(tactic| walk_at "go") => `(tactic| repeat (first | refine ⟨_, rfl, ?_⟩ | refine ⟨_, _, rfl, rfl, ?_⟩ | refine .inl ⟨_, rfl, ?_⟩ | refine ⟨rfl, ?_⟩ | refine ⟨(by walk_at "side"), ?_⟩))
local macro_rules | `(tactic| walk_at "see") => `(tactic| (set_option pp.maxSteps 110 in set_option pp.deepTerms false in trace_state))
local macro_rules | `(tactic| walk_at "if") => `(tactic| first | refine ifE ?_ ?_ | refine ifNE ?_ ?_ | refine ifD ?_ ?_ | refine ifN ?_ ?_ | refine ifB ?_ ?_)
section
variable {P : Program} {w : World} {K : PySem.W.Frag} {mg : Str → Option Value} {base : Heap}

open RZ
theorem call_len_K {X : Cx} {K : PySem.W.Frag} (e : X.K = K) : CallR X (.builtin "len") (fun xs H Q => ∃ p ys, xs = [.ref p] ∧ (SqL K H p ys ∨ SqT K H p ys) ∧ Q (.int (ys.length : Int)) H) := by
  subst e
  exact call_len_seq
theorem ix_list_K {X : Cx} {K : PySem.W.Frag} (e : X.K = K) : IxR X (rIxL K) := by
  subst e
  exact ix_list
theorem ix_tup_K {X : Cx} {K : PySem.W.Frag} (e : X.K = K) : IxR X (rIxT K) := by
  subst e
  exact ix_tup
theorem walk_zipT {K : PySem.W.Frag} {a b : Addr} {xs ys : List V} {n : Nat} (hx : n = xs.length) (hy : n = ys.length) : Walk (ItzT K a b) n (fun H => SqT K H a xs ∧ SqT K H b ys) (YPair (fun i => xs[i]?) (fun i => ys[i]?)) := by
  refine ⟨fun i _ hi q => ⟨xs, ys, xs[i], ys[i], q.1, q.2, List.getElem?_eq_getElem (by omega), List.getElem?_eq_getElem (by omega)⟩, fun _ q => ⟨xs, ys, q.1, q.2, .inl (by omega)⟩, fun i H v H' _ q y => ?_⟩
  obtain ⟨T, x, z, h1, h2, h3, h4, h5⟩ := y
  exact ⟨T, x, z, h1, h2, h3, h4 xs q.1, h5 ys q.2⟩
def spPaid : Sp := fun vs H Q _ => ∃ (a b L : Addr) (xs ys ps : List Int) (v : Int), vs = [.ref a, .ref b, .ref L, .int v] ∧ H a = some (.tup (xs.map V.int)) ∧ H b = some (.tup (ys.map V.int)) ∧ H L = some (.lst (ps.map V.int)) ∧ xs.length = ys.length ∧ xs.length ≤ 900 ∧ 1 ≤ ps.length ∧ Tri v ∧ ∀ H', Same H H' → Q (.int (payv xs ys v ps)) H'
abbrev CalPaid (P : Program) (w : World) (K : PySem.W.Frag) (mg : Str → Option Value) (base : Heap) := Cal P w K mg base 2 "_paid" ["one", "other", "prizes", "ties"] spPaid
theorem ok_paid (B : Blt mg) (hZip : mg "zip" = none) (C_winner : CalWin P w K mg base) (C_stretches : CalStr P w K mg base) (D : Dfn K mg "_paid" "_paid" s_paid ["one", "other", "prizes", "ties"]) : CalPaid P w K mg base := by
  refine D.cal sc_paid (fun vs H Q E h => ?_) (fun f cdv A outer st H vs Q E hr h => ?_)
  · obtain ⟨a, b, L, xs, ys, ps, v, rfl, _⟩ := h
    rfl
  · obtain ⟨a, b, L, xs, ys, ps, v, rfl, ha, hb, hL, hl, hx, hp, hv, q⟩ := h
    refine ⟨_, (pss_cons (ps_setLc (i := 4) (own := [("x", 5), ("y", 6)]) (g := (gTup K 2 (gCons (gName 5) (gCons (gName 6) gNil)))) rfl sc_paid.nd rfl rfl (sw_true rfl rfl rfl (by decide +kernel)) (pi_zipA (by rfl) hZip (pa_cons (pv 0) (pa_cons (pv 1) pa_nil))) (blkOk_by (N := ["one", "other", "prizes", "ties", "winners", "x", "y", "winner", "length"]) (sc := defScope s_paid) (by decide +kernel)) (fun _ _ _ _ _ => (pg_tup rfl (pgs_cons (pg_name (i := 5) sc_paid.nd rfl (Or.inl rfl)) (pgs_cons (pg_name (i := 6) sc_paid.nd rfl (Or.inl rfl)) pgs_nil)))) (fun _ _ _ _ _ => pts_nil) (fun _ _ _ _ _ => (pe_cal C_winner (hr.mono (by decide)) (pa_cons (pv 5) (pa_cons (pv 6) (pa_cons (pv 3) pa_nil))))))
      (pss_one (ps_ret (pe_callB (cr_sum rfl) (by rfl) B.sum (by decide +kernel) (pa_cons (pe_lc (own := [("winner", 7), ("length", 8)]) (g := (gTup K 2 (gCons (gName 7) (gCons (gName 8) gNil)))) rfl sc_paid.nd (pi_list (pe_cal C_stretches (hr.mono (by decide)) (pa_cons (pv 4) pa_nil))) (blkOk_by (N := ["one", "other", "prizes", "ties", "winners", "x", "y", "winner", "length"]) (sc := defScope s_paid) (by decide +kernel)) (fun _ _ _ _ _ => (pg_tup rfl (pgs_cons (pg_name (i := 7) sc_paid.nd rfl (Or.inl rfl)) (pgs_cons (pg_name (i := 8) sc_paid.nd rfl (Or.inl rfl)) pgs_nil)))) (fun _ _ _ _ _ => pts_nil) (fun _ _ _ _ _ => (pe_op op_mul (pv 7) (pe_ix (ix_list_K (K := K) rfl) (pv 2) (pe_op op_sub (pe_callB (call_min2 rfl) (by rfl) B.min (by decide +kernel) (pa_cons (pv 8) (pa_cons (pe_callB (call_len_K (K := K) rfl) (by rfl) B.len PySem.boot_len (pa_cons (pv 2) pa_nil)) pa_nil))) (pe_int)) (fun _ _ => rfl))))) pa_nil))))), ?_⟩
    have lx : (xs.map V.int).length = xs.length := List.length_map ..
    have ly : (ys.map V.int).length = xs.length := by rw [List.length_map, hl]
    refine ⟨_, rfl, _, rfl, a, b, _, _, rfl, .inr ⟨SqT.of ha, SqT.of hb, fun D hD => lc_it (walk_zipT (K := K) (a := a) (b := b) (n := xs.length) lx.symm ly.symm) (fun i H' => Same H H' ∧ H' D = some (.lst (((wins xs ys v).take i).map V.int))) ⟨same_upd hD, upd_same⟩ (fun i H' _ h => ⟨SqT.of (h.1 _ _ ha), SqT.of (h.1 _ _ hb)⟩) ?_ ?_⟩⟩
    · rintro i vv H1 H2 hi ⟨s1, hD1⟩ ⟨t, x, y, rfl, ht, rfl, ex, ey⟩
      obtain ⟨zx, hzx, rfl⟩ := int_of_map ex
      obtain ⟨zy, hzy, rfl⟩ := int_of_map ey
      have hw := wins_at (v := v) hzx hzy
      refine ⟨t, _, rfl, SqT.of upd_same, rfl, _, _, rfl, _, _, rfl, rfl, rfl, ?_⟩
      refine ⟨_, rfl, _, rfl, _, rfl, _, _, _, rfl, ?_⟩
      have st := same_upd (o := .tup [.int zx, .int zy]) ht
      refine ⟨_, st _ _ hD1, ?_, same_late (s1.trans st) hD, ?_⟩
      · rw [List.length_map, List.length_take]
        exact small1000 (by omega)
      · rw [upd_same, List.take_add_one, hw, List.map_append]
        rfl
    rintro H1 ⟨s1, hD1⟩
    rw [List.take_of_length_le (by rw [wins_len hl]; exact Nat.le_refl _)] at hD1
    have wl := wins_len (v := v) hl
    have wt := wins_tri (xs := xs) (ys := ys) hv
    refine ⟨_, rfl, D, _, rfl, hD1, by omega, fun M H2 s2 hM => ?_⟩
    have hrt : ∀ z, z ∈ rle (wins xs ys v) → Tri z.1 ∧ 1 ≤ z.2 := rle_tri wt (fun z hz => nomatch hz)
    have hrl : (rle (wins xs ys v)).length ≤ 900 := by
      have := rle_len (r := wins xs ys v) (acc := [])
      have e : ([] : List (Int × Nat)).length = 0 := rfl
      show ((wins xs ys v).foldl rleAdd []).length ≤ 900
      omega
    have hL2 := s2 _ _ (s1 _ _ hL)
    have e0 : payv xs ys v ps = worth ps (rle (wins xs ys v)) := worth_rle.symm
    rw [e0] at q
    unfold worth at q
    generalize rle (wins xs ys v) = zs at *
    obtain ⟨us, hus, hul, hua⟩ := id hM
    refine ⟨M, rfl, ⟨_, SqL.of hus⟩, fun S hS => lc_list (K := K) (a := M) (xs := us) (fun i H' => Same H2 H' ∧ H' S = some (.lst (((zs.take i).map (fun z => z.1 * pz ps z.2)).map V.int))) ⟨same_upd hS, upd_same⟩ (fun i H' _ h => SqL.of (h.1 _ _ hus)) ?_ ?_⟩
    · rintro i x H3 hx3 ⟨s3, hS3⟩
      have hi : i < us.length := (List.getElem?_eq_some_iff.mp hx3).1
      have hz : zs[i]? = some zs[i] := List.getElem?_eq_getElem (by omega)
      obtain ⟨u, hu, t, rfl, ht⟩ := hua i _ hz
      rw [hx3] at hu
      cases hu
      obtain ⟨w1, w2⟩ := hrt _ (List.mem_of_getElem? hz)
      have ht3 := s3 _ _ ht
      have hL3 := s3 _ _ hL2
      generalize zs[i] = z at *
      refine ⟨t, _, rfl, SqT.of ht3, rfl, _, _, rfl, _, _, rfl, rfl, rfl, ?_⟩
      have lp : (ps.map V.int).length = ps.length := List.length_map ..
      have hix : atI (ps.map V.int) ((if (ps.length : Int) < (z.2 : Int) then (ps.length : Int) else (z.2 : Int)) - 1) = some (V.int (pz ps z.2)) := by
        have e : ((if (ps.length : Int) < (z.2 : Int) then (ps.length : Int) else (z.2 : Int)) - 1) = ((min z.2 ps.length - 1 : Nat) : Int) := by
          split <;> omega
        rw [e]
        refine atI_nat ?_
        rw [List.getElem?_map, pz_at w2 hp]
        rfl
      refine ⟨_, rfl, _, rfl, _, rfl, _, rfl, _, _, rfl, .inl (SqL.of hL3), _, _, rfl, ?_⟩
      rw [lp]
      refine ⟨_, _, rfl, rfl, _, _, _, _, rfl, rfl, SqL.of hL3, hix, _, _, rfl, rfl, .inl (by rcases w1 with h | h | h <;> rw [h] <;> decide), _, hS3, ?_, same_late s3 hS, ?_⟩
      · rw [List.length_map, List.length_map, List.length_take]
        exact small1000 (by omega)
      · rw [upd_same, List.take_add_one, hz, List.map_append, List.map_append]
        rfl
    rintro H3 ⟨s3, hS3⟩
    rw [List.take_of_length_le (by omega)] at hS3
    exact ⟨_, _, rfl, SqL.of hS3, q H3 ((s1.trans s2).trans s3)⟩
def spRP (BN MM : Addr) : Sp := fun vs H Q E => ∃ (a b L : Addr) (xs ys ps : List Int) (v : Int), vs = [.ref a, .ref b, .ref L, .int v] ∧ H a = some (.tup (xs.map V.int)) ∧ H b = some (.tup (ys.map V.int)) ∧ H L = some (.lst (ps.map V.int)) ∧ xs.length ≤ 900 ∧
  (∀ n z, duO xs.length ys.length ps v = .num n z → Ref E BN H n z) ∧ (duO xs.length ys.length ps v = .mis → ∀ H', Same H H' → E (.ref MM) none H') ∧ (duO xs.length ys.length ps v = .ok → ∀ H', Same H H' → Q (.int (payv xs ys v ps)) H')
theorem duO_ties {a b : Nat} {ps : List Int} {v : Int} (h : ¬ Tri v) : duO a b ps v = .num "ties" v := if_neg h
theorem duO_nil {a b : Nat} {v : Int} (h : Tri v) : duO a b [] v = .num "prizes" 0 := if_pos h
theorem duO_neg {a b : Nat} {ps : List Int} {v z : Int} (h : Tri v) (hz : neg1 ps = some z) : duO a b ps v = .num "prize" z := by
  unfold duO
  rw [if_pos h]
  cases ps with
  | nil => cases hz
  | cons p r => simp only [hz]
theorem duO_rest {a b : Nat} {ps : List Int} {v : Int} (h : Tri v) (hn : ps ≠ []) (hz : neg1 ps = none) : duO a b ps v = if a = b then .ok else .mis := by
  unfold duO
  rw [if_pos h]
  cases ps with
  | nil => exact absurd rfl hn
  | cons p r => simp only [hz]
theorem ok_row_pay {BN MM fA : Addr} {fd : FuncData} (B : Blt mg) (TM : ExC K mg "Mismatch" MM) (C_check_ties : CalTies P w K mg base BN) (C_check_prizes : CalChk P w K mg base BN) (C_paid : CalPaid P w K mg base) (F : FunD K "row_pay" "row_pay" (defArgs s_row_pay) (defBody s_row_pay) (defScope s_row_pay) [] [("ties", .int 0)] fA fd) :
    FnOk P w K mg base (L2.CX P w) 4 fA fd ["one", "other", "prizes", "ties"] (spRP BN MM) := by
  refine F.ok sc_row_pay (fun vs H Q E h => ?_) (fun cdv A outer st H vs Q E hr h => ?_)
  · obtain ⟨a, b, L, xs, ys, ps, v, rfl, _⟩ := h
    rfl
  · obtain ⟨a, b, L, xs, ys, ps, v, rfl, ha, hb, hL, hx, k1, k2, k3⟩ := h
    refine ⟨_, (pss_cons (ps_expr (pe_calS C_check_ties (takes_of rfl rfl rfl rfl) (hr.mono (by decide)) (pa_cons (pv 3) pa_nil)))
      (pss_cons (ps_expr (pe_calS C_check_prizes (takes_of rfl rfl rfl rfl) (hr.mono (by decide)) (pa_cons (pv 2) pa_nil)))
      (pss_cons (ps_if (pt_cmpR op_ne (pe_callB call_len_seq (by rfl) B.len PySem.boot_len (pa_cons (pv 0) pa_nil)) (pe_callB call_len_seq (by rfl) B.len PySem.boot_len (pa_cons (pv 1) pa_nil)) (nomark _)) (pss_one (ps_raise rfl (takes_of rfl rfl rfl rfl) (pmk_own PySem.F.excBase_ValueError TM.x TM.g TM.k (raises_own TM.b TM.t) rfl))) pss_nil)
      (PSs.nox (pss_one (ps_ret (pe_cal C_paid (hr.mono (by decide)) (pa_cons (pv 0) (pa_cons (pv 1) (pa_cons (pv 2) (pa_cons (pv 3) pa_nil))))))))))), ?_⟩
    refine ⟨_, rfl, v, rfl, fun hv H1 s1 => ?_, fun hv => k1 _ _ (duO_ties hv)⟩
    have ha := s1 _ _ ha
    have hb := s1 _ _ hb
    have hL := s1 _ _ hL
    have lx : (xs.map V.int).length = xs.length := List.length_map ..
    have ly : (ys.map V.int).length = ys.length := List.length_map ..
    refine ⟨_, rfl, L, ps, rfl, hL, fun e => (k1 _ _ (by rw [e]; exact duO_nil hv)).same s1, fun p hp => (k1 _ _ (duO_neg hv hp)).same s1, fun hn hz => ?_⟩
    have hd := duO_rest (a := xs.length) (b := ys.length) hv hn hz
    refine ⟨_, rfl, _, _, rfl, .inr (SqT.of ha), _, rfl, _, _, rfl, .inr (SqT.of hb), rfl, _, rfl, ?_⟩
    rw [lx, ly]
    refine ifNE (fun h => ?_) (fun h => ?_)
    · rw [if_neg (by omega)] at hd
      exact k2 hd H1 s1
    · have hxy : xs.length = ys.length := by omega
      rw [if_pos hxy] at hd
      have hp : 1 ≤ ps.length := by
        cases ps with
        | nil => exact absurd rfl hn
        | cons p r => exact Nat.le_add_left 1 _
      exact ⟨_, rfl, _, rfl, _, rfl, _, rfl, a, b, L, xs, ys, ps, v, rfl, ha, hb, hL, hxy, hx, hp, hv, fun H' s => k3 hd H' (s1.trans s)⟩
end
end L

set_option Elab.async false
set_option linter.all false
set_option maxRecDepth 100000
set_option maxHeartbeats 4000000
set_option pp.maxSteps 160
set_option pp.deepTerms false
namespace L
open PySem PySem.Spec PyProof.Rows L2 Fl
local macro_rules | `(tactic| walk_at "side") => `(tactic| first | (exact .inl ⟨by omega, by omega⟩) | (exact .inr ⟨by omega, by omega⟩) | (exact .inr ⟨by decide, by decide⟩) | (show (_ : Int) ≠ _; omega) | (exact ⟨by omega, by decide⟩) | (exact ⟨by decide, by decide, by decide⟩))
local macro_rules | `(tactic| walk_at "go") => `(tactic| repeat (first | refine ⟨_, rfl, ?_⟩ | refine ⟨_, _, rfl, rfl, ?_⟩ | refine .inl ⟨_, rfl, ?_⟩ | refine ⟨rfl, ?_⟩ | refine ⟨(by walk_at "side"), ?_⟩))
local macro_rules | `(tactic| walk_at "see") => `(tactic| (set_option pp.maxSteps 110 in set_option pp.deepTerms false in trace_state))
local macro_rules | `(tactic| walk_at "if") => `(tactic| first | refine ifE ?_ ?_ | refine ifNE ?_ ?_ | refine ifD ?_ ?_ | refine ifN ?_ ?_ | refine ifB ?_ ?_)
section
variable {P : Program} {w : World} {K : PySem.W.Frag} {mg : Str → Option Value} {base : Heap}
def spLTies : Sp := fun vs H Q _ => ∃ (p : Pla), vs = [.ref p] ∧ Pool H p ∧ ∀ (r : Int) (H' : Hp), -1 ≤ r → r ≤ 1 → Pool H' p → Keeps H H' p → Q (.int r) H'
abbrev CalLTies (P : Program) (w : World) (K : PySem.W.Frag) (mg : Str → Option Value) (base : Heap) := Cal P w K mg base 3 "_law_ties" ["_law_pool_here"] spLTies
theorem ok_lties (C_draw : CalDraw P w K mg base) (D : Dfn K mg "_law_ties" "_law_ties" s_ties ["_law_pool_here"]) : CalLTies P w K mg base := by
  refine D.cal sc_ties (fun vs H Q E h => ?_) (fun f cdv A outer st H vs Q E hr h => ?_)
  · obtain ⟨p, rfl, _⟩ := h
    rfl
  · obtain ⟨p, rfl, hP, q⟩ := h
    refine ⟨_, (pss_one (ps_ret (pe_op op_sub (pe_cal C_draw (hr.mono (by decide)) (pa_cons (pv 0) (pa_cons (pe_int) pa_nil))) (pe_int)))), ?_⟩
    exact ⟨_, rfl, p, 3, rfl, hP, by decide, by decide, fun r H1 r0 r1 hP1 k1 => ⟨_, _, rfl, rfl, q _ _ (by omega) (by omega) hP1 k1⟩⟩
def spOut : Sp := fun vs H Q _ => ∃ (x y t : Int), vs = [.int x, .int y, .int t] ∧ Q (.int (outc x y t)) H
abbrev CalOut (P : Program) (w : World) (K : PySem.W.Frag) (mg : Str → Option Value) (base : Heap) := Cal P w K mg base 1 "_law_outcome" ["_law_x", "_law_y", "_law_ties_here"] spOut
theorem ok_out (D : Dfn K mg "_law_outcome" "_law_outcome" s_outcome ["_law_x", "_law_y", "_law_ties_here"]) : CalOut P w K mg base := by
  refine D.cal sc_outcome (fun vs H Q E h => ?_) (fun f cdv A outer st H vs Q E hr h => ?_)
  · obtain ⟨x, y, t, rfl, _⟩ := h
    rfl
  · obtain ⟨x, y, t, rfl, q⟩ := h
    refine ⟨_, (pss_cons (ps_if (pt_cmpR op_gt (pv 0) (pv 1) (nomark _)) (pss_one (ps_ret (pe_int))) pss_nil)
      (pss_cons (ps_if (pt_cmpR op_lt (pv 0) (pv 1) (nomark _)) (pss_one (ps_ret (pe_un un_neg (pe_int)))) pss_nil)
      (pss_one (ps_ret (pv 2))))), ?_⟩
    unfold outc at q
    refine ⟨_, rfl, _, rfl, _, _, rfl, rfl, _, rfl, ifD (fun h => ?_) (fun h => ?_)⟩
    · rw [if_pos h] at q
      exact q
    rw [if_neg h] at q
    refine ⟨_, rfl, _, rfl, _, _, rfl, rfl, _, rfl, ifD (fun h => ?_) (fun h => ?_)⟩
    · rw [if_pos h] at q
      exact ⟨_, rfl, q⟩
    · rw [if_neg h] at q
      exact ⟨_, rfl, q⟩

def spPL : Sp := fun vs H Q _ => ∃ (p : Pla), vs = [.ref p] ∧ Pool H p ∧ ∀ (t a b : Addr) (xs ys : List Int) (H' : Hp), Pool H' p → Keeps H H' p → a ≠ p → b ≠ p → H' t = some (.tup [.ref a, .ref b]) → H' a = some (.tup (xs.map V.int)) → H' b = some (.tup (ys.map V.int)) → xs.length = ys.length → 1 ≤ xs.length → xs.length ≤ 40 → Q (.ref t) H'
abbrev CalPL (P : Program) (w : World) (K : PySem.W.Frag) (mg : Str → Option Value) (base : Heap) := Cal P w K mg base 4 "_law_pair_of_layouts" ["_law_pool_here"] spPL
/-- a list grows by one -/
theorem lst_snoc {H : Hp} {L : Addr} {xs : List Int} {z : Int} : upd H L (.lst (xs.map V.int ++ [V.int z])) L = some (.lst ((xs ++ [z]).map V.int)) := by
  rw [upd_same, List.map_append]
  rfl
theorem ok_pl (B : Blt mg) (hTup : mg "tuple" = none) (C_draw : CalDraw P w K mg base) (C_wide : CalWide P w K mg base) (D : Dfn K mg "_law_pair_of_layouts" "_law_pair_of_layouts" s_pair_of_layouts ["_law_pool_here"]) : CalPL P w K mg base := by
  refine D.cal sc_pair_of_layouts (fun vs H Q E h => ?_) (fun f cdv A outer st H vs Q E hr h => ?_)
  · obtain ⟨p, rfl, _⟩ := h
    rfl
  · obtain ⟨p, rfl, hP, q⟩ := h
    refine ⟨_, (pss_cons (ps_set (i := 1) sc_pair_of_layouts.nd rfl (Or.inl rfl) (pe_op op_add (pe_int) (pe_cal C_draw (hr.mono (by decide)) (pa_cons (pv 0) (pa_cons (pe_int) pa_nil)))))
      (Evl.pss_cut (ps_if (pt_cmpR op_eq (pe_cal C_draw (hr.mono (by decide)) (pa_cons (pv 0) (pa_cons (pe_int) pa_nil))) (pe_int) (nomark _)) (pss_one (ps_set (i := 1) sc_pair_of_layouts.nd rfl (Or.inl rfl) (pe_op op_add (pe_int) (pe_cal C_draw (hr.mono (by decide)) (pa_cons (pv 0) (pa_cons (pe_int) pa_nil)))))) pss_nil)
      (pss_cons (ps_set (i := 2) sc_pair_of_layouts.nd rfl (Or.inl rfl) (pe_cal C_draw (hr.mono (by decide)) (pa_cons (pv 0) (pa_cons (pe_int) pa_nil))))
      (pss_cons (ps_set (i := 3) sc_pair_of_layouts.nd rfl (Or.inl rfl) (pe_lst pa_nil))
      (pss_cons (ps_set (i := 4) sc_pair_of_layouts.nd rfl (Or.inl rfl) (pe_lst pa_nil))
      (pss_cons (ps_for PassesOwn.never rfl (pi_range1 (by rfl) B.range (pa_cons (pv 1) pa_nil)) (pg_name (i := 5) sc_pair_of_layouts.nd rfl (Or.inl rfl)) (Evl.pss_cut (ps_if (pt_cmpR op_eq (pv 2) (pe_int) (nomark _)) (pss_one (ps_expr (pe_bm PySem.F.plainAttrs_list PySem.F.slot_list_append PySem.F.type_list_append mt_append (pv 3) (pa_cons (pe_cal C_wide (hr.mono (by decide)) (pa_cons (pv 0) pa_nil)) pa_nil)))) (pss_one (ps_expr (pe_bm PySem.F.plainAttrs_list PySem.F.slot_list_append PySem.F.type_list_append mt_append (pv 3) (pa_cons (pe_cal C_draw (hr.mono (by decide)) (pa_cons (pv 0) (pa_cons pe_int pa_nil))) pa_nil)))))
      (pss_one (ps_if (pt_cmpR op_lt (pv 2) (pe_int) (nomark _)) (pss_one (ps_expr (pe_bm PySem.F.plainAttrs_list PySem.F.slot_list_append PySem.F.type_list_append mt_append (pv 4) (pa_cons (pe_cal C_draw (hr.mono (by decide)) (pa_cons (pv 0) (pa_cons pe_int pa_nil))) pa_nil)))) (pss_one (ps_expr (pe_bm PySem.F.plainAttrs_list PySem.F.slot_list_append PySem.F.type_list_append mt_append (pv 4) (pa_cons (pe_callB (call_max2 rfl) (by rfl) B.max (by decide +kernel) (pa_cons pe_int (pa_cons (pe_op op_sub (pe_op op_add (pe_ix ix_list (pv 3) (pe_un un_neg pe_int) (fun _ _ => rfl)) (pe_cal C_draw (hr.mono (by decide)) (pa_cons (pv 0) (pa_cons pe_int pa_nil)))) pe_int) pa_nil))) pa_nil))))))))
      (pss_one (ps_ret (pe_tup (pa_cons (pe_callTy call_tuple_of (by rfl) hTup (by decide +kernel) (pa_cons (pv 3) pa_nil)) (pa_cons (pe_callTy call_tuple_of (by rfl) hTup (by decide +kernel) (pa_cons (pv 4) pa_nil)) pa_nil))))))))))), ?_⟩
    refine ⟨_, rfl, p, 12, rfl, hP, by decide, by decide, fun m H1 m0 m1 hP1 k1 => ⟨_, _, rfl, rfl, ?_⟩⟩
    refine ⟨fun σ' H' => ∃ m : Int, σ' = [some (.ref (p : Addr)), some (.int m), none, none, none, none] ∧ 1 ≤ m ∧ m ≤ 40 ∧ Pool H' p ∧ Keeps H H' p, ?_, ?_⟩
    · refine ⟨_, rfl, p, 6, rfl, hP1, by decide, by decide, fun r H2 r0 r1 hP2 k2 => ⟨rfl, _, rfl, ifE (fun h => ?_) (fun h => ?_)⟩⟩
      · refine ⟨_, rfl, p, 28, rfl, hP2, by decide, by decide, fun z H3 z0 z1 hP3 k3 => ⟨_, _, rfl, rfl, ?_⟩⟩
        exact ⟨_, rfl, by omega, by omega, hP3, k1.trans (k2.trans k3)⟩
      · exact ⟨_, rfl, by omega, by omega, hP2, k1.trans k2⟩
    rintro σ' H2 ⟨m, rfl, m0, m1, hP2, k2⟩
    refine ⟨_, rfl, p, 6, rfl, hP2, by decide, by decide, fun h H3 h0 h1 hP3 k3 => ?_⟩
    refine ⟨(by show 0 ≤ sizeLine; decide), fun L hL => ⟨(by show 0 ≤ sizeLine; decide), fun M hM => ?_⟩⟩
    have dp := hP3.apart hL
    have hP3' := hP3.upd (o := .lst []) hL
    have dq := hP3'.apart hM
    have nML : M ≠ L := fun e => by
      rw [e, upd_same] at hM
      cases hM
    have hM0 : H3 M = none := by
      rw [upd_ne nML] at hM
      exact hM
    refine ⟨_, rfl, _, rfl, by omega, by omega, for_range (lo := 0) (n := m.toNat) (fun i σ H' => ∃ (o : Option V) (xs ys : List Int), σ = [some (.ref (p : Addr)), some (.int m), some (.int h), some (.ref L), some (.ref M), o] ∧ Pool H' p ∧ Keeps H3 H' p ∧ H' L = some (.lst (xs.map V.int)) ∧ H' M = some (.lst (ys.map V.int)) ∧ xs.length = i ∧ ys.length = i)
      ⟨none, [], [], rfl, hP3'.upd hM, same_keeps ((same_upd hL).trans (same_upd hM)), by rw [upd_ne nML.symm, upd_same]; rfl, upd_same, rfl, rfl⟩ ?_ ?_⟩
    · rintro i σ H4 hi ⟨o, xs, ys, rfl, hP4, k4, hx, hy, lx, ly⟩
      have sx : (xs.map V.int).length < sizeLine := by
        rw [List.length_map]
        exact small1000 (by omega)
      have sy : (ys.map V.int).length < sizeLine := by
        rw [List.length_map]
        exact small1000 (by omega)
      refine ⟨fun σ' H' => ∃ z : Int, σ' = [some (.ref (p : Addr)), some (.int m), some (.int h), some (.ref L), some (.ref M), some (.int (0 + (i : Int)))] ∧ Pool H' p ∧ Keeps H3 H' p ∧ H' L = some (.lst ((xs ++ [z]).map V.int)) ∧ H' M = some (.lst (ys.map V.int)), ?_, ?_⟩
      · refine ⟨_, rfl, rfl, _, rfl, ifE (fun _ => ?_) (fun _ => ?_)⟩
        · exact ⟨_, rfl, .inl ⟨rfl, _, SqL.of hx⟩, _, rfl, p, rfl, hP4, fun z H5 z0 z1 hP5 k5 => ⟨L, _, _, rfl, rfl, k5 _ _ hx dp.1, sx, z, rfl, hP5.store dp.1 dp.2, keeps_late (k4.trans k5) hL, lst_snoc, by rw [upd_ne nML]; exact k5 _ _ hy dq.1⟩⟩
        · exact ⟨_, rfl, .inl ⟨rfl, _, SqL.of hx⟩, _, rfl, p, 5, rfl, hP4, by decide, by decide, fun z H5 z0 z1 hP5 k5 => ⟨L, _, _, rfl, rfl, k5 _ _ hx dp.1, sx, z, rfl, hP5.store dp.1 dp.2, keeps_late (k4.trans k5) hL, lst_snoc, by rw [upd_ne nML]; exact k5 _ _ hy dq.1⟩⟩
      rintro σ' H5 ⟨z, rfl, hP5, k5, hx, hy⟩
      refine ⟨_, rfl, _, _, rfl, rfl, _, rfl, ifD (fun _ => ?_) (fun _ => ?_)⟩
      · refine ⟨_, rfl, .inl ⟨rfl, _, SqL.of hy⟩, _, rfl, p, 5, rfl, hP5, by decide, by decide, fun y H6 y0 y1 hP6 k6 => ⟨M, _, _, rfl, rfl, k6 _ _ hy dq.1, sy, ?_⟩⟩
        exact ⟨_, xs ++ [z], ys ++ [y], rfl, hP6.store dq.1 dq.2, keeps_late (k5.trans k6) hM0, by rw [upd_ne nML.symm]; exact k6 _ _ hx dp.1, lst_snoc, by rw [List.length_append, lx]; rfl, by rw [List.length_append, ly]; rfl⟩
      · refine ⟨_, rfl, .inl ⟨rfl, _, SqL.of hy⟩, _, rfl, _, rfl, _, _, _, _, rfl, rfl, SqL.of hx, (by rw [List.map_append]; exact atI_last _ _), _, rfl, p, 3, rfl, hP5, by decide, by decide, fun y H6 y0 y1 hP6 k6 => ⟨_, _, rfl, rfl, _, _, rfl, rfl, _, _, rfl, M, _, _, rfl, rfl, k6 _ _ hy dq.1, sy, ?_⟩⟩
        exact ⟨_, xs ++ [z], ys ++ [_], rfl, hP6.store dq.1 dq.2, keeps_late (k5.trans k6) hM0, by rw [upd_ne nML.symm]; exact k6 _ _ hx dp.1, lst_snoc, by rw [List.length_append, lx]; rfl, by rw [List.length_append, ly]; rfl⟩
    · rintro σ H4 ⟨o, xs, ys, rfl, hP4, k4, hx, hy, lx, ly⟩
      refine ⟨_, rfl, L, _, rfl, .inl ⟨SqL.of hx, fun a ha => ?_⟩⟩
      have sa := same_upd (o := .tup (xs.map V.int)) ha
      refine ⟨_, rfl, M, _, rfl, .inl ⟨SqL.of (sa _ _ hy), fun b hb => ?_⟩⟩
      have sb := same_upd (o := .tup (ys.map V.int)) hb
      refine ⟨(by show 2 ≤ sizeLine; decide), fun t ht => ?_⟩
      have st := same_upd (o := .tup [.ref a, .ref b]) ht
      have hPa := hP4.upd (o := .tup (xs.map V.int)) ha
      have hPb := hPa.upd (o := .tup (ys.map V.int)) hb
      exact q t a b xs ys _ (hPb.upd ht) (k2.trans (k3.trans (k4.trans (same_keeps (sa.trans (sb.trans st)))))) (hP4.apart ha).1 (hPa.apart hb).1 upd_same (st _ _ (sb _ _ upd_same)) (st _ _ upd_same) (by omega) (by omega) (by omega)
def spPr : Sp := fun vs H Q _ => ∃ (p : Pla), vs = [.ref p] ∧ Pool H p ∧ ∀ (L : Addr) (ps : List Int) (H' : Hp), Pool H' p → Keeps H H' p → L ≠ p → H L = none → L ≠ p.q → H' L = some (.lst (ps.map V.int)) → 1 ≤ ps.length → ps.length ≤ 5 → Q (.ref L) H'
abbrev CalPr (P : Program) (w : World) (K : PySem.W.Frag) (mg : Str → Option Value) (base : Heap) := Cal P w K mg base 4 "_law_prizes" ["_law_pool_here"] spPr
theorem ok_pr (B : Blt mg) (C_draw : CalDraw P w K mg base) (C_wide : CalWide P w K mg base) (D : Dfn K mg "_law_prizes" "_law_prizes" s_prizes ["_law_pool_here"]) : CalPr P w K mg base := by
  refine D.cal sc_prizes (fun vs H Q E h => ?_) (fun f cdv A outer st H vs Q E hr h => ?_)
  · obtain ⟨p, rfl, _⟩ := h
    rfl
  · obtain ⟨p, rfl, hP, q⟩ := h
    refine ⟨_, (Evl.pss_cut (ps_set (i := 1) sc_prizes.nd rfl (Or.inl rfl) (pe_cmpR op_eq (pe_cal C_draw (hr.mono (by decide)) (pa_cons (pv 0) (pa_cons (pe_int) pa_nil))) (pe_int) (nomark _)))
      (pss_cons (ps_set (i := 2) sc_prizes.nd rfl (Or.inl rfl) (pe_lst pa_nil))
      (pss_cons (ps_for PassesOwn.never rfl (pi_range1 (by rfl) B.range (pa_cons (pe_op op_add (pe_int) (pe_cal C_draw (hr.mono (by decide)) (pa_cons (pv 0) (pa_cons (pe_int) pa_nil)))) pa_nil)) (pg_name (i := 3) sc_prizes.nd rfl (Or.inl rfl)) (pss_one (ps_if (pt_val (pv 1)) (pss_one (ps_expr (pe_bm PySem.F.plainAttrs_list PySem.F.slot_list_append PySem.F.type_list_append mt_append (pv 2) (pa_cons (pe_cal C_wide (hr.mono (by decide)) (pa_cons (pv 0) pa_nil)) pa_nil)))) (pss_one (ps_expr (pe_bm PySem.F.plainAttrs_list PySem.F.slot_list_append PySem.F.type_list_append mt_append (pv 2) (pa_cons (pe_cal C_draw (hr.mono (by decide)) (pa_cons (pv 0) (pa_cons pe_int pa_nil))) pa_nil)))))))
      (pss_one (ps_ret (pv 2)))))), ?_⟩
    refine ⟨fun σ' H' => ∃ b : Bool, σ' = [some (.ref (p : Addr)), some (.bl b), none, none] ∧ Pool H' p ∧ Keeps H H' p, ?_, ?_⟩
    · exact ⟨_, rfl, p, 6, rfl, hP, by decide, by decide, fun r H1 r0 r1 hP1 k1 => ⟨rfl, _, rfl, hP1, k1⟩⟩
    rintro σ' H1 ⟨b, rfl, hP1, k1⟩
    refine ⟨(by show 0 ≤ sizeLine; decide), fun L hL => ?_⟩
    have dp := hP1.apart hL
    have hP1' := hP1.upd (o := .lst []) hL
    refine ⟨_, rfl, p, 5, rfl, hP1', by decide, by decide, fun m H2 m0 m1 hP2 k2 => ⟨_, _, rfl, rfl, _, rfl, by omega, by omega, for_range (lo := 0) (n := (1 + m).toNat) (fun i σ H' => ∃ (o : Option V) (ps : List Int), σ = [some (.ref (p : Addr)), some (.bl b), some (.ref L), o] ∧ Pool H' p ∧ Keeps H1 H' p ∧ H' L = some (.lst (ps.map V.int)) ∧ ps.length = i)
      ⟨none, [], rfl, hP2, (same_keeps (same_upd hL)).trans k2, k2 _ _ upd_same dp.1, rfl⟩ ?_ ?_⟩⟩
    · rintro i σ H4 hi ⟨o, xs, rfl, hP4, k4, hx, lx⟩
      have sx : (xs.map V.int).length < sizeLine := by
        rw [List.length_map]
        exact small1000 (by omega)
      refine ⟨_, rfl, _, rfl, ifB (fun _ => ?_) (fun _ => ?_)⟩
      · exact ⟨_, rfl, .inl ⟨rfl, _, SqL.of hx⟩, _, rfl, p, rfl, hP4, fun z H5 z0 z1 hP5 k5 => ⟨L, _, _, rfl, rfl, k5 _ _ hx dp.1, sx, _, xs ++ [z], rfl, hP5.store dp.1 dp.2, keeps_late (k4.trans k5) hL, lst_snoc, by rw [List.length_append, lx]; rfl⟩⟩
      · exact ⟨_, rfl, .inl ⟨rfl, _, SqL.of hx⟩, _, rfl, p, 10, rfl, hP4, by decide, by decide, fun z H5 z0 z1 hP5 k5 => ⟨L, _, _, rfl, rfl, k5 _ _ hx dp.1, sx, _, xs ++ [z], rfl, hP5.store dp.1 dp.2, keeps_late (k4.trans k5) hL, lst_snoc, by rw [List.length_append, lx]; rfl⟩⟩
    · rintro σ H4 ⟨o, xs, rfl, hP4, k4, hx, lx⟩
      have hl0 : H L = none := k1.free hL dp.1
      exact ⟨_, rfl, q L xs H4 hP4 (k1.trans k4) dp.1 hl0 dp.2 hx (by omega) (by omega)⟩
end
end L

set_option Elab.async false
set_option linter.all false
set_option maxRecDepth 100000
set_option maxHeartbeats 4000000
set_option pp.maxSteps 160
set_option pp.deepTerms false
namespace L
open PySem PySem.Spec PyProof.Rows L2 Fl
local macro_rules | `(tactic| walk_at "side") => `(tactic| first | (exact .inl ⟨by omega, by omega⟩) | (exact .inr ⟨by omega, by omega⟩) | (exact .inr ⟨by decide, by decide⟩) | (show (_ : Int) ≠ _; omega) | (exact ⟨by omega, by decide⟩) | (exact ⟨by decide, by decide, by decide⟩))
local macro_rules | `(tactic| walk_at "go") => `(tactic| repeat (first | refine ⟨_, rfl, ?_⟩ | refine ⟨_, _, rfl, rfl, ?_⟩ | refine .inl ⟨_, rfl, ?_⟩ | refine ⟨rfl, ?_⟩ | refine ⟨(by walk_at "side"), ?_⟩))
local macro_rules | `(tactic| walk_at "see") => `(tactic| (set_option pp.maxSteps 110 in set_option pp.deepTerms false in trace_state))
local macro_rules | `(tactic| walk_at "if") => `(tactic| first | refine ifE ?_ ?_ | refine ifNE ?_ ?_ | refine ifD ?_ ?_ | refine ifN ?_ ?_ | refine ifB ?_ ?_)
/-- a def with the keyword-only parameter ties, 0 if it is left out -/
structure CalKW3 (P : Program) (w : World) (K : PySem.W.Frag) (mg : Str → Option Value) (base : Heap) (k : Nat) (x : Str) (ps : List Str) (sp : Sp) : Prop where
  ex : ∃ (f : Addr) (fd : FuncData) (ds : List Value), FnOk P w K mg base (L2.CX P w) k f fd ps sp ∧ mg x = some (.ref f) ∧ PySem.W.keepIn K (.ref f) = true ∧ Vals [V.int 0] ds ∧ Binds K fd ps ds ∧ KBn K fd ps 3 [("ties" : Str)] (fun us ws => us ++ ws) (fun vs zs => vs ++ zs)
theorem pe_calK03 {X : Cx} {k : Nat} {x : Str} {ps : List Str} {sp : Sp} {p pos : Pos} {e : Expr} {es : List Expr} {t : TA} (C : CalKW3 X.prog X.w X.K X.mg X.base k x ps sp) (hr : Room k X.A) (ha : PA X (e :: es) t) (hg : Gl X x := by rfl)
    (hdb : (x == ("__debug__" : Str)) = false := by decide) (he : starEach (e :: es) X.env = (false, eval e X.env) :: starEach es X.env := by rfl) (hpl : (backTo pos (starEach es X.env)).any (·.1) = false := by rfl) :
    PE X (.Call (.Name x p) (e :: es) [] pos) (tCall sp [V.int 0] E0 t) := by
  obtain ⟨f, fd, ds, F, m, kp, d, b, _⟩ := C.ex
  exact pe_call F hr hg m kp b d passL ha hdb he hpl
theorem pe_calK13 {X : Cx} {k : Nat} {x : Str} {ps : List Str} {sp : Sp} {p pos : Pos} {e : Expr} {es : List Expr} {kws : List Keyword} {t tk : TA} (C : CalKW3 X.prog X.w X.K X.mg X.base k x ps sp) (hr : Room k X.A) (ha : PA X (e :: es) t) (hkw : PK X kws tk) (hg : Gl X x := by rfl)
    (hall : (backToKw pos (keywordEach kws X.env)).all (·.1.isSome) = true := by rfl) (hks : (backToKw pos (keywordEach kws X.env)).filterMap (·.1) = [("ties" : Str)] := by rfl)
    (hdb : (x == ("__debug__" : Str)) = false := by decide) (he : starEach (e :: es) X.env = (false, eval e X.env) :: starEach es X.env := by rfl)
    (hpl : ((backTo pos (starEach (e :: es) X.env)).any (·.1) || (backToKw pos (keywordEach kws X.env)).any (·.1.isNone)) = false := by rfl) :
    PE X (.Call (.Name x p) (e :: es) kws pos) (tCallN 3 1 sp (fun vs zs => vs ++ zs) E0 t tk) := by
  obtain ⟨f, fd, ds, F, m, kp, d, b, kb⟩ := C.ex
  exact pe_callN F hr hg m kp kb passL ha hkw hall hks hdb he hpl

def tCallKS3 (sp : Sp) (E : L2.St → XK) (t tk : TA) : TE := fun σ H Q => t σ H fun vs H1 => tk σ H1 fun zs H2 => vs.length = 3 ∧ zs.length = 1 ∧ sp (vs ++ zs) H2 Q (E σ)
theorem pe_calKS3 {X : Cx} {W : WX} {k : Nat} {x : Str} {ps : List Str} {sp : Sp} {p pos : Pos} {e : Expr} {es : List Expr} {kws : List Keyword} {t tkk : TA} (C : CalKW3 X.prog X.w X.K X.mg X.base k x ps sp) (tk : Takes X W) (hr : Room k X.A) (ha : PA X (e :: es) t) (hkw : PK X kws tkk) (hg : Gl X x := by rfl)
    (hall : (backToKw pos (keywordEach kws X.env)).all (·.1.isSome) = true := by rfl) (hks : (backToKw pos (keywordEach kws X.env)).filterMap (·.1) = [("ties" : Str)] := by rfl)
    (hdb : (x == ("__debug__" : Str)) = false := by decide) (he : starEach (e :: es) X.env = (false, eval e X.env) :: starEach es X.env := by rfl)
    (hpl : ((backTo pos (starEach (e :: es) X.env)).any (·.1) || (backToKw pos (keywordEach kws X.env)).any (·.1.isNone)) = false := by rfl) :
    PE X (.Call (.Name x p) (e :: es) kws pos) (tCallKS3 sp (WE W) t tkk) := by
  obtain ⟨f, fd, ds, F, m, kp, d, b, kb⟩ := C.ex
  refine ⟨fun pins s σ H Q I h => ?_⟩
  refine wpAny_Call_Name_kw (ld_glob I hg m ?_ hdb)
  refine PySem.W.callWith_KW (h₀ := X.base) I.ok.mod.kin kp hall (thn (ha.run pos pins s σ H _ I h) fun us s1 ⟨vs, H1, I1, r, q⟩ => ?_) hpl he
  refine thn (hkw.run pos pins s1 σ H1 _ I1 q) fun ws s2 ⟨zs, H2, I2, rz, l1, l2, q2⟩ => ⟨I2.kIn, ?_⟩
  rw [hks]
  have r2 := kb.rel r rz
  refine wpAny_call (codeAny_mono (F.run X.A X.stack s2 H2 ⟨us, [("ties" : Str)].zip ws⟩ (us ++ ws) (vs ++ zs) Q (WE W σ) hr I2.env0 (kb.to s2 us ws I2.kIn (r.length.symm.trans l1) (rz.length.symm.trans l2)) r2 q2) fun r s' hq => ?_)
  cases r with
  | error e => exact passAt tk σ pins H2 s2 e s' I2 hq
  | ok fl =>
    cases fl with
    | ret u => exact I2.after hq
    | next => exact False.elim hq
    | brk => exact False.elim hq
    | cont => exact False.elim hq
section
variable {P : Program} {w : World} {K : PySem.W.Frag} {mg : Str → Option Value} {base : Heap}

def pb (ws : List Int) (s : Int) : Nat → Bool
  | 0 => false
  | j + 1 => decide (ws[j]? = some s)
def spEarn : Sp := fun vs H Q _ => ∃ (W L : Addr) (ws ps : List Int) (s : Int), vs = [.ref W, .int s, .ref L] ∧ H W = some (.lst (ws.map V.int)) ∧ H L = some (.lst (ps.map V.int)) ∧ ws.length ≤ 900 ∧ 1 ≤ ps.length ∧ Q (.int (earn ps s false ws)) H
abbrev CalEarn (P : Program) (w : World) (K : PySem.W.Frag) (mg : Str → Option Value) (base : Heap) := Cal P w K mg base 1 "_law_earned" ["_law_winners", "_law_side", "_law_prizes_here"] spEarn
theorem ok_earn (B : Blt mg) (D : Dfn K mg "_law_earned" "_law_earned" s_earned ["_law_winners", "_law_side", "_law_prizes_here"]) : CalEarn P w K mg base := by
  refine D.cal sc_earned (fun vs H Q E h => ?_) (fun f cdv A outer st H vs Q E hr h => ?_)
  · obtain ⟨W, L, ws, ps, s, rfl, _⟩ := h
    rfl
  · obtain ⟨W, L, ws, ps, s, rfl, hW, hL, hx, hp, q⟩ := h
    refine ⟨_, (pss_cons (ps_set (i := 3) sc_earned.nd rfl (Or.inl rfl) (pe_int))
      (pss_cons (ps_for PassesOwn.never rfl (pi_range1 (by rfl) B.range (pa_cons (pe_callB call_len_seq (by rfl) B.len PySem.boot_len (pa_cons (pv 0) pa_nil)) pa_nil)) (pg_name (i := 4) sc_earned.nd rfl (Or.inl rfl)) (pss_one (ps_if (PW.pt (pw_and (pt_cmpR op_eq (pe_ix ix_list (pv 0) (pv 4) (fun _ _ => rfl)) (pv 1) (nomark _)) (pw_and1 (PW.pt (pw_or (pt_cmpR op_eq (pv 4) (pe_int) (nomark _)) (pw_or1 (pt_cmpR op_ne (pe_ix ix_list (pv 0) (pe_op op_sub (pv 4) (pe_int)) (fun _ _ => rfl)) (pv 1) (nomark _)))))))) (pss_cons (ps_set (i := 5) sc_earned.nd rfl (Or.inl rfl) (pe_int))
      (Evl.pss_cut (ps_for PassesOwn.never rfl (pi_range2 (by rfl) B.range (pa_cons (pe_op op_add (pv 4) (pe_int)) (pa_cons (pe_callB call_len_seq (by rfl) B.len PySem.boot_len (pa_cons (pv 0) pa_nil)) pa_nil))) (pg_name (i := 6) sc_earned.nd rfl (Or.inl rfl)) (pss_cons (ps_if (pt_cmpR op_ne (pe_ix ix_list (pv 0) (pv 6) (fun _ _ => rfl)) (pv 1) (nomark _)) (pss_one ps_break) pss_nil)
      (pss_one (ps_set (i := 5) sc_earned.nd rfl (Or.inl rfl) (pe_op op_add (pv 5) (pe_int))))))
      (pss_one (ps_set (i := 3) sc_earned.nd rfl (Or.inl rfl) (pe_op op_add (pv 3) (pe_ix ix_list (pv 2) (pe_op op_sub (pe_callB (call_min2 rfl) (by rfl) B.min (by decide +kernel) (pa_cons (pv 5) (pa_cons (pe_callB call_len_seq (by rfl) B.len PySem.boot_len (pa_cons (pv 2) pa_nil)) pa_nil))) (pe_int)) (fun _ _ => rfl))))))) pss_nil)))
      (pss_one (ps_ret (pv 3))))), ?_⟩
    have lw : (ws.map V.int).length = ws.length := List.length_map ..
    have lp : (ps.map V.int).length = ps.length := List.length_map ..
    refine ⟨_, rfl, _, _, rfl, .inl (SqL.of hW), _, rfl, by omega, by omega, ?_⟩
    rw [lw, Int.toNat_natCast]
    refine for_range (lo := 0) (n := ws.length) (fun i σ H' => H' = H ∧ ∃ (f : Int) (o1 o2 o3 : Option V), σ = [some (.ref W), some (.int s), some (.ref L), some (.int f), o1, o2, o3] ∧ f + earn ps s (pb ws s i) (ws.drop i) = earn ps s false ws) ⟨rfl, 0, none, none, none, rfl, Int.zero_add _⟩ ?_ ?_
    · rintro i σ H' hi ⟨rfl, f, o1, o2, o3, rfl, hf⟩
      have hw : ws[i]? = some ws[i] := List.getElem?_eq_getElem hi
      rw [List.drop_eq_getElem_cons hi] at hf
      have hf : f + ((if ws[i] = s ∧ pb ws s i = false then pz ps (1 + lead s (ws.drop (i + 1))) else 0) + earn ps s (decide (ws[i] = s)) (ws.drop (i + 1))) = earn ps s false ws := hf
      have hb : pb ws s (i + 1) = decide (ws[i] = s) := by
        show decide (ws[i]? = some s) = _
        rw [hw]
        simp only [Option.some.injEq]
      rw [← hb] at hf
      have a1 : atI (ws.map V.int) ((0 : Int) + (i : Int)) = some (V.int ws[i]) := by
        rw [Int.zero_add]
        exact atI_nat (ints_at hi)
      have skip : ¬ (ws[i] = s ∧ pb ws s i = false) → f + earn ps s (pb ws s (i + 1)) (ws.drop (i + 1)) = earn ps s false ws := fun h => by
        rw [if_neg h, Int.zero_add] at hf
        exact hf
      generalize ws[i] = x at *
      refine ⟨_, rfl, _, rfl, _, _, _, _, rfl, rfl, SqL.of hW, a1, _, rfl, rfl, _, rfl, ifE (fun h1 => ?_) (fun h1 => ⟨rfl, _, _, _, _, rfl, skip fun h => h1 h.1⟩)⟩
      refine ⟨_, rfl, rfl, _, rfl, ifE (fun h2 => ?_) (fun h2 => ?_)⟩
      · have hpb : pb ws s i = false := by
          have e : i = 0 := by omega
          rw [e]
          rfl
        refine ⟨fun σ' H2 => H2 = H' ∧ ∃ o : Option V, σ' = [some (.ref W), some (.int s), some (.ref L), some (.int f), some (.int (0 + (i : Int))), some (.int ((1 + lead s (ws.drop (i + 1)) : Nat) : Int)), o], ?_, ?_⟩
        · refine ⟨_, rfl, _, _, rfl, rfl, _, rfl, _, _, rfl, .inl (SqL.of hW), _, _, rfl, ⟨by omega, by omega, by omega, by omega⟩, ?_⟩
          rw [lw, show ((ws.length : Int) - (0 + (i : Int) + 1)).toNat = ws.length - (i + 1) by omega]
          refine for_range (lo := 0 + (i : Int) + 1) (n := ws.length - (i + 1)) (fun j σ H2 => H2 = H' ∧ ∃ (n : Nat) (o : Option V), σ = [some (.ref W), some (.int s), some (.ref L), some (.int f), some (.int (0 + (i : Int))), some (.int (n : Int)), o] ∧ n + lead s (ws.drop (i + 1 + j)) = 1 + lead s (ws.drop (i + 1))) ⟨rfl, 1, _, rfl, rfl⟩ ?_ ?_
          · rintro j σ H2 hj ⟨rfl, n, o, rfl, hn⟩
            have hij : i + 1 + j < ws.length := by omega
            rw [List.drop_eq_getElem_cons hij] at hn
            have hn : n + (if ws[i + 1 + j] = s then 1 + lead s (ws.drop (i + 1 + j + 1)) else 0) = 1 + lead s (ws.drop (i + 1)) := hn
            have a2 : atI (ws.map V.int) ((0 : Int) + (i : Int) + 1 + (j : Int)) = some (V.int ws[i + 1 + j]) := by
              rw [show (0 : Int) + (i : Int) + 1 + (j : Int) = ((i + 1 + j : Nat) : Int) by omega]
              exact atI_nat (ints_at hij)
            generalize ws[i + 1 + j] = y at *
            refine ⟨_, rfl, _, rfl, _, _, _, _, rfl, rfl, SqL.of hW, a2, _, rfl, rfl, _, rfl, ifNE (fun h => ?_) (fun h => ?_)⟩
            · rw [if_neg h, Nat.add_zero] at hn
              rw [← hn]
              exact ⟨rfl, _, rfl⟩
            · rw [if_pos h] at hn
              exact ⟨_, rfl, _, _, rfl, rfl, rfl, n + 1, _, rfl, by rw [show i + 1 + (j + 1) = i + 1 + j + 1 by omega]; omega⟩
          · rintro σ H2 ⟨rfl, n, o, rfl, hn⟩
            rw [show i + 1 + (ws.length - (i + 1)) = ws.length by omega, List.drop_length] at hn
            have hn : n + 0 = 1 + lead s (ws.drop (i + 1)) := hn
            rw [← hn]
            exact ⟨rfl, _, rfl⟩
        rintro σ' H2 ⟨rfl, o, rfl⟩
        have hix : atI (ps.map V.int) ((if (ps.length : Int) < ((1 + lead s (ws.drop (i + 1)) : Nat) : Int) then (ps.length : Int) else ((1 + lead s (ws.drop (i + 1)) : Nat) : Int)) - 1) = some (V.int (pz ps (1 + lead s (ws.drop (i + 1))))) := by
          have e : ((if (ps.length : Int) < ((1 + lead s (ws.drop (i + 1)) : Nat) : Int) then (ps.length : Int) else ((1 + lead s (ws.drop (i + 1)) : Nat) : Int)) - 1) = ((min (1 + lead s (ws.drop (i + 1))) ps.length - 1 : Nat) : Int) := by
            split <;> omega
          rw [e]
          refine atI_nat ?_
          rw [List.getElem?_map, pz_at (by omega) hp]
          rfl
        rw [← lp] at hix
        refine ⟨_, rfl, _, rfl, _, rfl, _, rfl, _, _, rfl, .inl (SqL.of hL), _, _, rfl, _, _, rfl, rfl, _, _, _, _, rfl, rfl, SqL.of hL, hix, _, _, rfl, rfl, rfl, _, _, _, _, rfl, ?_⟩
        rw [if_pos ⟨h1, hpb⟩] at hf
        rw [Int.add_assoc]
        exact hf
      · obtain ⟨j, rfl⟩ : ∃ j, i = j + 1 := ⟨i - 1, by omega⟩
        have hj : ws[j]? = some ws[j] := List.getElem?_eq_getElem (by omega)
        have a3 : atI (ws.map V.int) ((0 : Int) + ((j + 1 : Nat) : Int) - 1) = some (V.int ws[j]) := by
          rw [show (0 : Int) + ((j + 1 : Nat) : Int) - 1 = (j : Int) by omega]
          exact atI_nat (ints_at (by omega))
        have hq : pb ws s (j + 1) = decide (ws[j] = s) := by
          show decide (ws[j]? = some s) = _
          rw [hj]
          simp only [Option.some.injEq]
        generalize ws[j] = y at *
        refine ⟨_, rfl, _, rfl, _, _, rfl, rfl, _, _, _, _, rfl, rfl, SqL.of hW, a3, _, rfl, rfl, _, rfl, ifNE (fun h3 => ?_) (fun h3 => ⟨rfl, _, _, _, _, rfl, skip fun h => ?_⟩)⟩
        · have hpb : pb ws s (j + 1) = false := by rw [hq]; exact decide_eq_false h3
          generalize hi2 : j + 1 = i at *
          refine ⟨fun σ' H2 => H2 = H' ∧ ∃ o : Option V, σ' = [some (.ref W), some (.int s), some (.ref L), some (.int f), some (.int (0 + (i : Int))), some (.int ((1 + lead s (ws.drop (i + 1)) : Nat) : Int)), o], ?_, ?_⟩
          · refine ⟨_, rfl, _, _, rfl, rfl, _, rfl, _, _, rfl, .inl (SqL.of hW), _, _, rfl, ⟨by omega, by omega, by omega, by omega⟩, ?_⟩
            rw [lw, show ((ws.length : Int) - (0 + (i : Int) + 1)).toNat = ws.length - (i + 1) by omega]
            refine for_range (lo := 0 + (i : Int) + 1) (n := ws.length - (i + 1)) (fun j σ H2 => H2 = H' ∧ ∃ (n : Nat) (o : Option V), σ = [some (.ref W), some (.int s), some (.ref L), some (.int f), some (.int (0 + (i : Int))), some (.int (n : Int)), o] ∧ n + lead s (ws.drop (i + 1 + j)) = 1 + lead s (ws.drop (i + 1))) ⟨rfl, 1, _, rfl, rfl⟩ ?_ ?_
            · rintro j σ H2 hj ⟨rfl, n, o, rfl, hn⟩
              have hij : i + 1 + j < ws.length := by omega
              rw [List.drop_eq_getElem_cons hij] at hn
              have hn : n + (if ws[i + 1 + j] = s then 1 + lead s (ws.drop (i + 1 + j + 1)) else 0) = 1 + lead s (ws.drop (i + 1)) := hn
              have a2 : atI (ws.map V.int) ((0 : Int) + (i : Int) + 1 + (j : Int)) = some (V.int ws[i + 1 + j]) := by
                rw [show (0 : Int) + (i : Int) + 1 + (j : Int) = ((i + 1 + j : Nat) : Int) by omega]
                exact atI_nat (ints_at hij)
              generalize ws[i + 1 + j] = y at *
              refine ⟨_, rfl, _, rfl, _, _, _, _, rfl, rfl, SqL.of hW, a2, _, rfl, rfl, _, rfl, ifNE (fun h => ?_) (fun h => ?_)⟩
              · rw [if_neg h, Nat.add_zero] at hn
                rw [← hn]
                exact ⟨rfl, _, rfl⟩
              · rw [if_pos h] at hn
                exact ⟨_, rfl, _, _, rfl, rfl, rfl, n + 1, _, rfl, by rw [show i + 1 + (j + 1) = i + 1 + j + 1 by omega]; omega⟩
            · rintro σ H2 ⟨rfl, n, o, rfl, hn⟩
              rw [show i + 1 + (ws.length - (i + 1)) = ws.length by omega, List.drop_length] at hn
              have hn : n + 0 = 1 + lead s (ws.drop (i + 1)) := hn
              rw [← hn]
              exact ⟨rfl, _, rfl⟩
          rintro σ' H2 ⟨rfl, o, rfl⟩
          have hix : atI (ps.map V.int) ((if (ps.length : Int) < ((1 + lead s (ws.drop (i + 1)) : Nat) : Int) then (ps.length : Int) else ((1 + lead s (ws.drop (i + 1)) : Nat) : Int)) - 1) = some (V.int (pz ps (1 + lead s (ws.drop (i + 1))))) := by
            have e : ((if (ps.length : Int) < ((1 + lead s (ws.drop (i + 1)) : Nat) : Int) then (ps.length : Int) else ((1 + lead s (ws.drop (i + 1)) : Nat) : Int)) - 1) = ((min (1 + lead s (ws.drop (i + 1))) ps.length - 1 : Nat) : Int) := by
              split <;> omega
            rw [e]
            refine atI_nat ?_
            rw [List.getElem?_map, pz_at (by omega) hp]
            rfl
          rw [← lp] at hix
          refine ⟨_, rfl, _, rfl, _, rfl, _, rfl, _, _, rfl, .inl (SqL.of hL), _, _, rfl, _, _, rfl, rfl, _, _, _, _, rfl, rfl, SqL.of hL, hix, _, _, rfl, rfl, rfl, _, _, _, _, rfl, ?_⟩
          rw [if_pos ⟨h1, hpb⟩] at hf
          rw [Int.add_assoc]
          exact hf
        · rw [hq, decide_eq_true h3] at h
          exact absurd h.2 (by decide)
    · rintro σ H' ⟨rfl, f, o1, o2, o3, rfl, hf⟩
      rw [List.drop_length] at hf
      have hf : f + 0 = earn ps s false ws := hf
      rw [Int.add_zero] at hf
      rw [← hf] at q
      exact ⟨_, rfl, q⟩

def spPay : Sp := fun vs H Q _ => ∃ (a b L : Addr) (xs ys ps : List Int) (v : Int), vs = [.ref a, .ref b, .ref L, .int v] ∧ H a = some (.tup (xs.map V.int)) ∧ H b = some (.tup (ys.map V.int)) ∧ H L = some (.lst (ps.map V.int)) ∧ xs.length = ys.length ∧ xs.length ≤ 900 ∧ 1 ≤ ps.length ∧ Tri v ∧ ∀ H', Same H H' → Q (.int (payv xs ys v ps)) H'
abbrev CalPay (P : Program) (w : World) (K : PySem.W.Frag) (mg : Str → Option Value) (base : Heap) := Cal P w K mg base 2 "_law_pay" ["_law_one", "_law_other", "_law_prizes_here", "_law_ties_here"] spPay
theorem ok_pay (B : Blt mg) (C_outcome : CalOut P w K mg base) (C_earned : CalEarn P w K mg base) (D : Dfn K mg "_law_pay" "_law_pay" s_pay ["_law_one", "_law_other", "_law_prizes_here", "_law_ties_here"]) : CalPay P w K mg base := by
  refine D.cal sc_pay (fun vs H Q E h => ?_) (fun f cdv A outer st H vs Q E hr h => ?_)
  · obtain ⟨a, b, L, xs, ys, ps, v, rfl, _⟩ := h
    rfl
  · obtain ⟨a, b, L, xs, ys, ps, v, rfl, ha, hb, hL, hl, hx, hp, hv, q⟩ := h
    refine ⟨_, (pss_cons (ps_setLc (i := 4) (own := [("_law_at", 5)]) (g := gName 5) rfl sc_pay.nd rfl rfl (sw_true rfl rfl rfl (by decide +kernel)) (pi_range1 (by rfl) B.range (pa_cons (pe_callB call_len_seq (by rfl) B.len PySem.boot_len (pa_cons (pv 0) pa_nil)) pa_nil)) (blkOk_by (N := ["_law_one", "_law_other", "_law_prizes_here", "_law_ties_here", "_law_winners", "_law_at"]) (sc := defScope s_pay) (by decide +kernel)) (fun _ _ _ _ _ => pg_name (i := 5) sc_pay.nd rfl (Or.inl rfl)) (fun _ _ _ _ _ => pts_nil) (fun _ _ _ _ _ => (pe_cal C_outcome (hr.mono (by decide)) (pa_cons (pe_ix (ix_tup_K (K := K) rfl) (pv 0) (pv 5) (fun _ _ => rfl)) (pa_cons (pe_ix (ix_tup_K (K := K) rfl) (pv 1) (pv 5) (fun _ _ => rfl)) (pa_cons (pv 3) pa_nil))))))
      (pss_one (ps_ret (pe_op op_sub (pe_cal C_earned (hr.mono (by decide)) (pa_cons (pv 4) (pa_cons (pe_int) (pa_cons (pv 2) pa_nil)))) (pe_cal C_earned (hr.mono (by decide)) (pa_cons (pv 4) (pa_cons (pe_un un_neg (pe_int)) (pa_cons (pv 2) pa_nil)))))))), ?_⟩
    have lx : (xs.map V.int).length = xs.length := List.length_map ..
    refine ⟨_, rfl, _, _, rfl, .inr (SqT.of ha), _, rfl, by omega, by omega, fun D hD => ?_⟩
    rw [lx, Int.toNat_natCast]
    refine lc_range (lo := 0) (n := xs.length) (fun i H' => Same H H' ∧ H' D = some (.lst (((wins xs ys v).take i).map V.int))) ⟨same_upd hD, upd_same⟩ ?_ ?_
    · rintro i H1 hi ⟨s1, hD1⟩
      have hzx : xs[i]? = some xs[i] := List.getElem?_eq_getElem hi
      have hzy : ys[i]? = some (ys[i]'(by omega)) := List.getElem?_eq_getElem (by omega)
      have hw := wins_at (v := v) hzx hzy
      have a1 : atI (xs.map V.int) ((0 : Int) + (i : Int)) = some (V.int xs[i]) := by
        rw [Int.zero_add]
        exact atI_nat (ints_at hi)
      have a2 : atI (ys.map V.int) ((0 : Int) + (i : Int)) = some (V.int (ys[i]'(by omega))) := by
        rw [Int.zero_add]
        exact atI_nat (ints_at (by omega))
      refine ⟨rfl, ?_⟩
      refine ⟨_, rfl, _, rfl, _, _, _, _, rfl, rfl, SqT.of (s1 _ _ ha), a1, _, rfl, _, rfl, _, _, _, _, rfl, rfl, SqT.of (s1 _ _ hb), a2, _, rfl, _, _, _, rfl, _, hD1, ?_, same_late s1 hD, ?_⟩
      · rw [List.length_map, List.length_take]
        exact small1000 (by omega)
      · rw [upd_same, List.take_add_one, hw, List.map_append]
        rfl
    rintro H1 ⟨s1, hD1⟩
    rw [List.take_of_length_le (by rw [wins_len hl]; exact Nat.le_refl _)] at hD1
    have wl := wins_len (v := v) hl
    have pe := paid_earn (ps := ps) (wins_tri (xs := xs) (ys := ys) hv)
    have q1 := q H1 s1
    unfold payv at q1
    rw [pe] at q1
    exact ⟨_, rfl, _, rfl, D, L, _, ps, 1, rfl, hD1, s1 _ _ hL, by omega, hp, _, rfl, _, rfl, _, rfl, D, L, _, ps, -1, rfl, hD1, s1 _ _ hL, by omega, hp, _, _, rfl, rfl, q1⟩
def duL : Du → List V
  | .num n z => [.int 0, .str n, .int z, .bl true, .bl true, .bl false]
  | _ => [.int 1, .str "", .int 0, .bl true, .bl true, .bl false]
def spRef : Sp := fun vs H Q _ => ∃ (a b L : Addr) (xs ys ps : List Int) (v : Int), vs = [.ref a, .ref b, .ref L, .int v] ∧ H a = some (.tup (xs.map V.int)) ∧ H b = some (.tup (ys.map V.int)) ∧ H L = some (.lst (ps.map V.int)) ∧ xs.length ≤ 900 ∧ duO xs.length ys.length ps v ≠ .ok ∧
  ∀ (z : Addr) (H' : Hp), Same H H' → H' z = some (.tup (duL (duO xs.length ys.length ps v))) → Q (.ref z) H'
abbrev CalRef (P : Program) (w : World) (K : PySem.W.Frag) (mg : Str → Option Value) (base : Heap) := Cal P w K mg base 5 "_law_refused" ["_law_one", "_law_other", "_law_prizes_here", "_law_rule"] spRef
abbrev CalRP (P : Program) (w : World) (K : PySem.W.Frag) (mg : Str → Option Value) (base : Heap) (BN MM : Addr) := CalKW3 P w K mg base 4 "row_pay" ["one", "other", "prizes", "ties"] (spRP BN MM)
theorem ok_ref {BN MM LE : Addr} (B : Blt mg) (TB : BnC K mg BN) (TM : ExC K mg "Mismatch" MM) (gLotError : mg "LotError" = some (.ref LE)) (gBadNumber : mg "BadNumber" = some (.ref BN)) (gMismatch : mg "Mismatch" = some (.ref MM))
    (b1 : PySem.W.kitOne K (.ref BN) (.ref LE) = some true) (b2 : PySem.W.kitOne K (.ref BN) (.type "ValueError") = some true) (b3 : PySem.W.kitOne K (.ref BN) (.ref MM) = some false)
    (n1 : PySem.W.kitOne K (.ref MM) (.ref LE) = some true) (n2 : PySem.W.kitOne K (.ref MM) (.type "ValueError") = some true) (n3 : PySem.W.kitOne K (.ref MM) (.ref BN) = some false) (nb : PySem.W.exmOne K (.ref MM) (.ref BN) = some false)
    (CRP : CalRP P w K mg base BN MM) (D : Dfn K mg "_law_refused" "_law_refused" s_refused ["_law_one", "_law_other", "_law_prizes_here", "_law_rule"]) : CalRef P w K mg base := by
  refine D.cal sc_refused (fun vs H Q E h => ?_) (fun f cdv A outer st H vs Q E hr h => ?_)
  · obtain ⟨a, b, L, xs, ys, ps, v, rfl, _⟩ := h
    rfl
  · obtain ⟨a, b, L, xs, ys, ps, v, rfl, ha, hb, hL, hx, hd, q⟩ := h
    refine ⟨_, (pss_cons (ps_set (i := 4) sc_refused.nd rfl (Or.inl rfl) (pe_non))
      (pss_cons (ps_try_cls rfl rfl sc_refused.nd takes0 (fun W pn xe tk _ => (pss_one (ps_expr (pe_calKS3 CRP tk (hr.mono (by decide)) (pa_cons (pv 0) (pa_cons (pv 1) (pa_cons (pv 2) pa_nil))) (pk_cons (pv 3) pk_nil))))) (.cons (i := 5) rfl rfl ⟨rfl, by decide, Or.inl TB.g⟩ (fun a oe cls d pn hz hf => (pss_one (ps_set (i := 4) sc_refused.nd rfl (Or.inl rfl) (pe_tup (pa_cons (pe_int) (pa_cons (pe_xf TB.xf TB.nN hz hf (pv 5)) (pa_cons (pe_xf TB.xf TB.nV hz hf (pv 5)) (pa_cons (pe_callB (call_isX TB.e hz hf) (by rfl) B.isinstance (by decide +kernel) (pa_cons (pv 5) (pa_cons (pe_glob (v := .ref _) (by rfl) gLotError rfl) pa_nil))) (pa_cons (pe_callB (call_isX TB.e hz hf) (by rfl) B.isinstance (by decide +kernel) (pa_cons (pv 5) (pa_cons (pe_bltn (v := .ty "ValueError") (by rfl) B.ve (by decide +kernel) rfl) pa_nil))) (pa_cons (pe_callB (call_isX TB.e hz hf) (by rfl) B.isinstance (by decide +kernel) (pa_cons (pv 5) (pa_cons (pe_glob (v := .ref _) (by rfl) TM.g rfl) pa_nil))) pa_nil)))))))))) (.cons (i := 6) rfl rfl ⟨rfl, by decide, Or.inl TM.g⟩ (fun a oe cls d pn hz hf => (pss_one (ps_set (i := 4) sc_refused.nd rfl (Or.inl rfl) (pe_tup (pa_cons (pe_int) (pa_cons (pe_str) (pa_cons (pe_int) (pa_cons (pe_callB (call_isX TM.e hz hf) (by rfl) B.isinstance (by decide +kernel) (pa_cons (pv 6) (pa_cons (pe_glob (v := .ref _) (by rfl) gLotError rfl) pa_nil))) (pa_cons (pe_callB (call_isX TM.e hz hf) (by rfl) B.isinstance (by decide +kernel) (pa_cons (pv 6) (pa_cons (pe_bltn (v := .ty "ValueError") (by rfl) B.ve (by decide +kernel) rfl) pa_nil))) (pa_cons (pe_callB (call_isX TM.e hz hf) (by rfl) B.isinstance (by decide +kernel) (pa_cons (pv 6) (pa_cons (pe_glob (v := .ref _) (by rfl) TB.g rfl) pa_nil))) pa_nil)))))))))) .nil)))
      (pss_one (ps_ret (pv 4))))), ?_⟩
    refine ⟨_, rfl, _, rfl, _, rfl, _, rfl, rfl, rfl, a, b, L, xs, ys, ps, v, rfl, ha, hb, hL, hx, fun n z hn => ?_, fun hn H1 s1 => ?_, fun h => absurd h hd⟩
    · rw [hn] at q
      intro d H' s hd0 hd
      refine ⟨true, TB.exm, fun _ e0 he0 => ?_, nofun⟩
      refine ⟨_, rfl, rfl, rfl, d, _, _, rfl, hd, bnf_name _ _, ?_⟩
      refine ⟨_, rfl, rfl, rfl, d, _, _, rfl, hd, bnf_value _ _, ?_⟩
      refine ⟨_, rfl, rfl, .inr ⟨d, _, rfl, hd⟩, _, _, true, rfl, .own _, b1, ?_⟩
      refine ⟨_, rfl, rfl, .inr ⟨d, _, rfl, hd⟩, _, _, true, rfl, .ty _, b2, ?_⟩
      refine ⟨_, rfl, rfl, .inr ⟨d, _, rfl, hd⟩, _, _, false, rfl, .own _, b3, ?_⟩
      exact ⟨(by show 6 ≤ sizeLine; decide), fun z hz => ⟨_, rfl, q _ _ (s.trans (same_upd hz)) upd_same⟩⟩
    · rw [hn] at q
      refine ⟨false, nb, nofun, fun _ => ⟨true, TM.exm, fun _ e0 he0 => ?_, nofun⟩⟩
      refine ⟨_, rfl, rfl, .inl rfl, _, _, true, rfl, .own _, n1, ?_⟩
      refine ⟨_, rfl, rfl, .inl rfl, _, _, true, rfl, .ty _, n2, ?_⟩
      refine ⟨_, rfl, rfl, .inl rfl, _, _, false, rfl, .own _, n3, ?_⟩
      exact ⟨(by show 6 ≤ sizeLine; decide), fun z hz => ⟨_, rfl, q _ _ (s1.trans (same_upd hz)) upd_same⟩⟩
def spDue : Sp := fun vs H Q _ => ∃ (a b L : Addr) (xs ys ps : List Int) (v : Int), vs = [.ref a, .ref b, .ref L, .int v] ∧ H a = some (.tup (xs.map V.int)) ∧ H b = some (.tup (ys.map V.int)) ∧ H L = some (.lst (ps.map V.int)) ∧
  (duO xs.length ys.length ps v = .ok → Q .non H) ∧ (duO xs.length ys.length ps v ≠ .ok → ∀ (z : Addr) (H' : Hp), Same H H' → H' z = some (.tup (duL (duO xs.length ys.length ps v))) → Q (.ref z) H')
abbrev CalDue (P : Program) (w : World) (K : PySem.W.Frag) (mg : Str → Option Value) (base : Heap) := Cal P w K mg base 1 "_law_due" ["_law_one", "_law_other", "_law_prizes_here", "_law_rule"] spDue
theorem ok_due (B : Blt mg) (D : Dfn K mg "_law_due" "_law_due" s_due ["_law_one", "_law_other", "_law_prizes_here", "_law_rule"]) : CalDue P w K mg base := by
  refine D.cal sc_due (fun vs H Q E h => ?_) (fun f cdv A outer st H vs Q E hr h => ?_)
  · obtain ⟨a, b, L, xs, ys, ps, v, rfl, _⟩ := h
    rfl
  · obtain ⟨a, b, L, xs, ys, ps, v, rfl, ha, hb, hL, k1, k2⟩ := h
    refine ⟨_, (pss_cons (ps_if (PW.pt (pw_or (pt_cmpR op_lt (pv 3) (pe_un un_neg (pe_int)) (nomark _)) (pw_or1 (pt_cmpR op_gt (pv 3) (pe_int) (nomark _))))) (pss_one (ps_ret (pe_tup (pa_cons (pe_int) (pa_cons (pe_str) (pa_cons (pv 3) (pa_cons (pe_bl) (pa_cons (pe_bl) (pa_cons (pe_bl) pa_nil))))))))) pss_nil)
      (pss_cons (ps_if (pt_cmpR op_eq (pe_callB call_len_seq (by rfl) B.len PySem.boot_len (pa_cons (pv 2) pa_nil)) (pe_int) (nomark _)) (pss_one (ps_ret (pe_tup (pa_cons (pe_int) (pa_cons (pe_str) (pa_cons (pe_int) (pa_cons (pe_bl) (pa_cons (pe_bl) (pa_cons (pe_bl) pa_nil))))))))) pss_nil)
      (pss_cons (ps_for PassesOwn.never rfl (pi_list (pv 2)) (pg_name (i := 4) sc_due.nd rfl (Or.inl rfl)) (pss_one (ps_if (pt_cmpR op_lt (pv 4) (pe_int) (nomark _)) (pss_one (ps_ret (pe_tup (pa_cons (pe_int) (pa_cons (pe_str) (pa_cons (pv 4) (pa_cons (pe_bl) (pa_cons (pe_bl) (pa_cons (pe_bl) pa_nil))))))))) pss_nil)))
      (pss_cons (ps_if (pt_cmpR op_ne (pe_callB call_len_seq (by rfl) B.len PySem.boot_len (pa_cons (pv 0) pa_nil)) (pe_callB call_len_seq (by rfl) B.len PySem.boot_len (pa_cons (pv 1) pa_nil)) (nomark _)) (pss_one (ps_ret (pe_tup (pa_cons (pe_int) (pa_cons (pe_str) (pa_cons (pe_int) (pa_cons (pe_bl) (pa_cons (pe_bl) (pa_cons (pe_bl) pa_nil))))))))) pss_nil)
      (pss_one (ps_ret (pe_non))))))), ?_⟩
    have lx : (xs.map V.int).length = xs.length := List.length_map ..
    have ly : (ys.map V.int).length = ys.length := List.length_map ..
    have lp : (ps.map V.int).length = ps.length := List.length_map ..
    have out : ∀ (d : Du), duO xs.length ys.length ps v = d → d ≠ .ok → ∀ (z : Addr) (H' : Hp), Same H H' → H' z = some (.tup (duL d)) → Q (.ref z) H' := fun d e n z H' s h => k2 (by rw [e]; exact n) z H' s (by rw [e]; exact h)
    have tie : ¬ Tri v → duO xs.length ys.length ps v = .num "ties" v := duO_ties
    refine ⟨_, rfl, _, rfl, _, _, rfl, rfl, _, rfl, ifD (fun h => ?_) (fun h1 => ?_)⟩
    · exact ⟨_, rfl, (by show 6 ≤ sizeLine; decide), fun z hz => out _ (tie (by unfold Tri; omega)) (fun e => nomatch e) z _ (same_upd hz) upd_same⟩
    refine ⟨_, rfl, _, _, rfl, rfl, _, rfl, ifD (fun h => ?_) (fun h2 => ?_)⟩
    · exact ⟨_, rfl, (by show 6 ≤ sizeLine; decide), fun z hz => out _ (tie (by unfold Tri; omega)) (fun e => nomatch e) z _ (same_upd hz) upd_same⟩
    have hv : Tri v := by unfold Tri; omega
    refine ⟨_, rfl, _, _, rfl, .inl (SqL.of hL), rfl, _, rfl, ?_⟩
    rw [lp]
    refine ifE (fun h => ?_) (fun h3 => ?_)
    · have e : ps = [] := List.length_eq_zero_iff.mp (by omega)
      exact ⟨(by show 6 ≤ sizeLine; decide), fun z hz => out (.num "prizes" 0) (by rw [e]; exact duO_nil hv) (fun e => nomatch e) z _ (same_upd hz) upd_same⟩
    refine ⟨_, rfl, L, rfl, ⟨_, SqL.of hL⟩, for_list (K := K) (a := L) (xs := ps.map V.int) (fun i σ H' => H' = H ∧ ∃ o : Option V, σ = [some (.ref a), some (.ref b), some (.ref L), some (.int v), o] ∧ neg1 (ps.drop i) = neg1 ps) ⟨rfl, none, rfl, rfl⟩ (fun i σ H' _ h => by rw [h.1]; exact SqL.of hL) ?_ ?_⟩
    · rintro i y σ H' hy ⟨rfl, o, rfl, hn⟩
      obtain ⟨z, hz, rfl⟩ := int_of_map hy
      have hd := neg1_drop hz
      refine ⟨_, rfl, _, _, rfl, rfl, _, rfl, ifD (fun h => ?_) (fun h => ?_)⟩
      · rw [if_pos h] at hd
        exact ⟨_, rfl, (by show 6 ≤ sizeLine; decide), fun u hu => out (.num "prize" z) (duO_neg hv (hn.symm.trans hd)) (fun e => nomatch e) u _ (same_upd hu) upd_same⟩
      · rw [if_neg h] at hd
        exact ⟨rfl, _, rfl, hd.symm.trans hn⟩
    · rintro σ H' ⟨rfl, o, rfl, hn⟩
      rw [lp, List.drop_length] at hn
      have hr := duO_rest (a := xs.length) (b := ys.length) hv (fun e => h3 (by rw [e]; rfl)) hn.symm
      refine ⟨_, rfl, _, _, rfl, .inr (SqT.of ha), _, rfl, _, _, rfl, .inr (SqT.of hb), rfl, _, rfl, ?_⟩
      rw [lx, ly]
      refine ifNE (fun h => ?_) (fun h => ?_)
      · rw [if_neg (by omega)] at hr
        exact ⟨(by show 6 ≤ sizeLine; decide), fun z hz => out .mis hr (fun e => nomatch e) z _ (same_upd hz) upd_same⟩
      · rw [if_pos (by omega)] at hr
        exact k1 hr
end
end L

set_option Elab.async false
set_option linter.all false
set_option maxRecDepth 100000
set_option maxHeartbeats 4000000
set_option pp.maxSteps 160
set_option pp.deepTerms false
namespace L
open PySem PySem.Spec PyProof.Rows L2 Fl
local macro_rules | `(tactic| walk_at "side") => `(tactic| first | (exact .inl ⟨by omega, by omega⟩) | (exact .inr ⟨by omega, by omega⟩) | (exact .inr ⟨by decide, by decide⟩) | (show (_ : Int) ≠ _; omega) | (exact ⟨by omega, by decide⟩) | (exact ⟨by decide, by decide, by decide⟩))
local macro_rules | `(tactic| walk_at "go") => `(tactic| repeat (first | refine ⟨_, rfl, ?_⟩ | refine ⟨_, _, rfl, rfl, ?_⟩ | refine .inl ⟨_, rfl, ?_⟩ | refine ⟨rfl, ?_⟩ | refine ⟨(by walk_at "side"), ?_⟩))
local macro_rules | `(tactic| walk_at "see") => `(tactic| (set_option pp.maxSteps 110 in set_option pp.deepTerms false in trace_state))
local macro_rules | `(tactic| walk_at "if") => `(tactic| first | refine ifE ?_ ?_ | refine ifNE ?_ ?_ | refine ifD ?_ ?_ | refine ifN ?_ ?_ | refine ifB ?_ ?_)
section
variable {P : Program} {w : World} {K : PySem.W.Frag} {mg : Str → Option Value} {base : Heap}

theorem pe_or {X : Cx} {e : Expr} {t u : TE} (h : PE X e t) (k : PE X e u) : PE X e (fun σ H Q => t σ H Q ∨ u σ H Q) := ⟨fun pins s σ H Q I q => by
  rcases q with q | q
  · exact h.run pins s σ H Q I q
  · exact k.run pins s σ H Q I q⟩
theorem slA_of {a : Addr} {xs : List V} {lo hi : Option Int} {H : Hp} {Q : VK} (h : H a = some (.tup xs)) (k : ∀ (b : Addr) (H' : Hp), Same H H' → H' b = some (.tup (cutV xs lo hi)) → Q (.ref b) H') : rSlA K (.ref a) lo hi H Q := by
  refine ⟨a, xs, rfl, SqT.of h, fun hw => k a H (Same.refl _) ?_, fun _ p hp => k p _ (same_upd hp) upd_same⟩
  unfold cutV
  rw [hw.1, hw.2, Nat.sub_zero, List.drop_zero, List.take_length]
  exact h
theorem cut_one {ys : List Int} (h : 1 ≤ ys.length) : cutV (ys.map V.int) (some 1) none = (ys.drop 1).map V.int := by
  unfold cutV
  rw [List.length_map, show (some (1 : Int)) = some ((1 : Nat) : Int) from rfl, HT.sIx_nat, HT.sIx_none, Nat.min_eq_left h, List.map_drop, List.take_of_length_le (by rw [List.length_drop, List.length_map]; exact Nat.le_refl _)]
theorem lst_ins {H : Hp} {L : Addr} {ps : List Int} {z : Int} {i : Nat} : upd H L (.lst ((ps.map V.int).take i ++ [V.int z] ++ (ps.map V.int).drop i)) L = some (.lst ((ps.take i ++ [z] ++ ps.drop i).map V.int)) := by
  rw [upd_same, List.map_append, List.map_append, List.map_take, List.map_drop]
  rfl
theorem ins_len {ps : List Int} {z : Int} {i : Nat} : (ps.take i ++ [z] ++ ps.drop i).length = ps.length + 1 := by
  rw [List.length_append, List.length_append, List.length_take, List.length_drop]
  show min i ps.length + 1 + (ps.length - i) = _
  omega
def duD : Du → PyData
  | .num n z => .tuple [.int 0, .str n, .int z, .bool true, .bool true, .bool false]
  | _ => .tuple [.int 1, .str "", .int 0, .bool true, .bool true, .bool false]
theorem du_dp {K : PySem.W.Frag} {H : Hp} {z : Addr} {d : Du} (h : H z = some (.tup (duL d))) : Dp K H (.ref z) (duD d) := by
  cases d with
  | num n v => exact .tup (SqT.of h) (.cons (.int _) (.cons (.str _) (.cons (.int _) (.cons (.bl _) (.cons (.bl _) (.cons (.bl _) .nil))))))
  | ok => exact .tup (SqT.of h) (.cons (.int _) (.cons (.str _) (.cons (.int _) (.cons (.bl _) (.cons (.bl _) (.cons (.bl _) .nil))))))
  | mis => exact .tup (SqT.of h) (.cons (.int _) (.cons (.str _) (.cons (.int _) (.cons (.bl _) (.cons (.bl _) (.cons (.bl _) .nil))))))
theorem num_ok {n : Str} {z : Int} (h : PyData.strOk n = true) : SeqAt.shaped (duD (.num n z)) = true := by
  unfold duD
  simp [SeqAt.shaped, PyData.canLay0, PyData.canLayAll0, PyData.depth, PyData.depthAll, h]
theorem non_ok : SeqAt.shaped (.tuple [.int 1, .str "", .int 0, .bool true, .bool true, .bool false]) = true := by
  simp [SeqAt.shaped, PyData.canLay0, PyData.canLayAll0, PyData.depth, PyData.depthAll, show PyData.strOk ("" : Str) = true by decide +kernel]
theorem du_ok {a b : Nat} {ps : List Int} {v : Int} : SeqAt.shaped (duD (duO a b ps v)) = true := by
  unfold duO
  split
  · split
    · exact num_ok (by decide +kernel)
    · split
      · exact num_ok (by decide +kernel)
      · split
        · exact non_ok
        · exact non_ok
  · exact num_ok (by decide +kernel)
theorem du_inv {a b : Nat} {ps : List Int} {v : Int} (h : duO a b ps v = .ok) : Tri v ∧ ps ≠ [] ∧ neg1 ps = none ∧ a = b := by
  by_cases hv : Tri v
  · cases ps with
    | nil =>
      rw [duO_nil hv] at h
      cases h
    | cons p r =>
      cases hn : neg1 (p :: r) with
      | some z =>
        rw [duO_neg hv hn] at h
        cases h
      | none =>
        rw [duO_rest hv (by simp) hn] at h
        by_cases e : a = b
        · exact ⟨hv, by simp, rfl, e⟩
        · rw [if_neg e] at h
          cases h
  · rw [duO_ties hv] at h
    cases h
def spLaw (K : PySem.W.Frag) : Sp := fun vs H Q _ => ∃ (a : Addr) (ns : List Int), vs = [.ref a] ∧ SqL K H a (ns.map V.int) ∧ ns.length ≤ 63 ∧ ∀ H', Q (.bl true) H'
theorem ok_law {BN MM fA : Addr} {fd : FuncData} (B : Blt mg) (F : Fun K "law" "law" s_law fA fd) (C_pool : CalPool P w K mg base) (C_draw : CalDraw P w K mg base) (C_pair_of_layouts : CalPL P w K mg base) (C_prizes : CalPr P w K mg base) (C_ties : CalLTies P w K mg base)
    (C_refused : CalRef P w K mg base) (CRP : CalRP P w K mg base BN MM) (C_due : CalDue P w K mg base) (C_pay : CalPay P w K mg base) (C_whole : CalWhole P w K mg base) : FnOk P w K mg base CX0 6 fA fd ["_law_script"] (spLaw K) := by
  refine F.ok sc_law (fun vs H Q E h => ?_) (fun cdv A outer st H vs Q E hr h => ?_)
  · obtain ⟨a, ns, rfl, _⟩ := h
    rfl
  · obtain ⟨a0, ns, rfl, hS, hl, q⟩ := h
    refine ⟨_, (pss_cons (ps_set (i := 1) sc_law.nd rfl (Or.inl rfl) (pe_cal C_pool (hr.mono (by decide)) (pa_cons (pv 0) pa_nil)))
      (pss_cons (ps_set (i := 2) sc_law.nd rfl (Or.inl rfl) (pe_cal C_pair_of_layouts (hr.mono (by decide)) (pa_cons (pv 1) pa_nil)))
      (pss_cons (ps_set (i := 3) sc_law.nd rfl (Or.inl rfl) (pe_ix ix_tup (pv 2) (pe_int) (fun _ _ => rfl)))
      (pss_cons (ps_set (i := 4) sc_law.nd rfl (Or.inl rfl) (pe_ix ix_tup (pv 2) (pe_int) (fun _ _ => rfl)))
      (pss_cons (ps_set (i := 5) sc_law.nd rfl (Or.inl rfl) (pe_cal C_prizes (hr.mono (by decide)) (pa_cons (pv 1) pa_nil)))
      (pss_cons (ps_set (i := 6) sc_law.nd rfl (Or.inl rfl) (pe_cal C_ties (hr.mono (by decide)) (pa_cons (pv 1) pa_nil)))
      (pss_cons (ps_set (i := 7) sc_law.nd rfl (Or.inl rfl) (pe_cal C_draw (hr.mono (by decide)) (pa_cons (pv 1) (pa_cons (pe_int) pa_nil))))
      (Evl.pss_cut (ps_if (pt_cmpR op_in_seq (pv 7) (pe_tup (pa_cons pe_int (pa_cons pe_int (pa_cons pe_int (pa_nil))))) (by rfl)) (pss_cons (ps_expr (pe_bm PySem.F.plainAttrs_list PySem.F.slot_list_insert PySem.F.type_list_insert mt_insert (pv 5) (pa_cons (pe_cal C_draw (hr.mono (by decide)) (pa_cons (pv 1) (pa_cons (pe_op op_add (pe_callB call_len_seq (by rfl) B.len PySem.boot_len (pa_cons (pv 5) pa_nil)) pe_int) pa_nil))) (pa_cons (pe_op op_sub (pe_un un_neg pe_int) (pe_cal C_draw (hr.mono (by decide)) (pa_cons (pv 1) (pa_cons pe_int pa_nil)))) pa_nil))))
      (pss_one (ps_expr (pe_bm PySem.F.plainAttrs_list PySem.F.slot_list_insert PySem.F.type_list_insert mt_insert (pv 5) (pa_cons (pe_cal C_draw (hr.mono (by decide)) (pa_cons (pv 1) (pa_cons (pe_op op_add (pe_callB call_len_seq (by rfl) B.len PySem.boot_len (pa_cons (pv 5) pa_nil)) pe_int) pa_nil))) (pa_cons (pe_op op_sub pe_int (pe_cal C_draw (hr.mono (by decide)) (pa_cons (pv 1) (pa_cons pe_int pa_nil)))) pa_nil)))))) pss_nil)
      (Evl.pss_cut (ps_if (pt_cmpR op_in_seq (pv 7) (pe_tup (pa_cons pe_int (pa_cons pe_int (pa_cons pe_int (pa_nil))))) (by rfl)) (pss_one (ps_if (PW.pt (pw_and (pt_cmpR op_gt (pe_callB call_len_seq (by rfl) B.len PySem.boot_len (pa_cons (pv 4) pa_nil)) (pe_int) (nomark _)) (pw_and1 (pt_cmpR op_eq (pe_cal C_draw (hr.mono (by decide)) (pa_cons (pv 1) (pa_cons (pe_int) pa_nil))) (pe_int) (nomark _))))) (pss_one (ps_set (i := 4) sc_law.nd rfl (Or.inl rfl) (pe_slice sl_tupA (pv 4) (po_some (pe_int)) po_none))) (pss_one (ps_set (i := 4) sc_law.nd rfl (Or.inl rfl) (pe_op op_catT (pv 4) (pe_tup (pa_cons (pe_cal C_draw (hr.mono (by decide)) (pa_cons (pv 1) (pa_cons (pe_int) pa_nil))) pa_nil))))))) pss_nil)
      (Evl.pss_cut (ps_if (pt_cmpR op_in_seq (pv 7) (pe_tup (pa_cons pe_int (pa_cons pe_int (pa_cons pe_int (pa_nil))))) (by rfl)) (pss_one (ps_set (i := 5) sc_law.nd rfl (Or.inl rfl) (pe_lst pa_nil))) pss_nil)
      (Evl.pss_cut (ps_if (pt_cmpR op_in_seq (pv 7) (pe_tup (pa_cons pe_int (pa_cons pe_int (pa_cons pe_int (pa_nil))))) (by rfl)) (pss_one (ps_set (i := 6) sc_law.nd rfl (Or.inl rfl) (pe_op op_mul (pe_op op_add (pe_int) (pe_cal C_draw (hr.mono (by decide)) (pa_cons (pv 1) (pa_cons (pe_int) pa_nil)))) (pe_op op_sub (pe_int) (pe_op op_mul (pe_int) (pe_cal C_draw (hr.mono (by decide)) (pa_cons (pv 1) (pa_cons (pe_int) pa_nil)))))))) pss_nil)
      (pss_cons (ps_set (i := 8) sc_law.nd rfl (Or.inl rfl) (pe_callTy call_list_of (by rfl) B.list (by decide +kernel) (pa_cons (pv 5) pa_nil)))
      (pss_cons (ps_set (i := 9) sc_law.nd rfl (Or.inl rfl) (pe_cal C_due (hr.mono (by decide)) (pa_cons (pv 3) (pa_cons (pv 4) (pa_cons (pv 5) (pa_cons (pv 6) pa_nil))))))
      (pss_cons (ps_if (pt_cmpR op_notN (pv 9) (pe_non) (nomark _)) (pss_one (ps_ret ((pe_and (pe_cmpR (op_eqD hr.units) (pe_cal C_refused (hr.mono (by decide)) (pa_cons (pv 3) (pa_cons (pv 4) (pa_cons (pv 8) (pa_cons (pv 6) pa_nil))))) (pv 9) (nomark _)) (pe_one (pe_cmpR (op_eqD hr.units) (pv 8) (pv 5) (nomark _))))))) pss_nil)
      (pss_cons (ps_set (i := 10) sc_law.nd rfl (Or.inl rfl) (pe_cal C_pay (hr.mono (by decide)) (pa_cons (pv 3) (pa_cons (pv 4) (pa_cons (pv 5) (pa_cons (pv 6) pa_nil))))))
      (Evl.pss_cut (ps_if (pt_cmpR op_eq (pv 6) (pe_int) (nomark _)) (pss_one (ps_set (i := 11) sc_law.nd rfl (Or.inl rfl) (pe_calK03 CRP (hr.mono (by decide)) (pa_cons (pv 3) (pa_cons (pv 4) (pa_cons (pv 8) pa_nil)))))) (pss_one (ps_set (i := 11) sc_law.nd rfl (Or.inl rfl) (pe_calK13 CRP (hr.mono (by decide)) (pa_cons (pv 3) (pa_cons (pv 4) (pa_cons (pv 8) pa_nil))) (pk_cons (pv 6) pk_nil)))))
      (pss_cons (ps_set (i := 12) sc_law.nd rfl (Or.inl rfl) (pe_calK13 CRP (hr.mono (by decide)) (pa_cons (pv 4) (pa_cons (pv 3) (pa_cons (pv 8) pa_nil))) (pk_cons (pe_un un_neg (pv 6)) pk_nil)))
      (pss_cons (ps_if (PW.pt (pw_or (pt_not (pt_val (pe_cal C_whole (hr.mono (by decide)) (pa_cons (pv 11) pa_nil)))) (pw_or (pt_not (pt_val (pe_cal C_whole (hr.mono (by decide)) (pa_cons (pv 12) pa_nil)))) (pw_or1 (pt_cmpR (op_neD hr.units) (pv 8) (pv 5) (nomark _)))))) (pss_one (ps_ret (pe_bl))) pss_nil)
      (pss_one (ps_ret ((pe_and (pe_cmpR op_eq (pv 11) (pv 10) (nomark _)) (pe_one (pe_cmpR op_eq (pv 12) (pe_un un_neg (pv 10)) (nomark _))))))))))))))))))))))))), ?_⟩
    refine ⟨_, rfl, a0, ns, rfl, hS, hl, fun p H1 s1 np nq hP1 => ?_⟩
    refine ⟨_, rfl, p, rfl, hP1, fun t a b xs ys H2 hP2 k2 pa pb ht ha hb lxy l1 l2 => ?_⟩
    refine ⟨_, rfl, _, _, _, _, rfl, rfl, SqT.of ht, rfl, _, rfl, _, _, _, _, rfl, rfl, SqT.of ht, rfl, ?_⟩
    refine ⟨_, rfl, p, rfl, hP2, fun L ps H3 hP3 k3 pL hL0 qL hL p1 p5 => ?_⟩
    have ha := k3 _ _ ha pa
    have hb := k3 _ _ hb pb
    have aL : a ≠ L := ne_of ha hL (by intro q; cases q)
    have bL : b ≠ L := ne_of hb hL (by intro q; cases q)
    refine ⟨_, rfl, p, rfl, hP3, fun v H4 v0 v1 hP4 k4 => ?_⟩
    refine ⟨_, rfl, p, 24, rfl, hP4, by decide, by decide, fun k H5 b0 b1 hP5 k5 => ?_⟩
    have ha := k5 _ _ (k4 _ _ ha pa) pa
    have hb := k5 _ _ (k4 _ _ hb pb) pb
    have hL := k5 _ _ (k4 _ _ hL pL) pL
    clear hP1 hP2 hP3 hP4 k2 k3 k4 k5
    refine ⟨fun σ' H' => ∃ ps : List Int, σ' = [some (.ref a0), some (.ref (p : Addr)), some (.ref t), some (.ref a), some (.ref b), some (.ref L), some (.int v), some (.int k), none, none, none, none, none] ∧ ps.length ≤ 7 ∧ Pool H' p ∧ H' a = some (.tup (xs.map V.int)) ∧ H' b = some (.tup (ys.map V.int)) ∧ H' L = some (.lst (ps.map V.int)), ?_, ?_⟩
    · refine ⟨_, rfl, (by show 3 ≤ sizeLine; decide), fun u hu => ⟨u, _, rfl, .inr (SqT.of upd_same), rfl, rfl, _, rfl, ifB (fun _ => ?_) (fun _ => ?_)⟩⟩
      · have su := same_upd (o := .tup [.int 4, .int 8, .int 9]) hu
        have ha := su _ _ ha
        have hb := su _ _ hb
        have hL := su _ _ hL
        have hPu := hP5.upd (o := .tup [.int 4, .int 8, .int 9]) hu
        generalize upd H5 u (.tup [.int 4, .int 8, .int 9]) = H6 at *
        refine ⟨_, rfl, .inl ⟨rfl, _, SqL.of hL⟩, _, rfl, _, rfl, _, _, rfl, .inl (SqL.of hL), _, _, rfl, rfl, p, _, rfl, hPu, by rw [List.length_map]; omega, by rw [List.length_map]; omega, fun i7 G7 i07 i17 hG7 kG7 => ⟨_, rfl, _, rfl, p, 9, rfl, hG7, by decide, by decide, fun z7 H7 z07 z17 hP7 kH7 => ⟨_, _, rfl, rfl, L, _, _, _, rfl, rfl, kH7 _ _ (kG7 _ _ hL pL) pL, small1000 (by rw [List.length_map]; omega), i07, ?_, ?_⟩⟩⟩
        · rw [List.length_map] at i17
          omega
        have ha := kH7 _ _ (kG7 _ _ ha pa) pa
        have hb := kH7 _ _ (kG7 _ _ hb pb) pb
        have hL7 := lst_ins (H := H7) (L := L) (ps := ps) (z := -1 - z7) (i := i7.toNat)
        have hP8 := hP7.store (o := .lst ((ps.map V.int).take i7.toNat ++ [V.int (-1 - z7)] ++ (ps.map V.int).drop i7.toNat)) pL qL
        have ha : upd H7 L (.lst ((ps.map V.int).take i7.toNat ++ [V.int (-1 - z7)] ++ (ps.map V.int).drop i7.toNat)) a = some (.tup (xs.map V.int)) := by rw [upd_ne aL]; exact ha
        have hb : upd H7 L (.lst ((ps.map V.int).take i7.toNat ++ [V.int (-1 - z7)] ++ (ps.map V.int).drop i7.toNat)) b = some (.tup (ys.map V.int)) := by rw [upd_ne bL]; exact hb
        have l7 := ins_len (ps := ps) (z := -1 - z7) (i := i7.toNat)
        generalize ps.take i7.toNat ++ [-1 - z7] ++ ps.drop i7.toNat = ps7 at *
        generalize upd H7 L (.lst ((ps.map V.int).take i7.toNat ++ [V.int (-1 - z7)] ++ (ps.map V.int).drop i7.toNat)) = H8 at *
        refine ⟨_, rfl, .inl ⟨rfl, _, SqL.of hL7⟩, _, rfl, _, rfl, _, _, rfl, .inl (SqL.of hL7), _, _, rfl, rfl, p, _, rfl, hP8, by rw [List.length_map]; omega, by rw [List.length_map]; omega, fun i9 G9 i09 i19 hG9 kG9 => ⟨_, rfl, p, 9, rfl, hG9, by decide, by decide, fun z9 H9 z09 z19 hP9 kH9 => ⟨_, _, rfl, rfl, L, _, _, _, rfl, rfl, kH9 _ _ (kG9 _ _ hL7 pL) pL, small1000 (by rw [List.length_map]; omega), i09, ?_, ?_⟩⟩⟩
        · rw [List.length_map] at i19
          omega
        exact ⟨_, rfl, by rw [ins_len]; omega, hP9.store pL qL, by rw [upd_ne aL]; exact kH9 _ _ (kG9 _ _ ha pa) pa, by rw [upd_ne bL]; exact kH9 _ _ (kG9 _ _ hb pb) pb, lst_ins⟩
      · exact ⟨ps, rfl, by omega, hP5.upd hu, same_upd hu _ _ ha, same_upd hu _ _ hb, same_upd hu _ _ hL⟩
    clear hP5
    rintro σ' H6 ⟨ps, rfl, p7, hP6, ha, hb, hL⟩
    have hne : ys.map V.int ≠ [] := fun e => by
      have := congrArg List.length e
      rw [List.length_map] at this
      have : ys.length = 0 := this
      omega
    refine ⟨fun σ' H' => ∃ (c : Addr) (zs : List Int), σ' = [some (.ref a0), some (.ref (p : Addr)), some (.ref t), some (.ref a), some (.ref c), some (.ref L), some (.int v), some (.int k), none, none, none, none, none] ∧ c ≠ p ∧ zs.length ≤ 50 ∧ Pool H' p ∧ H' a = some (.tup (xs.map V.int)) ∧ H' c = some (.tup (zs.map V.int)) ∧ H' L = some (.lst (ps.map V.int)), ?_, ?_⟩
    · refine ⟨_, rfl, (by show 3 ≤ sizeLine; decide), fun u hu => ⟨u, _, rfl, .inr (SqT.of upd_same), rfl, rfl, _, rfl, ifB (fun _ => ?_) (fun _ => ?_)⟩⟩
      · have su := same_upd (o := .tup [.int 5, .int 8, .int 10]) hu
        have ha := su _ _ ha
        have hb := su _ _ hb
        have hL := su _ _ hL
        have hPu := hP6.upd (o := .tup [.int 5, .int 8, .int 10]) hu
        generalize upd H6 u (.tup [.int 5, .int 8, .int 10]) = H7 at *
        refine ⟨_, rfl, _, _, rfl, .inr (SqT.of hb), _, _, rfl, rfl, _, rfl, ifD (fun h => ?_) (fun h => ?_)⟩
        · refine ⟨_, rfl, p, 2, rfl, hPu, by decide, by decide, fun r H8 r0 r1 hP8 k8 => ⟨rfl, _, rfl, ifE (fun _ => ?_) (fun _ => ?_)⟩⟩
          · refine ⟨_, rfl, _, rfl, ?_⟩
            dsimp only [tNoPart]
            refine slA_of (k8 _ _ hb pb) fun c H9 s9 hc => ?_
            rw [cut_one (by omega)] at hc
            refine ⟨c, ys.drop 1, rfl, fun e => ?_, by rw [List.length_drop]; omega, hP8.same s9, s9 _ _ (k8 _ _ ha pa), hc, s9 _ _ (k8 _ _ hL pL)⟩
            have hq := hP8.same s9
            obtain ⟨_, _, _, _, _, hh, _⟩ := hq
            rw [e, hh] at hc
            cases hc
          · have ha := k8 _ _ ha pa
            have hb := k8 _ _ hb pb
            have hL := k8 _ _ hL pL
            refine ⟨_, rfl, _, rfl, p, 5, rfl, hP8, by decide, by decide, fun z G z0 z1 hG kG => ⟨(by show 1 ≤ sizeLine; decide), fun w hw => ?_⟩⟩
            have sw := same_upd (o := .tup [.int z]) hw
            refine ⟨b, w, _, _, rfl, rfl, SqT.of (sw _ _ (kG _ _ hb pb)), SqT.of upd_same, hne, (by have h0 := small1000 (show ys.length ≤ 1000 by omega); show (ys.map V.int).length + 1 ≤ sizeLine; rw [List.length_map]; omega), fun h => (List.cons_ne_nil _ _ h).elim, fun _ c hc => ?_⟩
            have sc := same_upd (o := .tup (ys.map V.int ++ [.int z])) hc
            refine ⟨c, ys ++ [z], rfl, ((hG.same sw).apart hc).1, by rw [List.length_append]; show ys.length + 1 ≤ 50; omega, (hG.same sw).same sc, sc _ _ (sw _ _ (kG _ _ ha pa)), ?_, sc _ _ (sw _ _ (kG _ _ hL pL))⟩
            rw [upd_same, List.map_append]
            rfl
        · skip
          refine ⟨_, rfl, _, rfl, p, 5, rfl, hPu, by decide, by decide, fun z G z0 z1 hG kG => ⟨(by show 1 ≤ sizeLine; decide), fun w hw => ?_⟩⟩
          have sw := same_upd (o := .tup [.int z]) hw
          refine ⟨b, w, _, _, rfl, rfl, SqT.of (sw _ _ (kG _ _ hb pb)), SqT.of upd_same, hne, (by have h0 := small1000 (show ys.length ≤ 1000 by omega); show (ys.map V.int).length + 1 ≤ sizeLine; rw [List.length_map]; omega), fun h => (List.cons_ne_nil _ _ h).elim, fun _ c hc => ?_⟩
          have sc := same_upd (o := .tup (ys.map V.int ++ [.int z])) hc
          refine ⟨c, ys ++ [z], rfl, ((hG.same sw).apart hc).1, by rw [List.length_append]; show ys.length + 1 ≤ 50; omega, (hG.same sw).same sc, sc _ _ (sw _ _ (kG _ _ ha pa)), ?_, sc _ _ (sw _ _ (kG _ _ hL pL))⟩
          rw [upd_same, List.map_append]
          rfl
      · exact ⟨b, ys, rfl, pb, by omega, hP6.upd hu, same_upd hu _ _ ha, same_upd hu _ _ hb, same_upd hu _ _ hL⟩
    clear hP6
    rintro σ' H7 ⟨c, zs, rfl, pc, lz, hP7, ha, hc, hL⟩
    refine ⟨fun σ' H' => ∃ (M : Addr) (ps : List Int), σ' = [some (.ref a0), some (.ref (p : Addr)), some (.ref t), some (.ref a), some (.ref c), some (.ref M), some (.int v), some (.int k), none, none, none, none, none] ∧ M ≠ p ∧ ps.length ≤ 9 ∧ Pool H' p ∧ H' a = some (.tup (xs.map V.int)) ∧ H' c = some (.tup (zs.map V.int)) ∧ H' M = some (.lst (ps.map V.int)), ?_, ?_⟩
    · refine ⟨_, rfl, (by show 3 ≤ sizeLine; decide), fun u hu => ⟨u, _, rfl, .inr (SqT.of upd_same), rfl, rfl, _, rfl, ifB (fun _ => ?_) (fun _ => ?_)⟩⟩
      · have su := same_upd (o := .tup [.int 3, .int 7, .int 10]) hu
        refine ⟨(by show 0 ≤ sizeLine; decide), fun N hN => ?_⟩
        have sn := same_upd (o := .lst []) hN
        have hPu := hP7.upd (o := .tup [.int 3, .int 7, .int 10]) hu
        exact ⟨N, [], rfl, (hPu.apart hN).1, by show 0 ≤ 9; decide, hPu.upd hN, sn _ _ (su _ _ ha), sn _ _ (su _ _ hc), upd_same⟩
      · exact ⟨L, ps, rfl, pL, by omega, hP7.upd hu, same_upd hu _ _ ha, same_upd hu _ _ hc, same_upd hu _ _ hL⟩
    clear hP7 hL
    rintro σ' H8 ⟨M, ps, rfl, pM, lp, hP8, ha, hc, hM⟩
    refine ⟨fun σ' H' => ∃ v : Int, σ' = [some (.ref a0), some (.ref (p : Addr)), some (.ref t), some (.ref a), some (.ref c), some (.ref M), some (.int v), some (.int k), none, none, none, none, none] ∧ H' a = some (.tup (xs.map V.int)) ∧ H' c = some (.tup (zs.map V.int)) ∧ H' M = some (.lst (ps.map V.int)), ?_, ?_⟩
    · refine ⟨_, rfl, (by show 3 ≤ sizeLine; decide), fun u hu => ⟨u, _, rfl, .inr (SqT.of upd_same), rfl, rfl, _, rfl, ifB (fun _ => ?_) (fun _ => ?_)⟩⟩
      · have su := same_upd (o := .tup [.int 6, .int 7, .int 9]) hu
        refine ⟨_, rfl, p, 9, rfl, hP8.upd hu, by decide, by decide, fun r H9 r0 r1 hP9 k9 => ⟨_, _, rfl, rfl, ?_⟩⟩
        refine ⟨_, rfl, p, 2, rfl, hP9, by decide, by decide, fun z G z0 z1 hG kG => ⟨_, _, rfl, rfl, .inl ⟨by omega, by omega⟩, _, _, rfl, rfl, _, _, rfl, rfl, .inl ⟨by omega, by omega⟩, ?_⟩⟩
        exact ⟨_, rfl, kG _ _ (k9 _ _ (su _ _ ha) pa) pa, kG _ _ (k9 _ _ (su _ _ hc) pc) pc, kG _ _ (k9 _ _ (su _ _ hM) pM) pM⟩
      · exact ⟨_, rfl, same_upd hu _ _ ha, same_upd hu _ _ hc, same_upd hu _ _ hM⟩
    clear hP8 ha hc hM v0 v1
    rintro σ' H9 ⟨v, rfl, ha, hc, hM⟩
    refine ⟨_, rfl, M, _, rfl, .inl (SqL.of hM), fun N hN => ?_⟩
    have sn := same_upd (o := .lst (ps.map V.int)) hN
    have ha := sn _ _ ha
    have hc := sn _ _ hc
    have hM := sn _ _ hM
    have hN2 : upd H9 N (.lst (ps.map V.int)) N = some (.lst (ps.map V.int)) := upd_same
    generalize upd H9 N (.lst (ps.map V.int)) = G at *
    refine ⟨_, rfl, _, rfl, _, rfl, _, rfl, a, c, M, xs, zs, ps, v, rfl, ha, hc, hM, fun ho => ?_, fun ho z G2 s2 hz => ?_⟩
    · refine ⟨_, rfl, rfl, _, rfl, iteF ?_⟩
      obtain ⟨hv, hps, hn, hlen⟩ := du_inv ho
      have p1 : 1 ≤ ps.length := by
        cases ps with
        | nil => exact absurd rfl hps
        | cons _ _ => exact Nat.le_add_left 1 _
      refine ⟨_, rfl, _, rfl, _, rfl, _, rfl, a, c, M, xs, zs, ps, v, rfl, ha, hc, hM, hlen, by omega, p1, hv, fun G3 s3 => ?_⟩
      have ha := s3 _ _ ha
      have hc := s3 _ _ hc
      have hM := s3 _ _ hM
      have hN2 := s3 _ _ hN2
      refine ⟨fun σ' H' => σ' = [some (.ref a0), some (.ref (p : Addr)), some (.ref t), some (.ref a), some (.ref c), some (.ref M), some (.int v), some (.int k), some (.ref N), some .non, some (.int (payv xs zs v ps)), some (.int (payv xs zs v ps)), none] ∧ H' a = some (.tup (xs.map V.int)) ∧ H' c = some (.tup (zs.map V.int)) ∧ H' M = some (.lst (ps.map V.int)) ∧ H' N = some (.lst (ps.map V.int)), ?_, ?_⟩
      · refine ⟨_, rfl, rfl, _, rfl, ifE (fun h5 => ?_) (fun h5 => ?_)⟩
        · subst h5
          exact ⟨_, rfl, _, rfl, _, rfl, a, c, N, xs, zs, ps, 0, rfl, ha, hc, hN2, by omega, fun n z hq => (by rw [ho] at hq; cases hq), fun hq => (by rw [ho] at hq; cases hq), fun _ G4 s4 => ⟨rfl, s4 _ _ ha, s4 _ _ hc, s4 _ _ hM, s4 _ _ hN2⟩⟩
        · exact ⟨_, rfl, _, rfl, _, rfl, _, rfl, rfl, rfl, a, c, N, xs, zs, ps, v, rfl, ha, hc, hN2, by omega, fun n z hq => (by rw [ho] at hq; cases hq), fun hq => (by rw [ho] at hq; cases hq), fun _ G4 s4 => ⟨rfl, s4 _ _ ha, s4 _ _ hc, s4 _ _ hM, s4 _ _ hN2⟩⟩
      clear ha hc hM hN2
      rintro σ' G4 ⟨rfl, ha, hc, hM, hN2⟩
      have hv2 : Tri (-v) := by rcases hv with rfl | rfl | rfl <;> decide
      have ho2 : duO zs.length xs.length ps (-v) = .ok := by rw [duO_rest hv2 hps hn, if_pos hlen.symm]
      refine ⟨_, rfl, _, rfl, _, rfl, _, rfl, _, rfl, rfl, rfl, c, a, N, zs, xs, ps, -v, rfl, hc, ha, hN2, by omega, fun n z hq => (by rw [ho2] at hq; cases hq), fun hq => (by rw [ho2] at hq; cases hq), fun _ G5 s5 => ?_⟩
      rw [pay_turned]
      refine ⟨_, rfl, _, rfl, _, rfl, iteF ?_⟩
      refine ⟨_, rfl, _, rfl, _, rfl, iteF ?_⟩
      refine ⟨_, rfl, _, rfl, _, _, ints_dp (s5 _ _ hN2), ints_dp (s5 _ _ hM), ints_ok ps, ints_ok ps, ?_⟩
      rw [SeqAt.eqv_refl _ (SeqAt.canLay_of_shaped (ints_ok ps))]
      refine ⟨_, rfl, iteF ?_⟩
      refine ⟨_, rfl, _, rfl, rfl, _, rfl, ifE (fun _ => ?_) (fun h => absurd rfl h)⟩
      refine ⟨_, rfl, _, rfl, _, rfl, rfl, ?_⟩
      rw [decide_eq_true rfl]
      exact q _
    · refine ⟨_, rfl, rfl, _, rfl, iteT ?_⟩
      have ha := s2 _ _ ha
      have hc := s2 _ _ hc
      have hM := s2 _ _ hM
      have hN2 := s2 _ _ hN2
      refine ⟨_, rfl, _, rfl, _, rfl, _, rfl, a, c, N, xs, zs, ps, v, rfl, ha, hc, hN2, by omega, ho, fun y G3 s3 hy => ?_⟩
      refine ⟨_, rfl, _, _, du_dp hy, du_dp (s3 _ _ hz), du_ok, du_ok, ?_⟩
      rw [SeqAt.eqv_refl _ (SeqAt.canLay_of_shaped du_ok)]
      refine ⟨_, rfl, iteT ?_⟩
      refine ⟨_, rfl, _, rfl, _, _, ints_dp (s3 _ _ hN2), ints_dp (s3 _ _ hM), ints_ok ps, ints_ok ps, ?_⟩
      rw [SeqAt.eqv_refl _ (SeqAt.canLay_of_shaped (ints_ok ps))]
      exact q _
end
end L

set_option Elab.async false
set_option linter.all false
set_option maxRecDepth 100000
set_option maxHeartbeats 4000000
set_option pp.maxSteps 160
set_option pp.deepTerms false
namespace L
open PySem PySem.Spec PyProof.Rows L2 Fl
local macro_rules | `(tactic| walk_at "side") => `(tactic| first | (exact .inl ⟨by omega, by omega⟩) | (exact .inr ⟨by omega, by omega⟩) | (exact .inr ⟨by decide, by decide⟩) | (show (_ : Int) ≠ _; omega) | (exact ⟨by omega, by decide⟩) | (exact ⟨by decide, by decide, by decide⟩))
local macro_rules | `(tactic| walk_at "go") => `(tactic| repeat (first | refine ⟨_, rfl, ?_⟩ | refine ⟨_, _, rfl, rfl, ?_⟩ | refine .inl ⟨_, rfl, ?_⟩ | refine ⟨rfl, ?_⟩ | refine ⟨(by walk_at "side"), ?_⟩))
local macro_rules | `(tactic| walk_at "see") => `(tactic| (set_option pp.maxSteps 110 in set_option pp.deepTerms false in trace_state))
local macro_rules | `(tactic| walk_at "if") => `(tactic| first | refine ifE ?_ ?_ | refine ifNE ?_ ?_ | refine ifD ?_ ?_ | refine ifN ?_ ?_ | refine ifB ?_ ?_)
section
variable {P : Program} {w : World} {K : PySem.W.Frag} {mg : Str → Option Value} {base : Heap}
end

theorem kit_type {K : PySem.W.Frag} {t : Addr} {n : String} {b : Bool} (hk : PySem.W.kitMeta n = true) (hs : PySem.W.subIn K (.ref t) (.type n) = some b) : PySem.W.kitOne K (.ref t) (.type n) = some b := by
  unfold PySem.W.kitOne
  rw [if_neg (by intro h; cases beq_iff_eq.mp h)]
  show (if PySem.W.kitMeta n = true then PySem.W.subIn K (.ref t) (.type n) else none) = some b
  rw [if_pos hk]
  exact hs
theorem all_mk {l : PySem.W.OpenLaw} {w : World} {K : PySem.W.Frag} {h : Heap} {mg : Str → Option Value} {fa : Addr} (X : K.In h) (G : h.Ns mainGlobals mg) (hfa : mg "law" = some (.ref fa))
    {LE : Addr} {BN : Addr} {nmE qE : Str} {NE : Addr} {bsE subE : List Value} {snE : List Str} {abE : Bool} {colE : Option Bool} {ddE : Option Addr} {mE0 mE1 mE2 mE3 mE5 : Option Value} {fBadNumber_init : Addr} {ocBadNumber_init kVBadNumber_init dcBadNumber_init pmBadNumber_init cdBadNumber_init ctBadNumber_init : Value} {odBadNumber_init anBadNumber_init : Option Addr} {slBadNumber_init : Array (Option Value)} {MM : Addr} {fpool : Addr} {ocpool kVpool dcpool pmpool cdpool ctpool : Value} {odpool anpool : Option Addr} {slpool : Array (Option Value)} {fmix : Addr} {ocmix kVmix dcmix pmmix cdmix ctmix : Value} {odmix anmix : Option Addr} {slmix : Array (Option Value)} {fdraw : Addr} {ocdraw kVdraw dcdraw pmdraw cddraw ctdraw : Value} {oddraw andraw : Option Addr} {sldraw : Array (Option Value)} {fwide : Addr} {ocwide kVwide dcwide pmwide cdwide ctwide : Value} {odwide anwide : Option Addr} {slwide : Array (Option Value)} {fwhole : Addr} {ocwhole kVwhole dcwhole pmwhole cdwhole ctwhole : Value} {odwhole anwhole : Option Addr} {slwhole : Array (Option Value)} {fties : Addr} {octies kVties dcties pmties cdties ctties : Value} {odties anties : Option Addr} {slties : Array (Option Value)} {foutcome : Addr} {ocoutcome kVoutcome dcoutcome pmoutcome cdoutcome ctoutcome : Value} {odoutcome anoutcome : Option Addr} {sloutcome : Array (Option Value)} {fpair_of_layouts : Addr} {ocpair_of_layouts kVpair_of_layouts dcpair_of_layouts pmpair_of_layouts cdpair_of_layouts ctpair_of_layouts : Value} {odpair_of_layouts anpair_of_layouts : Option Addr} {slpair_of_layouts : Array (Option Value)} {fprizes : Addr} {ocprizes kVprizes dcprizes pmprizes cdprizes ctprizes : Value} {odprizes anprizes : Option Addr} {slprizes : Array (Option Value)} {fearned : Addr} {ocearned kVearned dcearned pmearned cdearned ctearned : Value} {odearned anearned : Option Addr} {slearned : Array (Option Value)} {fpay : Addr} {ocpay kVpay dcpay pmpay cdpay ctpay : Value} {odpay anpay : Option Addr} {slpay : Array (Option Value)} {frefused : Addr} {ocrefused kVrefused dcrefused pmrefused cdrefused ctrefused : Value} {odrefused anrefused : Option Addr} {slrefused : Array (Option Value)} {fdue : Addr} {ocdue kVdue dcdue pmdue cddue ctdue : Value} {oddue andue : Option Addr} {sldue : Array (Option Value)} {fcheck_ties : Addr} {occheck_ties kVcheck_ties dccheck_ties pmcheck_ties cdcheck_ties ctcheck_ties : Value} {odcheck_ties ancheck_ties : Option Addr} {slcheck_ties : Array (Option Value)} {fcheck_prizes : Addr} {occheck_prizes kVcheck_prizes dccheck_prizes pmcheck_prizes cdcheck_prizes ctcheck_prizes : Value} {odcheck_prizes ancheck_prizes : Option Addr} {slcheck_prizes : Array (Option Value)} {fwinner : Addr} {ocwinner kVwinner dcwinner pmwinner cdwinner ctwinner : Value} {odwinner anwinner : Option Addr} {slwinner : Array (Option Value)} {fstretches : Addr} {ocstretches kVstretches dcstretches pmstretches cdstretches ctstretches : Value} {odstretches anstretches : Option Addr} {slstretches : Array (Option Value)} {fpaid : Addr} {ocpaid kVpaid dcpaid pmpaid cdpaid ctpaid : Value} {odpaid anpaid : Option Addr} {slpaid : Array (Option Value)} {frow_pay kdrow_pay : Addr} {tkkrow_pay : Tok} {ocrow_pay dcrow_pay pmrow_pay cdrow_pay ctrow_pay : Value} {odrow_pay anrow_pay : Option Addr} {slrow_pay : Array (Option Value)} {flaw : Addr} {oclaw kVlaw dclaw pmlaw cdlaw ctlaw : Value} {odlaw anlaw : Option Addr} {sllaw : Array (Option Value)}
    (zlen : PySem.W.nsIn K mainGlobals "len" = some none)
    (zint : PySem.W.nsIn K mainGlobals "int" = some none)
    (zabs : PySem.W.nsIn K mainGlobals "abs" = some none)
    (zrange : PySem.W.nsIn K mainGlobals "range" = some none)
    (zisinstance : PySem.W.nsIn K mainGlobals "isinstance" = some none)
    (zmax : PySem.W.nsIn K mainGlobals "max" = some none)
    (zmin : PySem.W.nsIn K mainGlobals "min" = some none)
    (zsum : PySem.W.nsIn K mainGlobals "sum" = some none)
    (zstr : PySem.W.nsIn K mainGlobals "str" = some none)
    (zbool : PySem.W.nsIn K mainGlobals "bool" = some none)
    (zlist : PySem.W.nsIn K mainGlobals "list" = some none)
    (zValueError : PySem.W.nsIn K mainGlobals "ValueError" = some none)
    (ztuple : PySem.W.nsIn K mainGlobals "tuple" = some none)
    (hnO : PySem.W.specialIn K (.builtin "object.__class__") "__get__" = some (some (.builtin "getset_descriptor.__get__")))
    (htO : PySem.W.takesIn K (.builtin "object.__class__") = some true)
    (aLE : PySem.W.nsIn K mainGlobals "LotError" = some (some (.ref LE)))
    (hdLE : PySem.W.hasDictIn K LE = true)
    (teLE : PySem.W.typeIn K (.ref LE) = some (.type "type"))
    (aBN : PySem.W.nsIn K mainGlobals "BadNumber" = some (some (.ref BN)))
    (xBN : K.lookup BN = some (excClassObj nmE qE BN NE bsE [.ref LE, .type "ValueError", .type "Exception", .type "BaseException", .type "object"] true snE subE abE colE ddE mE0 mE1 mE2 mE3 mE5 "ValueError.__new__"))
    (saBN : PySem.W.findIn K (.ref BN) "__setattr__" = some (some (.builtin "object.__setattr__")))
    (keBN : PySem.W.keepIn K (.ref BN) = true)
    (beBN : PySem.W.subIn K (.ref BN) (.type "BaseException") = some true)
    (teBN : PySem.W.typeIn K (.ref BN) = some (.type "type"))
    (seBN : PySem.W.subIn K (.ref BN) (.ref BN) = some true)
    (geBN : PySem.W.findIn K (.ref BN) "__getattribute__" = some (some (.builtin "BaseException.__getattribute__")))
    (ggBN : PySem.W.findIn K (.ref BN) "__getattr__" = some none)
    (hdBN : PySem.W.hasDictIn K BN = true)
    (hcBN : PySem.W.findIn K (.ref BN) "__class__" = some (some (.builtin "object.__class__")))
    (hoBN : PySem.W.mroIn K BN (.type "object") = some true)
    (veBN : PySem.W.subIn K (.ref BN) (.type "ValueError") = some true)
    (fnBN : PySem.W.findIn K (.ref BN) "name" = some none)
    (fvBN : PySem.W.findIn K (.ref BN) "value" = some none)
    (aBadNumber_init : PySem.W.findIn K (.ref BN) "__init__" = some (some (.ref fBadNumber_init)))
    (tBadNumber_init : PySem.W.typeIn K (.ref fBadNumber_init) = some (.type "function"))
    (lBadNumber_init : K.lookup fBadNumber_init = some ⟨ocBadNumber_init, odBadNumber_init, .func (PySem.W.fnOf "__init__" "BadNumber.__init__" (defArgs s_BadNumber_init) (defBody s_BadNumber_init) (defScope s_BadNumber_init) .none kVBadNumber_init dcBadNumber_init pmBadNumber_init anBadNumber_init cdBadNumber_init ctBadNumber_init), slBadNumber_init⟩)
    (cBadNumber_init : PySem.W.codeIn K cdBadNumber_init "BadNumber.__init__" = true)
    (kBadNumber_init : PySem.W.keepIn K (.ref fBadNumber_init) = true)
    (sBNLE : PySem.W.subIn K (.ref BN) (.ref LE) = some true)
    (kmV : PySem.W.kitMeta "ValueError" = true)
    (aMM : PySem.W.nsIn K mainGlobals "Mismatch" = some (some (.ref MM)))
    (xMM : PySem.W.excIn K MM [.type "ValueError", .type "Exception", .type "BaseException", .type "object"] "ValueError.__new__" = true)
    (keMM : PySem.W.keepIn K (.ref MM) = true)
    (beMM : PySem.W.subIn K (.ref MM) (.type "BaseException") = some true)
    (teMM : PySem.W.typeIn K (.ref MM) = some (.type "type"))
    (seMM : PySem.W.subIn K (.ref MM) (.ref MM) = some true)
    (geMM : PySem.W.findIn K (.ref MM) "__getattribute__" = some (some (.builtin "BaseException.__getattribute__")))
    (ggMM : PySem.W.findIn K (.ref MM) "__getattr__" = some none)
    (hdMM : PySem.W.hasDictIn K MM = true)
    (hcMM : PySem.W.findIn K (.ref MM) "__class__" = some (some (.builtin "object.__class__")))
    (hoMM : PySem.W.mroIn K MM (.type "object") = some true)
    (veMM : PySem.W.subIn K (.ref MM) (.type "ValueError") = some true)
    (sMMLE : PySem.W.subIn K (.ref MM) (.ref LE) = some true)
    (sMMBN : PySem.W.subIn K (.ref MM) (.ref BN) = some false)
    (sBNMM : PySem.W.subIn K (.ref BN) (.ref MM) = some false)
    (zzip : PySem.W.nsIn K mainGlobals "zip" = some none)
    (apool : PySem.W.nsIn K mainGlobals "_law_pool" = some (some (.ref fpool)))
    (lpool : K.lookup fpool = some ⟨ocpool, odpool, .func (PySem.W.fnOf "_law_pool" "_law_pool" (defArgs s_pool) (defBody s_pool) (defScope s_pool) .none kVpool dcpool pmpool anpool cdpool ctpool), slpool⟩)
    (cpool : PySem.W.codeIn K cdpool "_law_pool" = true)
    (kpool : PySem.W.keepIn K (.ref fpool) = true)
    (amix : PySem.W.nsIn K mainGlobals "_law_mix" = some (some (.ref fmix)))
    (lmix : K.lookup fmix = some ⟨ocmix, odmix, .func (PySem.W.fnOf "_law_mix" "_law_mix" (defArgs s_mix) (defBody s_mix) (defScope s_mix) .none kVmix dcmix pmmix anmix cdmix ctmix), slmix⟩)
    (cmix : PySem.W.codeIn K cdmix "_law_mix" = true)
    (kmix : PySem.W.keepIn K (.ref fmix) = true)
    (adraw : PySem.W.nsIn K mainGlobals "_law_draw" = some (some (.ref fdraw)))
    (ldraw : K.lookup fdraw = some ⟨ocdraw, oddraw, .func (PySem.W.fnOf "_law_draw" "_law_draw" (defArgs s_draw) (defBody s_draw) (defScope s_draw) .none kVdraw dcdraw pmdraw andraw cddraw ctdraw), sldraw⟩)
    (cdraw : PySem.W.codeIn K cddraw "_law_draw" = true)
    (kdraw : PySem.W.keepIn K (.ref fdraw) = true)
    (awide : PySem.W.nsIn K mainGlobals "_law_wide" = some (some (.ref fwide)))
    (lwide : K.lookup fwide = some ⟨ocwide, odwide, .func (PySem.W.fnOf "_law_wide" "_law_wide" (defArgs s_wide) (defBody s_wide) (defScope s_wide) .none kVwide dcwide pmwide anwide cdwide ctwide), slwide⟩)
    (cwide : PySem.W.codeIn K cdwide "_law_wide" = true)
    (kwide : PySem.W.keepIn K (.ref fwide) = true)
    (awhole : PySem.W.nsIn K mainGlobals "_law_whole" = some (some (.ref fwhole)))
    (lwhole : K.lookup fwhole = some ⟨ocwhole, odwhole, .func (PySem.W.fnOf "_law_whole" "_law_whole" (defArgs s_whole) (defBody s_whole) (defScope s_whole) .none kVwhole dcwhole pmwhole anwhole cdwhole ctwhole), slwhole⟩)
    (cwhole : PySem.W.codeIn K cdwhole "_law_whole" = true)
    (kwhole : PySem.W.keepIn K (.ref fwhole) = true)
    (aties : PySem.W.nsIn K mainGlobals "_law_ties" = some (some (.ref fties)))
    (lties : K.lookup fties = some ⟨octies, odties, .func (PySem.W.fnOf "_law_ties" "_law_ties" (defArgs s_ties) (defBody s_ties) (defScope s_ties) .none kVties dcties pmties anties cdties ctties), slties⟩)
    (cties : PySem.W.codeIn K cdties "_law_ties" = true)
    (kties : PySem.W.keepIn K (.ref fties) = true)
    (aoutcome : PySem.W.nsIn K mainGlobals "_law_outcome" = some (some (.ref foutcome)))
    (loutcome : K.lookup foutcome = some ⟨ocoutcome, odoutcome, .func (PySem.W.fnOf "_law_outcome" "_law_outcome" (defArgs s_outcome) (defBody s_outcome) (defScope s_outcome) .none kVoutcome dcoutcome pmoutcome anoutcome cdoutcome ctoutcome), sloutcome⟩)
    (coutcome : PySem.W.codeIn K cdoutcome "_law_outcome" = true)
    (koutcome : PySem.W.keepIn K (.ref foutcome) = true)
    (apair_of_layouts : PySem.W.nsIn K mainGlobals "_law_pair_of_layouts" = some (some (.ref fpair_of_layouts)))
    (lpair_of_layouts : K.lookup fpair_of_layouts = some ⟨ocpair_of_layouts, odpair_of_layouts, .func (PySem.W.fnOf "_law_pair_of_layouts" "_law_pair_of_layouts" (defArgs s_pair_of_layouts) (defBody s_pair_of_layouts) (defScope s_pair_of_layouts) .none kVpair_of_layouts dcpair_of_layouts pmpair_of_layouts anpair_of_layouts cdpair_of_layouts ctpair_of_layouts), slpair_of_layouts⟩)
    (cpair_of_layouts : PySem.W.codeIn K cdpair_of_layouts "_law_pair_of_layouts" = true)
    (kpair_of_layouts : PySem.W.keepIn K (.ref fpair_of_layouts) = true)
    (aprizes : PySem.W.nsIn K mainGlobals "_law_prizes" = some (some (.ref fprizes)))
    (lprizes : K.lookup fprizes = some ⟨ocprizes, odprizes, .func (PySem.W.fnOf "_law_prizes" "_law_prizes" (defArgs s_prizes) (defBody s_prizes) (defScope s_prizes) .none kVprizes dcprizes pmprizes anprizes cdprizes ctprizes), slprizes⟩)
    (cprizes : PySem.W.codeIn K cdprizes "_law_prizes" = true)
    (kprizes : PySem.W.keepIn K (.ref fprizes) = true)
    (aearned : PySem.W.nsIn K mainGlobals "_law_earned" = some (some (.ref fearned)))
    (learned : K.lookup fearned = some ⟨ocearned, odearned, .func (PySem.W.fnOf "_law_earned" "_law_earned" (defArgs s_earned) (defBody s_earned) (defScope s_earned) .none kVearned dcearned pmearned anearned cdearned ctearned), slearned⟩)
    (cearned : PySem.W.codeIn K cdearned "_law_earned" = true)
    (kearned : PySem.W.keepIn K (.ref fearned) = true)
    (apay : PySem.W.nsIn K mainGlobals "_law_pay" = some (some (.ref fpay)))
    (lpay : K.lookup fpay = some ⟨ocpay, odpay, .func (PySem.W.fnOf "_law_pay" "_law_pay" (defArgs s_pay) (defBody s_pay) (defScope s_pay) .none kVpay dcpay pmpay anpay cdpay ctpay), slpay⟩)
    (cpay : PySem.W.codeIn K cdpay "_law_pay" = true)
    (kpay : PySem.W.keepIn K (.ref fpay) = true)
    (arefused : PySem.W.nsIn K mainGlobals "_law_refused" = some (some (.ref frefused)))
    (lrefused : K.lookup frefused = some ⟨ocrefused, odrefused, .func (PySem.W.fnOf "_law_refused" "_law_refused" (defArgs s_refused) (defBody s_refused) (defScope s_refused) .none kVrefused dcrefused pmrefused anrefused cdrefused ctrefused), slrefused⟩)
    (crefused : PySem.W.codeIn K cdrefused "_law_refused" = true)
    (krefused : PySem.W.keepIn K (.ref frefused) = true)
    (adue : PySem.W.nsIn K mainGlobals "_law_due" = some (some (.ref fdue)))
    (ldue : K.lookup fdue = some ⟨ocdue, oddue, .func (PySem.W.fnOf "_law_due" "_law_due" (defArgs s_due) (defBody s_due) (defScope s_due) .none kVdue dcdue pmdue andue cddue ctdue), sldue⟩)
    (cdue : PySem.W.codeIn K cddue "_law_due" = true)
    (kdue : PySem.W.keepIn K (.ref fdue) = true)
    (acheck_ties : PySem.W.nsIn K mainGlobals "check_ties" = some (some (.ref fcheck_ties)))
    (lcheck_ties : K.lookup fcheck_ties = some ⟨occheck_ties, odcheck_ties, .func (PySem.W.fnOf "check_ties" "check_ties" (defArgs s_check_ties) (defBody s_check_ties) (defScope s_check_ties) .none kVcheck_ties dccheck_ties pmcheck_ties ancheck_ties cdcheck_ties ctcheck_ties), slcheck_ties⟩)
    (ccheck_ties : PySem.W.codeIn K cdcheck_ties "check_ties" = true)
    (kcheck_ties : PySem.W.keepIn K (.ref fcheck_ties) = true)
    (acheck_prizes : PySem.W.nsIn K mainGlobals "_check_prizes" = some (some (.ref fcheck_prizes)))
    (lcheck_prizes : K.lookup fcheck_prizes = some ⟨occheck_prizes, odcheck_prizes, .func (PySem.W.fnOf "_check_prizes" "_check_prizes" (defArgs s_check_prizes) (defBody s_check_prizes) (defScope s_check_prizes) .none kVcheck_prizes dccheck_prizes pmcheck_prizes ancheck_prizes cdcheck_prizes ctcheck_prizes), slcheck_prizes⟩)
    (ccheck_prizes : PySem.W.codeIn K cdcheck_prizes "_check_prizes" = true)
    (kcheck_prizes : PySem.W.keepIn K (.ref fcheck_prizes) = true)
    (awinner : PySem.W.nsIn K mainGlobals "_winner" = some (some (.ref fwinner)))
    (lwinner : K.lookup fwinner = some ⟨ocwinner, odwinner, .func (PySem.W.fnOf "_winner" "_winner" (defArgs s_winner) (defBody s_winner) (defScope s_winner) .none kVwinner dcwinner pmwinner anwinner cdwinner ctwinner), slwinner⟩)
    (cwinner : PySem.W.codeIn K cdwinner "_winner" = true)
    (kwinner : PySem.W.keepIn K (.ref fwinner) = true)
    (astretches : PySem.W.nsIn K mainGlobals "_stretches" = some (some (.ref fstretches)))
    (lstretches : K.lookup fstretches = some ⟨ocstretches, odstretches, .func (PySem.W.fnOf "_stretches" "_stretches" (defArgs s_stretches) (defBody s_stretches) (defScope s_stretches) .none kVstretches dcstretches pmstretches anstretches cdstretches ctstretches), slstretches⟩)
    (cstretches : PySem.W.codeIn K cdstretches "_stretches" = true)
    (kstretches : PySem.W.keepIn K (.ref fstretches) = true)
    (apaid : PySem.W.nsIn K mainGlobals "_paid" = some (some (.ref fpaid)))
    (lpaid : K.lookup fpaid = some ⟨ocpaid, odpaid, .func (PySem.W.fnOf "_paid" "_paid" (defArgs s_paid) (defBody s_paid) (defScope s_paid) .none kVpaid dcpaid pmpaid anpaid cdpaid ctpaid), slpaid⟩)
    (cpaid : PySem.W.codeIn K cdpaid "_paid" = true)
    (kpaid : PySem.W.keepIn K (.ref fpaid) = true)
    (arow_pay : PySem.W.nsIn K mainGlobals "row_pay" = some (some (.ref frow_pay)))
    (lrow_pay : K.lookup frow_pay = some ⟨ocrow_pay, odrow_pay, .func (PySem.W.fnOf "row_pay" "row_pay" (defArgs s_row_pay) (defBody s_row_pay) (defScope s_row_pay) .none (.ref kdrow_pay) dcrow_pay pmrow_pay anrow_pay cdrow_pay ctrow_pay), slrow_pay⟩)
    (crow_pay : PySem.W.codeIn K cdrow_pay "row_pay" = true)
    (krow_pay : PySem.W.keepIn K (.ref frow_pay) = true)
    (nrow_pay : PySem.W.nsIn K kdrow_pay "ties" = some (some (.int 0 tkkrow_pay)))
    (alaw : PySem.W.nsIn K mainGlobals "law" = some (some (.ref flaw)))
    (llaw : K.lookup flaw = some ⟨oclaw, odlaw, .func (PySem.W.fnOf "law" "law" (defArgs s_law) (defBody s_law) (defScope s_law) .none kVlaw dclaw pmlaw anlaw cdlaw ctlaw), sllaw⟩)
    (claw : PySem.W.codeIn K cdlaw "law" = true)
    (klaw : PySem.W.keepIn K (.ref flaw) = true) :
    ∃ fd : FuncData, (∀ (s : Shared) (v : Value), BindsTo s fd ⟨[v], []⟩ [("_law_script", v)]) ∧ ∀ base : Heap, K.In base → base.Ns mainGlobals mg → FnOk l.prog w K mg base CX0 6 fa fd ["_law_script"] (spLaw K) := by
  have e := hfa.symm.trans (PySem.W.mg_of X G alaw)
  cases e
  have B : Blt mg := ⟨PySem.W.mg_none_of X G zlen, PySem.W.mg_none_of X G zint, PySem.W.mg_none_of X G zabs, PySem.W.mg_none_of X G zrange, PySem.W.mg_none_of X G zisinstance, PySem.W.mg_none_of X G zmax, PySem.W.mg_none_of X G zmin, PySem.W.mg_none_of X G zsum, PySem.W.mg_none_of X G zstr, PySem.W.mg_none_of X G zbool, PySem.W.mg_none_of X G zlist, PySem.W.mg_none_of X G zValueError⟩
  have hTup := PySem.W.mg_none_of X G ztuple
  have gLotError := PySem.W.mg_of X G aLE
  have gBadNumber := PySem.W.mg_of X G aBN
  have rBN : PySem.HandSPX.refsVE [.ref LE, .type "ValueError", .type "Exception", .type "BaseException", .type "object"] = true := (show PySem.HandSPX.refsVE [.type "ValueError", .type "Exception", .type "BaseException", .type "object"] = true by decide +kernel)
  have TB : BnC K mg BN := ⟨⟨⟨nmE, qE, NE, bsE, _, snE, subE, abE, colE, ddE, mE0, mE1, mE2, mE3, mE5, xBN, rBN⟩, saBN, beBN, teBN, keBN⟩, gBadNumber, fnBN, fvBN, ⟨geBN, ggBN, beBN, hdBN, hcBN, hnO, htO, hoBN⟩, seBN⟩
  have FB := fun_mk (st := s_BadNumber_init) lBadNumber_init cBadNumber_init kBadNumber_init
  have bB := FB.binds (ps := ["self", "name", "value"]) fun _ _ _ _ _ _ us hl => match us, hl with | [_, _, _], _ => rfl
  have gMismatch := PySem.W.mg_of X G aMM
  have TMM : ExC K mg "Mismatch" MM := ⟨xMM, gMismatch, keMM, beMM, teMM, seMM, ⟨geMM, ggMM, beMM, hdMM, hcMM, hnO, htO, hoMM⟩⟩
  have hZip := PySem.W.mg_none_of X G zzip
  have Fpool := fun_mk (st := s_pool) lpool cpool kpool
  have Dpool : Dfn K mg "_law_pool" "_law_pool" s_pool ["_law_script"] := ⟨fpool, _, Fpool, PySem.W.mg_of X G apool, Fpool.binds (ps := ["_law_script"]) fun _ _ _ _ _ _ us hl => match us, hl with | [_], _ => rfl⟩
  have Fmix := fun_mk (st := s_mix) lmix cmix kmix
  have Dmix : Dfn K mg "_law_mix" "_law_mix" s_mix ["_law_state", "_law_turn", "_law_many"] := ⟨fmix, _, Fmix, PySem.W.mg_of X G amix, Fmix.binds (ps := ["_law_state", "_law_turn", "_law_many"]) fun _ _ _ _ _ _ us hl => match us, hl with | [_, _, _], _ => rfl⟩
  have Fdraw := fun_mk (st := s_draw) ldraw cdraw kdraw
  have Ddraw : Dfn K mg "_law_draw" "_law_draw" s_draw ["_law_pool_here", "_law_many"] := ⟨fdraw, _, Fdraw, PySem.W.mg_of X G adraw, Fdraw.binds (ps := ["_law_pool_here", "_law_many"]) fun _ _ _ _ _ _ us hl => match us, hl with | [_, _], _ => rfl⟩
  have Fwide := fun_mk (st := s_wide) lwide cwide kwide
  have Dwide : Dfn K mg "_law_wide" "_law_wide" s_wide ["_law_pool_here"] := ⟨fwide, _, Fwide, PySem.W.mg_of X G awide, Fwide.binds (ps := ["_law_pool_here"]) fun _ _ _ _ _ _ us hl => match us, hl with | [_], _ => rfl⟩
  have Fwhole := fun_mk (st := s_whole) lwhole cwhole kwhole
  have Dwhole : Dfn K mg "_law_whole" "_law_whole" s_whole ["_law_actual"] := ⟨fwhole, _, Fwhole, PySem.W.mg_of X G awhole, Fwhole.binds (ps := ["_law_actual"]) fun _ _ _ _ _ _ us hl => match us, hl with | [_], _ => rfl⟩
  have Fties := fun_mk (st := s_ties) lties cties kties
  have Dties : Dfn K mg "_law_ties" "_law_ties" s_ties ["_law_pool_here"] := ⟨fties, _, Fties, PySem.W.mg_of X G aties, Fties.binds (ps := ["_law_pool_here"]) fun _ _ _ _ _ _ us hl => match us, hl with | [_], _ => rfl⟩
  have Foutcome := fun_mk (st := s_outcome) loutcome coutcome koutcome
  have Doutcome : Dfn K mg "_law_outcome" "_law_outcome" s_outcome ["_law_x", "_law_y", "_law_ties_here"] := ⟨foutcome, _, Foutcome, PySem.W.mg_of X G aoutcome, Foutcome.binds (ps := ["_law_x", "_law_y", "_law_ties_here"]) fun _ _ _ _ _ _ us hl => match us, hl with | [_, _, _], _ => rfl⟩
  have Fpair_of_layouts := fun_mk (st := s_pair_of_layouts) lpair_of_layouts cpair_of_layouts kpair_of_layouts
  have Dpair_of_layouts : Dfn K mg "_law_pair_of_layouts" "_law_pair_of_layouts" s_pair_of_layouts ["_law_pool_here"] := ⟨fpair_of_layouts, _, Fpair_of_layouts, PySem.W.mg_of X G apair_of_layouts, Fpair_of_layouts.binds (ps := ["_law_pool_here"]) fun _ _ _ _ _ _ us hl => match us, hl with | [_], _ => rfl⟩
  have Fprizes := fun_mk (st := s_prizes) lprizes cprizes kprizes
  have Dprizes : Dfn K mg "_law_prizes" "_law_prizes" s_prizes ["_law_pool_here"] := ⟨fprizes, _, Fprizes, PySem.W.mg_of X G aprizes, Fprizes.binds (ps := ["_law_pool_here"]) fun _ _ _ _ _ _ us hl => match us, hl with | [_], _ => rfl⟩
  have Fearned := fun_mk (st := s_earned) learned cearned kearned
  have Dearned : Dfn K mg "_law_earned" "_law_earned" s_earned ["_law_winners", "_law_side", "_law_prizes_here"] := ⟨fearned, _, Fearned, PySem.W.mg_of X G aearned, Fearned.binds (ps := ["_law_winners", "_law_side", "_law_prizes_here"]) fun _ _ _ _ _ _ us hl => match us, hl with | [_, _, _], _ => rfl⟩
  have Fpay := fun_mk (st := s_pay) lpay cpay kpay
  have Dpay : Dfn K mg "_law_pay" "_law_pay" s_pay ["_law_one", "_law_other", "_law_prizes_here", "_law_ties_here"] := ⟨fpay, _, Fpay, PySem.W.mg_of X G apay, Fpay.binds (ps := ["_law_one", "_law_other", "_law_prizes_here", "_law_ties_here"]) fun _ _ _ _ _ _ us hl => match us, hl with | [_, _, _, _], _ => rfl⟩
  have Frefused := fun_mk (st := s_refused) lrefused crefused krefused
  have Drefused : Dfn K mg "_law_refused" "_law_refused" s_refused ["_law_one", "_law_other", "_law_prizes_here", "_law_rule"] := ⟨frefused, _, Frefused, PySem.W.mg_of X G arefused, Frefused.binds (ps := ["_law_one", "_law_other", "_law_prizes_here", "_law_rule"]) fun _ _ _ _ _ _ us hl => match us, hl with | [_, _, _, _], _ => rfl⟩
  have Fdue := fun_mk (st := s_due) ldue cdue kdue
  have Ddue : Dfn K mg "_law_due" "_law_due" s_due ["_law_one", "_law_other", "_law_prizes_here", "_law_rule"] := ⟨fdue, _, Fdue, PySem.W.mg_of X G adue, Fdue.binds (ps := ["_law_one", "_law_other", "_law_prizes_here", "_law_rule"]) fun _ _ _ _ _ _ us hl => match us, hl with | [_, _, _, _], _ => rfl⟩
  have Fcheck_ties := fun_mk (st := s_check_ties) lcheck_ties ccheck_ties kcheck_ties
  have Dcheck_ties : Dfn K mg "check_ties" "check_ties" s_check_ties ["ties"] := ⟨fcheck_ties, _, Fcheck_ties, PySem.W.mg_of X G acheck_ties, Fcheck_ties.binds (ps := ["ties"]) fun _ _ _ _ _ _ us hl => match us, hl with | [_], _ => rfl⟩
  have Fcheck_prizes := fun_mk (st := s_check_prizes) lcheck_prizes ccheck_prizes kcheck_prizes
  have Dcheck_prizes : Dfn K mg "_check_prizes" "_check_prizes" s_check_prizes ["prizes"] := ⟨fcheck_prizes, _, Fcheck_prizes, PySem.W.mg_of X G acheck_prizes, Fcheck_prizes.binds (ps := ["prizes"]) fun _ _ _ _ _ _ us hl => match us, hl with | [_], _ => rfl⟩
  have Fwinner := fun_mk (st := s_winner) lwinner cwinner kwinner
  have Dwinner : Dfn K mg "_winner" "_winner" s_winner ["x", "y", "ties"] := ⟨fwinner, _, Fwinner, PySem.W.mg_of X G awinner, Fwinner.binds (ps := ["x", "y", "ties"]) fun _ _ _ _ _ _ us hl => match us, hl with | [_, _, _], _ => rfl⟩
  have Fstretches := fun_mk (st := s_stretches) lstretches cstretches kstretches
  have Dstretches : Dfn K mg "_stretches" "_stretches" s_stretches ["winners"] := ⟨fstretches, _, Fstretches, PySem.W.mg_of X G astretches, Fstretches.binds (ps := ["winners"]) fun _ _ _ _ _ _ us hl => match us, hl with | [_], _ => rfl⟩
  have Fpaid := fun_mk (st := s_paid) lpaid cpaid kpaid
  have Dpaid : Dfn K mg "_paid" "_paid" s_paid ["one", "other", "prizes", "ties"] := ⟨fpaid, _, Fpaid, PySem.W.mg_of X G apaid, Fpaid.binds (ps := ["one", "other", "prizes", "ties"]) fun _ _ _ _ _ _ us hl => match us, hl with | [_, _, _, _], _ => rfl⟩
  have Frow_pay : FunD K "row_pay" "row_pay" (defArgs s_row_pay) (defBody s_row_pay) (defScope s_row_pay) [] [("ties", .int 0)] frow_pay _ := ⟨⟨_, _, _, _, _, _, _, _, _, _, rfl, lrow_pay, crow_pay, .inl ⟨rfl, rfl⟩, .inr ⟨kdrow_pay, rfl, fun q hq => by cases (List.mem_singleton.mp hq); exact ⟨_, nrow_pay, ⟨_, rfl⟩⟩⟩⟩, krow_pay⟩
  have ⟨dsrow_pay, rdsrow_pay, bdrow_pay⟩ := Frow_pay.binds0 (ps := ["one", "other", "prizes", "ties"]) 3 (by intro e; cases e) rfl (fun D doc pm an cdv ct us ks h1 h2 => match us, ks, h1, h2 with | [_, _, _], [_], _, _ => ⟨_, _, _, _, _, _, rfl, rfl, rfl⟩)
  have Flaw := fun_mk (st := s_law) llaw claw klaw
  refine ⟨PySem.W.fnOf "law" "law" (defArgs s_law) (defBody s_law) (defScope s_law) .none kVlaw dclaw pmlaw anlaw cdlaw ctlaw, fun s v => .of_eq rfl, fun base _ _ => ?_⟩
  have CE : CalE l.prog w K mg base 1 BN := ⟨_, _, aBadNumber_init, tBadNumber_init, ok_bn TB FB, bB⟩
  have cties := ok_ties TB CE Dcheck_ties
  have cmix := ok_mix (P := l.prog) (w := w) (base := base) B Dmix
  have cdraw := ok_draw B Ddraw cmix
  have cwide := ok_wide B Dwide cdraw
  have cpool := ok_pool (P := l.prog) (w := w) (base := base) B Dpool
  have cwhole := ok_whole (P := l.prog) (w := w) (base := base) B Dwhole
  have cchk := ok_chk B TB CE Dcheck_prizes
  have cwin := ok_win (P := l.prog) (w := w) (base := base) Dwinner
  have cstr := ok_str (P := l.prog) (w := w) (base := base) B Dstretches
  have cpaid := ok_paid B hZip cwin cstr Dpaid
  have crp : CalKW3 l.prog w K mg base 4 "row_pay" ["one", "other", "prizes", "ties"] (spRP BN MM) := ⟨_, _, _, ok_row_pay B TMM cties cchk cpaid Frow_pay, PySem.W.mg_of X G arow_pay, krow_pay, rdsrow_pay, bdrow_pay, ⟨fun s us ws _ h1 h2 => match us, ws, h1, h2 with | [_, _, _], [_], _, _ => .of_eq rfl, fun h1 h2 => h1.append h2⟩⟩
  have clt := ok_lties cdraw Dties
  have cout := ok_out (P := l.prog) (w := w) (base := base) Doutcome
  have cpl := ok_pl B hTup cdraw cwide Dpair_of_layouts
  have cpr := ok_pr B cdraw cwide Dprizes
  have cearn := ok_earn (P := l.prog) (w := w) (base := base) B Dearned
  have cpay := ok_pay B cout cearn Dpay
  have cref := ok_ref B TB TMM gLotError gBadNumber gMismatch (kit_own hdLE teLE sBNLE seBN) (kit_type kmV veBN) (kit_own hdMM teMM sBNMM seBN) (kit_own hdLE teLE sMMLE seMM) (kit_type kmV veMM) (kit_own hdBN teBN sMMBN seMM) (PySem.W.exm_ref beBN hdBN teBN sMMBN) crp Drefused
  have cdue := ok_due (P := l.prog) (w := w) (base := base) B Ddue
  exact ok_law B Flaw cpool cdraw cpl cpr clt cref crp cdue cpay cwhole
end L

set_option Elab.async false

set_option pp.maxSteps 160
set_option pp.deepTerms false
open PySem PySem.W PyProof.Rows
set_option maxRecDepth 100000 in
set_option maxHeartbeats 0 in
theorem PySem.Challenge.cw_fieldlots_k64_row_pay_holds : PySem.Challenge.rw_fieldlots_k64_row_pay.Holds := by
  w_on; o_law; k_head; (case hw => w_witness2)
  k_fill
  refine L2.walk_of (l := PySem.Challenge.rw_fieldlots_k64_row_pay) (n := 63) (k := 6) (x := "_law_script") (CX := fun _ => L2.CX0) (sp := fun w => L.spLaw _) rfl (by decide) rfl ⟨rfl, by decide, by decide⟩ (fun w h Y => PySem.W.kIn_of Y) ?F (fun _ _ a ns hl _ hS => ⟨a, ns, rfl, hS, hl, fun _ => rfl⟩) (fun _ _ _ _ _ h => h)
  case F =>
    intro w mg fa h KX G hmg
    refine' L.all_mk KX G hmg ?zlen ?zint ?zabs ?zrange ?zisinstance ?zmax ?zmin ?zsum ?zstr ?zbool ?zlist ?zValueError ?ztuple ?hnO ?htO ?aLE ?hdLE ?teLE ?aBN ?xBN ?saBN ?keBN ?beBN ?teBN ?seBN ?geBN ?ggBN ?hdBN ?hcBN ?hoBN ?veBN ?fnBN ?fvBN ?aBadNumber_init ?tBadNumber_init ?lBadNumber_init ?cBadNumber_init ?kBadNumber_init ?sBNLE ?kmV ?aMM ?xMM ?keMM ?beMM ?teMM ?seMM ?geMM ?ggMM ?hdMM ?hcMM ?hoMM ?veMM ?sMMLE ?sMMBN ?sBNMM ?zzip ?apool ?lpool ?cpool ?kpool ?amix ?lmix ?cmix ?kmix ?adraw ?ldraw ?cdraw ?kdraw ?awide ?lwide ?cwide ?kwide ?awhole ?lwhole ?cwhole ?kwhole ?aties ?lties ?cties ?kties ?aoutcome ?loutcome ?coutcome ?koutcome ?apair_of_layouts ?lpair_of_layouts ?cpair_of_layouts ?kpair_of_layouts ?aprizes ?lprizes ?cprizes ?kprizes ?aearned ?learned ?cearned ?kearned ?apay ?lpay ?cpay ?kpay ?arefused ?lrefused ?crefused ?krefused ?adue ?ldue ?cdue ?kdue ?acheck_ties ?lcheck_ties ?ccheck_ties ?kcheck_ties ?acheck_prizes ?lcheck_prizes ?ccheck_prizes ?kcheck_prizes ?awinner ?lwinner ?cwinner ?kwinner ?astretches ?lstretches ?cstretches ?kstretches ?apaid ?lpaid ?cpaid ?kpaid ?arow_pay ?lrow_pay ?crow_pay ?krow_pay ?nrow_pay ?alaw ?llaw ?claw ?klaw
    (case zlen => k_is)
    (case zint => k_is)
    (case zabs => k_is)
    (case zrange => k_is)
    (case zisinstance => k_is)
    (case zmax => k_is)
    (case zmin => k_is)
    (case zsum => k_is)
    (case zstr => k_is)
    (case zbool => k_is)
    (case zlist => k_is)
    (case zValueError => k_is)
    (case ztuple => k_is)
    (case hnO => k_is)
    (case htO => k_is)
    (case aLE => k_is)
    (case hdLE => k_is)
    (case teLE => k_is)
    (case aBN => k_is)
    (case xBN => k_is)
    (case saBN => k_is)
    (case keBN => k_is)
    (case beBN => k_is)
    (case teBN => k_is)
    (case seBN => k_is)
    (case geBN => k_is)
    (case ggBN => k_is)
    (case hdBN => k_is)
    (case hcBN => k_is)
    (case hoBN => k_is)
    (case veBN => k_is)
    (case fnBN => k_is)
    (case fvBN => k_is)
    (case aBadNumber_init => k_is)
    (case tBadNumber_init => k_is)
    (case lBadNumber_init => k_is)
    (case cBadNumber_init => k_is)
    (case kBadNumber_init => k_is)
    (case sBNLE => k_is)
    (case kmV => decide +kernel)
    (case aMM => k_is)
    (case xMM => k_exc)
    (case keMM => k_is)
    (case beMM => k_is)
    (case teMM => k_is)
    (case seMM => k_is)
    (case geMM => k_is)
    (case ggMM => k_is)
    (case hdMM => k_is)
    (case hcMM => k_is)
    (case hoMM => k_is)
    (case veMM => k_is)
    (case sMMLE => k_is)
    (case sMMBN => k_is)
    (case sBNMM => k_is)
    (case zzip => k_is)
    (case apool => k_is)
    (case lpool => k_is)
    (case cpool => k_is)
    (case kpool => k_is)
    (case amix => k_is)
    (case lmix => k_is)
    (case cmix => k_is)
    (case kmix => k_is)
    (case adraw => k_is)
    (case ldraw => k_is)
    (case cdraw => k_is)
    (case kdraw => k_is)
    (case awide => k_is)
    (case lwide => k_is)
    (case cwide => k_is)
    (case kwide => k_is)
    (case awhole => k_is)
    (case lwhole => k_is)
    (case cwhole => k_is)
    (case kwhole => k_is)
    (case aties => k_is)
    (case lties => k_is)
    (case cties => k_is)
    (case kties => k_is)
    (case aoutcome => k_is)
    (case loutcome => k_is)
    (case coutcome => k_is)
    (case koutcome => k_is)
    (case apair_of_layouts => k_is)
    (case lpair_of_layouts => k_is)
    (case cpair_of_layouts => k_is)
    (case kpair_of_layouts => k_is)
    (case aprizes => k_is)
    (case lprizes => k_is)
    (case cprizes => k_is)
    (case kprizes => k_is)
    (case aearned => k_is)
    (case learned => k_is)
    (case cearned => k_is)
    (case kearned => k_is)
    (case apay => k_is)
    (case lpay => k_is)
    (case cpay => k_is)
    (case kpay => k_is)
    (case arefused => k_is)
    (case lrefused => k_is)
    (case crefused => k_is)
    (case krefused => k_is)
    (case adue => k_is)
    (case ldue => k_is)
    (case cdue => k_is)
    (case kdue => k_is)
    (case acheck_ties => k_is)
    (case lcheck_ties => k_is)
    (case ccheck_ties => k_is)
    (case kcheck_ties => k_is)
    (case acheck_prizes => k_is)
    (case lcheck_prizes => k_is)
    (case ccheck_prizes => k_is)
    (case kcheck_prizes => k_is)
    (case awinner => k_is)
    (case lwinner => k_is)
    (case cwinner => k_is)
    (case kwinner => k_is)
    (case astretches => k_is)
    (case lstretches => k_is)
    (case cstretches => k_is)
    (case kstretches => k_is)
    (case apaid => k_is)
    (case lpaid => k_is)
    (case cpaid => k_is)
    (case kpaid => k_is)
    (case arow_pay => k_is)
    (case lrow_pay => k_is)
    (case crow_pay => k_is)
    (case krow_pay => k_is)
    (case nrow_pay => k_is)
    (case alaw => k_is)
    (case llaw => k_is)
    (case claw => k_is)
    (case klaw => k_is)
