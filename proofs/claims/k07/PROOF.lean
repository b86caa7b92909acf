import PyProof.Rows.All
import Wide.All
import OpenK.AllK
import Wide.FinOn
import PyProof.NoPylong
import HandS.ForMost
import HandS.ForExc
import HandS.Wide
import HandS.Gcd
import HandS.IsInst
import HandS.ExcIs
import HandS.Property
import HandS.Defaults
import HandS.CallSlots
import HandS.ExcInit
import HandS.ExcField
import HandS.Evl
import PySem.Challenge.RW_fieldlots_k07_run_gain_and_ties
set_option Elab.async false
set_option linter.all false
set_option maxRecDepth 100000
namespace Fl
open PySem PySem.Spec PyProof.Rows L2
/-! ### calls by a promise that names no address -/
structure Cal (P : Program) (w : World) (K : PySem.W.Frag) (mg : Str → Option Value) (base : Heap) (k : Nat) (x : Str) (ps : List Str) (sp : Sp) : Prop where
  ex : ∃ (f : Addr) (fd : FuncData), FnOk P w K mg base CX0 k f fd ps sp ∧ mg x = some (.ref f) ∧ PySem.W.keepIn K (.ref f) = true ∧ Binds K fd ps []
structure Dfn (K : PySem.W.Frag) (mg : Str → Option Value) (x qual : Str) (st : Stmt) (ps : List Str) : Prop where
  ex : ∃ (f : Addr) (fd : FuncData), Fun K x qual st f fd ∧ mg x = some (.ref f) ∧ Binds K fd ps []
section
variable {P : Program} {w : World} {K : PySem.W.Frag} {mg : Str → Option Value} {base : Heap}
theorem Dfn.cal {x qual : Str} {st : Stmt} {N ps : List Str} {k : Nat} {sp : Sp} (D : Dfn K mg x qual st ps) (S : FnScope N ps (defScope st)) (len : ∀ vs H Q E, sp vs H Q E → vs.length = ps.length)
    (hbody : ∀ (f : Addr) (cdv : Value) (A : Around) (outer : List Env) (s : Shared) (H : Hp) (vs : List V) (Q : VK) (E : XK), Room k (A.deeper (envOfC qual (defScope st) s.heap.objs.size f cdv)) → sp vs H Q E →
      ∃ t, PSs (cxOf CX0 P w K mg base N qual (defScope st) f cdv A outer s H E).nox (defBody st) t ∧ t { nx := fun _ H' => Q .non H', rt := Q } (start N vs) H) : Cal P w K mg base (k + 1) x ps sp := by
  obtain ⟨f, fd, F, m, b⟩ := D.ex
  exact ⟨f, fd, F.ok S len (hbody f), m, F.kp, b⟩
theorem Cal.mono {j k : Nat} {x : Str} {ps : List Str} {sp : Sp} (C : Cal P w K mg base j x ps sp) (h : j ≤ k) : Cal P w K mg base k x ps sp := by
  obtain ⟨f, fd, F, m, kp, b⟩ := C.ex
  exact ⟨f, fd, F.mono h, m, kp, b⟩
end
theorem pe_cal {X : Cx} {k : Nat} {x : Str} {ps : List Str} {sp : Sp} {p pos : Pos} {e : Expr} {es : List Expr} {t : TA} (C : Cal X.prog X.w X.K X.mg X.base k x ps sp) (hr : Room k X.A) (ha : PA X (e :: es) t) (hg : Gl X x := by rfl)
    (hdb : (x == ("__debug__" : Str)) = false := by decide) (he : starEach (e :: es) X.env = (false, eval e X.env) :: starEach es X.env := by rfl) (hpl : (backTo pos (starEach es X.env)).any (·.1) = false := by rfl) :
    PE X (.Call (.Name x p) (e :: es) [] pos) (tCall sp [] E0 t) := by
  obtain ⟨f, fd, F, m, kp, b⟩ := C.ex
  exact pe_call F hr hg m kp b .nil pass0 ha hdb he hpl
/-- the built-in names that the text leaves alone -/
structure Blt (mg : Str → Option Value) : Prop where
  len : mg "len" = none
  int : mg "int" = none
  abs : mg "abs" = none
  range : mg "range" = none
  isinstance : mg "isinstance" = none
  max : mg "max" = none
  min : mg "min" = none
  sum : mg "sum" = none
  str : mg "str" = none
  bool : mg "bool" = none
  list : mg "list" = none
  ve : mg "ValueError" = none
/-! ### great numbers -/
def CDivA (_ j : Int) : Prop := j ≠ 0 ∧ j.natAbs.log2 < 9000
theorem op_fdivA {X : Cx} : OpR X (binaryOp .FloorDiv) (rI CDivA fun i j => .int (i.fdiv j)) := opI fun i j _ _ _ _ _ hc q => floordiv_int hc.1 q (.inl (PyProof.noPylong_of_log2 hc.2))
theorem divA {i j : Int} {b : Nat} (h : j ≠ 0) (hb : j.natAbs < 2 ^ b) (h0 : 0 < b) (h9 : b ≤ 9000) : CDivA i j := ⟨h, Nat.lt_of_lt_of_le (PySem.Flt.log2_lt_of h0 hb) h9⟩
/-! ### heaps -/
/-- all that was tracked is as it was, but for p -/
def Keeps (H H' : Hp) (p : Addr) : Prop := ∀ b o, H b = some o → b ≠ p → H' b = some o
theorem Keeps.refl (H : Hp) (p : Addr) : Keeps H H p := fun _ _ h _ => h
theorem Keeps.trans {H H1 H2 : Hp} {p : Addr} (a : Keeps H H1 p) (b : Keeps H1 H2 p) : Keeps H H2 p := fun c o h n => b c o (a c o h n) n
theorem Keeps.upd {H : Hp} {p : Addr} {o : HO} : Keeps H (upd H p o) p := fun b u h n => by rw [upd_ne n]; exact h
theorem same_keeps {H H' : Hp} {p : Addr} (h : Same H H') : Keeps H H' p := fun b o e _ => h b o e
theorem same_upd {H : Hp} {p : Addr} {o : HO} (h : H p = none) : Same H (upd H p o) := fun b u e => by rw [upd_ne (ne_of_none e h)]; exact e
theorem Keeps.free {H H' : Hp} {p l : Addr} (k : Keeps H H' p) (h : H' l = none) (n : l ≠ p) : H l = none := by
  cases q : H l with
  | none => rfl
  | some o =>
    rw [k l o q n] at h
    cases h
theorem ints_at {ns : List Int} {j : Nat} (h : j < ns.length) : (ns.map V.int)[j]? = some (V.int ns[j]) := by
  rw [List.getElem?_map, List.getElem?_eq_getElem h]
  rfl
theorem int_of_map {ns : List Int} {i : Nat} {y : V} (h : (ns.map V.int)[i]? = some y) : ∃ z, ns[i]? = some z ∧ y = V.int z := by
  rw [List.getElem?_map] at h
  cases e : ns[i]? with
  | none => rw [e] at h; cases h
  | some z => rw [e] at h; exact ⟨z, rfl, (Option.some.inj h).symm⟩
/-- where the pool stands: its own list, the script's numbers -/
structure Pla where
  p : Addr
  q : Addr
instance : Coe Pla Addr := ⟨Pla.p⟩
/-- the pool: the script's numbers, how many are taken, what is left of one, a state, the draws -/
def Pool (H : Hp) (p : Pla) : Prop := ∃ (ns : List Int) (i b c d : Int), H p = some (.lst [.ref p.q, .int i, .int b, .int c, .int d]) ∧ H p.q = some (.lst (ns.map V.int)) ∧ 0 ≤ i ∧ p.q ≠ p
theorem Pool.same {H H' : Hp} {p : Pla} (h : Pool H p) (s : Same H H') : Pool H' p := by
  obtain ⟨ns, i, b, c, d, h1, h2, h3, h4⟩ := h
  exact ⟨ns, i, b, c, d, s _ _ h1, s _ _ h2, h3, h4⟩
theorem Pool.upd {H : Hp} {p : Pla} {x : Addr} {o : HO} (h : Pool H p) (hx : H x = none) : Pool (upd H x o) p := h.same (same_upd hx)
theorem Pool.store {H : Hp} {p : Pla} {x : Addr} {o : HO} (h : Pool H p) (hp : x ≠ p) (hq : x ≠ p.q) : Pool (L2.upd H x o) p := by
  obtain ⟨ns, i, b, c, d, h1, h2, h3, h4⟩ := h
  exact ⟨ns, i, b, c, d, by rw [upd_ne (Ne.symm hp)]; exact h1, by rw [upd_ne (Ne.symm hq)]; exact h2, h3, h4⟩
theorem Pool.apart {H : Hp} {p : Pla} {x : Addr} (h : Pool H p) (hx : H x = none) : x ≠ p ∧ x ≠ p.q := by
  obtain ⟨ns, i, b, c, d, h1, h2, _⟩ := h
  exact ⟨Ne.symm (ne_of_none h1 hx), Ne.symm (ne_of_none h2 hx)⟩
/-! ### tests -/
theorem ifD {p : Prop} [Decidable p] {A B : Prop} (h1 : p → A) (h2 : ¬ p → B) : if decide p = true then A else B := by
  by_cases h : p
  · rw [decide_eq_true h]; exact iteT (h1 h)
  · rw [decide_eq_false h]; exact iteF (h2 h)
theorem ifE {a b : Int} {A B : Prop} (h1 : a = b → A) (h2 : a ≠ b → B) : if decide (V.int a = V.int b) = true then A else B :=
  ifD (fun h => h1 (V.int.inj h)) fun h => h2 fun e => h (by rw [e])
theorem ifNE {a b : Int} {A B : Prop} (h1 : a ≠ b → A) (h2 : a = b → B) : if (!decide (V.int a = V.int b)) = true then A else B := by
  by_cases h : a = b
  · rw [decide_eq_true (show V.int a = V.int b by rw [h])]; exact iteF (h2 h)
  · rw [decide_eq_false (show ¬ V.int a = V.int b from fun e => h (V.int.inj e))]; exact iteT (h1 h)
theorem ifN {p : Prop} [Decidable p] {A B : Prop} (h1 : ¬ p → A) (h2 : p → B) : if (!decide p) = true then A else B := by
  by_cases h : p
  · rw [decide_eq_true h]; exact iteF (h2 h)
  · rw [decide_eq_false h]; exact iteT (h1 h)
theorem ifB {c : Bool} {A B : Prop} (h1 : c = true → A) (h2 : c = false → B) : if c = true then A else B := by
  cases c
  · exact iteF (h2 rfl)
  · exact iteT (h1 rfl)
theorem fm (a : Int) {b : Int} (h : 0 < b) : 0 ≤ a.fmod b ∧ a.fmod b < b := ⟨Int.fmod_nonneg_of_pos a h, Int.fmod_lt_of_pos a h⟩
/-! ### Euclid's steps -/
def fibp : Nat → Nat × Nat
  | 0 => (0, 1)
  | n + 1 => match fibp n with | (a, b) => (b, a + b)
def Eu : Nat → Nat → Nat → Prop
  | 0, _, y => y = 0
  | n + 1, x, y => y = 0 ∨ Eu n y (x % y)
theorem eu_mono : ∀ {n x y : Nat}, Eu n x y → Eu (n + 1) x y
  | 0, _, _, h => .inl h
  | _ + 1, _, _, .inl h => .inl h
  | n + 1, _, _, .inr h => .inr (eu_mono (n := n) h)
theorem fibp_step (n : Nat) : (fibp (n + 1)).1 = (fibp n).2 ∧ (fibp (n + 1)).2 = (fibp n).1 + (fibp n).2 := by
  show (match fibp n with | (a, b) => (b, a + b)).1 = _ ∧ (match fibp n with | (a, b) => (b, a + b)).2 = _
  cases fibp n
  exact ⟨rfl, rfl⟩
theorem eu_fib : ∀ (n x y : Nat), (y < (fibp n).2 → Eu n x y) ∧ (y < (fibp (n + 1)).2 → Eu (n + 1) x y) := by
  intro n
  induction n with
  | zero =>
    intro x y
    refine ⟨fun h => ?_, fun h => .inl ?_⟩
    · have h' : y < 1 := h
      show y = 0
      omega
    · have h' : y < 1 := h
      omega
  | succ n ih =>
    intro x y
    refine ⟨(ih x y).2, fun h => ?_⟩
    rw [(fibp_step (n + 1)).2, (fibp_step n).1] at h
    by_cases hy : y = 0
    · exact .inl hy
    refine .inr ?_
    have hr : x % y < y := Nat.mod_lt _ (by omega)
    by_cases hc : x % y < (fibp (n + 1)).2
    · exact (ih y (x % y)).2 hc
    · by_cases h0 : x % y = 0
      · exact .inl h0
      refine .inr ?_
      refine (ih (x % y) (y % (x % y))).1 ?_
      have e : y % (x % y) ≤ y - x % y := by
        rw [Nat.mod_eq_sub_mod (Nat.le_of_lt hr)]
        exact Nat.mod_le _ _
      omega
theorem fib_big : 10 ^ 124 ≤ (fibp 599).2 := by decide +kernel
theorem eu_all {x y : Nat} (h : y < 10 ^ 124) : Eu 599 x y := (eu_fib 599 x y).1 (Nat.lt_of_lt_of_le h fib_big)
end Fl

set_option Elab.async false
set_option linter.all false
set_option maxRecDepth 100000
set_option maxHeartbeats 4000000
namespace Fl
section
open PySem PySem.W PySem.Spec PySem.Calls PyProof.Rows
variable {prog : Program} {w : World} {A : Around} {E : Value → Shared → Prop} {s : Shared} {K : Frag} {x D : Addr} {ox : Obj} {od : Option Obj}
theorem findObj_dataE {C : Addr} {name : Str} {a g : Value} (hc : (clsIn K C).isSome = true) (ha : findIn K (.ref C) name = some (some a)) (hg : specialIn K a "__get__" = some (some g)) (ht : takesIn K a = some true) : findObj K C od name = some (.bind g a) := by
  obtain ⟨cd, hc⟩ := Option.isSome_iff_exists.mp hc
  unfold findObj
  rw [hc, Option.bind_some, ha, Option.bind_some]
  simp [hg, ht]
/-- __class__ of an exception of an own class, with or without a dict of its own -/
theorem kin_classX {Q : Option Value → Shared → Prop} (gAt : findIn K (.ref D) "__getattribute__" = some (some (.builtin "BaseException.__getattribute__"))) (gGt : findIn K (.ref D) "__getattr__" = some none) (sBe : subIn K (.ref D) (.type "BaseException") = some true)
    (dDc : hasDictIn K D = true) (ha : findIn K (.ref D) "__class__" = some (some (.builtin "object.__class__")))
    (hn : specialIn K (.builtin "object.__class__") "__get__" = some (some (.builtin "getset_descriptor.__get__"))) (tTk : takesIn K (.builtin "object.__class__") = some true) (hm : mroIn K D (.type "object") = some true)
    (X : K.In s.heap) (I : InstAt s.heap x ox D od) (h : Q (some (.ref D)) { s with toks := s.toks + 1 }) : wpAny (model prog w) A (getAttr? (.ref x) "__class__") Q E s := by
  have fnd : findObj K D od "__class__" = some (.bind (.builtin "getset_descriptor.__get__") (.builtin "object.__class__")) := findObj_dataE (by obtain ⟨cd, hc, _⟩ := any_some dDc; rw [hc]; rfl) ha hn tTk
  obtain ⟨heap0, g, d, t, os⟩ := s
  have lkT := I.type (M := model prog w)
  have lkG := looks_findIn (M := model prog w) X gAt
  have lkA := looks_findIn (M := model prog w) X gGt
  have lkF := looks_find (M := model prog w) X I fnd
  have isBe : Looks (model prog w) heap0 (isInstance (.ref x) (.type "BaseException")) true := lkT.andThen (looks_subIn X sBe)
  have nb0 : (false && onTheHeap (Value.builtin "BaseException.__getattribute__")) = false := rfl
  have nb2 : (Value.builtin "BaseException.__getattribute__" == Value.builtin "object.__getattribute__") = false := by decide +kernel
  have nb1 : (onTheHeap (Value.ref D) && Value.builtin "BaseException.__getattribute__" == Value.builtin "object.__getattribute__") = false := by rw [nb2]; rfl
  unfold getAttr? getAttrBy? getAttrBy
  refine wpAny_bind (wpAny_mkText (wpAny_bind (wpAny_attempt (wpAny_holding (wpAny_bind (lkT.at (wpAny_bind (lkG.at ?_))))))))
  show wpAny _ _ (if (onTheHeap (Value.ref D) && Value.builtin "BaseException.__getattribute__" == Value.builtin "object.__getattribute__") = true then _ else _) _ _ _
  rw [nb1, if_neg Bool.false_ne_true]
  unfold getAttrByItsOwn hookBefore
  refine wpAny_bind ?_
  rw [if_pos (show onTheHeap (Value.ref D) = true from rfl)]
  refine lkA.at ?_
  refine wpAny_bind (wpAny_attempt (wpAny_holding ?_))
  unfold callGetattribute
  rw [nb0, if_neg Bool.false_ne_true]
  unfold boundAndCalled
  rw [PySem.F.excAttr_ValueError.ga.bind (.ref x)]
  refine wpAny_bind (wpAny_pure ?_)
  show wpAny _ _ (call (.builtin "BaseException.__getattribute__") [.ref x, .str "__class__" t]) _ _ _
  refine wpAny_call (codeAny_call_builtin PySem.F.excAttr_ValueError.ga.plain PySem.F.entry_bexc_ga ?_)
  refine @check_slot (model prog w) _ _ ⟨heap0, g, d, t + 1, os⟩ "BaseException.__getattribute__" "BaseException" "__getattribute__" (.ref x) [.str "__class__" t] [] _ (by decide +kernel) (by decide +kernel) isBe (PySem.F.args_bexc_ga (.ref x) (.str "__class__" t)) ?_
  unfold Builtin.«object.__getattribute__»
  refine wpAny_bind (wpAny_of_eq (a := ((Value.ref x : Value), [Value.str "__class__" t])) (by first | rfl | (simp only [slotArgs]; rfl)) ?_)
  refine wpAny_bind (wpAny_pure (wpAny_bind (lkT.at (wpAny_bind (lkF.at ?_)))))
  show wpAny _ _ (holding [Value.builtin "object.__class__"] (call (.builtin "getset_descriptor.__get__") [.builtin "object.__class__", .ref x, .ref D]) >>= ret) _ _ _
  refine wpAny_bind (wpAny_holding (wpAny_call (class_get (s := ⟨heap0, g, d, t + 1, os⟩) (ox := ox) (od := od) X I hm ?_)))
  refine wpAny_pure ?_
  show wpAny _ _ (handedOut (.ref D)) _ _ _
  rw [handedOut_of (v := .ref D) rfl]
  first
    | exact wpAny_pure (wpAny_pure h)
    | exact wpAny_pure h
    | exact wpAny_pure (wpAny_bind (wpAny_pure (wpAny_pure h)))
theorem kitx_excX (gAt : findIn K (.ref D) "__getattribute__" = some (some (.builtin "BaseException.__getattribute__"))) (gGt : findIn K (.ref D) "__getattr__" = some none) (sBe : subIn K (.ref D) (.type "BaseException") = some true) (dDc : hasDictIn K D = true) (ha : findIn K (.ref D) "__class__" = some (some (.builtin "object.__class__")))
    (hn : specialIn K (.builtin "object.__class__") "__get__" = some (some (.builtin "getset_descriptor.__get__"))) (tTk : takesIn K (.builtin "object.__class__") = some true) (hm : mroIn K D (.type "object") = some true) :
    KitX K (.ref x) (.ref D) (fun h => InstAt h x ox D od) where
  ty := fun _ _ _ I => I.type
  it := fun _ _ X _ => by
    obtain ⟨cdE, hcE, _⟩ := any_some dDc
    unfold clsIn at hcE
    split at hcE
    · rename_i c' d' cd' sl' ho
      intro A' Q' E' s' k q
      unfold isType loadHead
      exact wpAny_bind (wpAny_loadPart (k _ _ (X _ _ ho)) (wpAny_pure q))
    · cases hcE
  ne := fun h tp dd its n sl X htp => by
    obtain ⟨cdE, hcE, _⟩ := any_some dDc
    refine Bool.eq_false_iff.mpr fun q => ?_
    have e : D = tp := Value.ref.inj (beq_iff_eq.mp q)
    subst e
    unfold clsIn at hcE
    split at hcE
    · rename_i c' d' cd' sl' ho
      have z := (X _ _ ho).symm.trans htp
      cases z
    · cases hcE
  ca := fun X I k => kin_classX gAt gGt sBe dDc ha hn tTk hm X I k
end
section
open PySem PySem.Spec PyProof.Rows L2
/-- the caught error at a: of the class D, its dict d -/
def Err (H : Hp) (d : Option Addr) : Prop := d = none ∨ ∃ dd fs, d = some dd ∧ H dd = some (.xd fs)
theorem exc_inst {X : Cx} {a D : Addr} {oe : Obj} {pn pins : List (Addr × Obj)} {d : Option Addr} {σ : L2.St} {H : Hp} {s : Shared} (hz : Zc (.ref D) d oe) (hf : ∃ vs, oe.data = .fields vs) (I : Inv (X.suite a ((a, oe) :: pn)) pins σ H s) (he : Err H d) :
    ∃ od, PySem.W.InstAt s.heap a oe D od := by
  obtain ⟨hget, _⟩ := I.pin (a, oe) (List.mem_append.mpr (.inl List.mem_cons_self))
  obtain ⟨vs, hv⟩ := hf
  obtain ⟨oc, oda, odt, osl⟩ := oe
  obtain ⟨h1, h2⟩ := hz
  dsimp only at h1 h2 hv
  subst h1 h2 hv
  rcases he with rfl | ⟨dd, fs, rfl, hd⟩
  · exact ⟨none, hget, rfl, rfl, trivial⟩
  · have hx : ObjOk X.prog X.w H s.heap dd (.xd fs) := I.hok dd _ hd
    obtain ⟨mA, hns, hr⟩ := hx
    obtain ⟨od, ho, hl⟩ := lookIn_ns hns
    exact ⟨some od, hget, rfl, rfl, ho⟩
def rIsX (K : PySem.W.Frag) (D a : Addr) (cls : Value) (d : Option Addr) : List V → Hp → VK → Prop := fun xs H Q => cls = .ref D ∧ Err H d ∧ ∃ (c : V) (cv : Value) (b : Bool), xs = [.ref a, c] ∧ ClsV c cv ∧ PySem.W.kitOne K (.ref D) cv = some b ∧ Q (.bl b) H
def rIsXT (K : PySem.W.Frag) (D a : Addr) (cls : Value) (d : Option Addr) : List V → Hp → VK → Prop := fun xs H Q => cls = .ref D ∧ Err H d ∧ ∃ (tp : Addr) (cs : List V) (us : List Value) (b : Bool), xs = [.ref a, .ref tp] ∧ H tp = some (.tup cs) ∧ Paired ClsV cs us ∧ PySem.W.kitAny K (.ref D) us = some b ∧ Q (.bl b) H
theorem call_isX {X : Cx} {a D : Addr} {cls : Value} {d : Option Addr} {oe : Obj} {pn : List (Addr × Obj)} (C : ExcC X.K D) (hz : Zc cls d oe) (hf : ∃ vs, oe.data = .fields vs) : CallR (X.suite a ((a, oe) :: pn)) (.builtin "isinstance") (rIsX X.K D a cls d) := by
  intro pins s σ H xs us Q I r h
  obtain ⟨rfl, he, c, cv, b, rfl, hcv, e, q⟩ := h
  obtain ⟨od, J⟩ := exc_inst hz hf I he
  obtain ⟨u1, u2, rfl, r1, r2⟩ := vals2 r
  have ec := hcv.eq r2
  subst ec
  cases (show u1 = Value.ref a from r1)
  exact PySem.W.kia_one (kitx_excX C.hg C.hk C.hs C.hd C.ha C.hn C.ht C.hm) I.kIn J e (fun z => nomatch z) fun tk => ⟨.bl b, H, I.kept (t' := tk) fun _ _ z => z, rfl, q⟩
theorem call_isXT {X : Cx} {a D : Addr} {cls : Value} {d : Option Addr} {oe : Obj} {pn : List (Addr × Obj)} (C : ExcC X.K D) (hz : Zc cls d oe) (hf : ∃ vs, oe.data = .fields vs) : CallR (X.suite a ((a, oe) :: pn)) (.builtin "isinstance") (rIsXT X.K D a cls d) := by
  intro pins s σ H xs us Q I r h
  obtain ⟨rfl, he, tp, cs, ws, b, rfl, hT, k, e, q⟩ := h
  obtain ⟨od, J⟩ := exc_inst hz hf I he
  obtain ⟨u1, u2, rfl, r1, r2⟩ := vals2 r
  cases (show u1 = Value.ref a from r1)
  cases (show u2 = Value.ref tp from r2)
  obtain ⟨_, its, rv, o, h1, h2, n, h3⟩ := (show ObjOk X.prog X.w H s.heap tp (.tup cs) from I.hok tp _ hT)
  have e3 := ClsV.all k rv
  subst e3
  obtain ⟨oc, od', dt, sl⟩ := o
  simp only at h2 h3
  subst h2 h3
  exact PySem.W.kia_tup (kitx_excX C.hg C.hk C.hs C.hd C.ha C.hn C.ht C.hm) I.kIn J h1 e (fun z => nomatch z) fun tk => ⟨.bl b, H, I.kept (t' := tk) fun _ _ z => z, rfl, q⟩
/-! ### making an instance where what is raised is wished for at the caller's slots -/
def tMakeS (C : Addr) (sp : Sp) (dvs : List V) (E : L2.St → XK) (t : TA) : TE := fun σ H Q => t σ H fun vs H1 => ∀ x dx, H1 x = none → H1 dx = none → dx ≠ x →
  sp (.ref x :: (vs ++ dvs)) (upd (upd H1 dx (.own x)) x (.ins C dx [])) (fun v H2 => v = .non ∧ Q (.ref x) H2) (E σ)
section
variable {X : Cx} {CX : CXT} {k : Nat} {f C : Addr} {fd : FuncData} {ps : List Str} {sp : Sp} {dvs : List V} {ds : List Value} {E : L2.St → XK} {x m : Str} {p pos apos : Pos} {e o : Expr} {es : List Expr} {ta : TE} {t : TA}
theorem run_makeS {pins : List (Addr × Obj)} {σ : L2.St} {H : Hp} {s : Shared} {Q : VK} {us : List Value} {vs : List V} (M : Mk X.K C f) (F : FnOk X.prog X.w X.K X.mg X.base CX k f fd ps sp) (hr : Room (k + 1) X.A) (hb : Binds X.K fd ps ds) (hd : Vals dvs ds)
    (hx : PassesAt CX X σ (E σ)) (I : Inv X pins σ H s) (r : Vals vs us)
    (h : ∀ x dx, H x = none → H dx = none → dx ≠ x → sp (.ref x :: (vs ++ dvs)) (upd (upd H dx (.own x)) x (.ins C dx [])) (fun v H2 => v = .non ∧ Q (.ref x) H2) (E σ)) :
    wpAny (model X.prog X.w) X.A (call (.ref C) us) (EP X pins σ Q) X.xe s := by
  have hnew := h (s.heap.objs.size + 1) s.heap.objs.size (I.hok.fresh (Nat.le_succ _)) (I.hok.fresh (Nat.le_refl _)) (Nat.ne_of_lt (Nat.lt_succ_self _))
  have Inew := Inv.made (C := C) I
  have rAll : Vals (V.ref (s.heap.objs.size + 1) :: (vs ++ dvs)) (Value.ref (s.heap.objs.size + 1) :: (us ++ ds)) := .cons rfl (r.append hd)
  have hlen : (Value.ref (s.heap.objs.size + 1) :: us ++ ds).length = ps.length := by
    have e := rAll.length
    rw [F.len _ _ _ _ hnew] at e
    exact e.symm
  refine wpAny_call (make_map (f := f) I.kIn M.makes M.init (beq_iff_eq.mp M.fn) (codeAny_mono (F.run _ X.stack _ _ ⟨Value.ref (s.heap.objs.size + 1) :: us, []⟩ (Value.ref (s.heap.objs.size + 1) :: (us ++ ds)) _ _ (E σ) (hr.make C us [])
    (Inew.env0.make C us []) (hb _ (Value.ref (s.heap.objs.size + 1) :: us) Inew.kIn hlen) rAll hnew) fun r s' hend => ?_))
  cases r with
  | error e => exact hx pins _ _ e s' Inew hend
  | ok fl =>
    cases fl with
    | ret u =>
      obtain ⟨v, H', Iend, rVal, ev, qEnd⟩ := Inew.after hend
      subst ev
      exact ⟨rVal, ⟨V.ref (s.heap.objs.size + 1), H', Iend, rfl, qEnd⟩⟩
    | next => exact False.elim hend
    | brk => exact False.elim hend
    | cont => exact False.elim hend
theorem pe_makeS (M : Mk X.K C f) (F : FnOk X.prog X.w X.K X.mg X.base CX k f fd ps sp) (hr : Room (k + 1) X.A) (hg : Gl X x) (hm : X.mg x = some (.ref C)) (hb : Binds X.K fd ps ds) (hd : Vals dvs ds) (hx : ∀ σ, PassesAt CX X σ (E σ))
    (ha : PA X (e :: es) t) (hdb : (x == ("__debug__" : Str)) = false := by decide) (he : starEach (e :: es) X.env = (false, eval e X.env) :: starEach es X.env := by rfl) (hpl : (backTo pos (starEach es X.env)).any (·.1) = false := by rfl) :
    PE X (.Call (.Name x p) (e :: es) [] pos) (tMakeS C sp dvs E t) := by
  refine ⟨fun pins s σ H Q I h => ?_⟩
  refine wpAny_Call_Name_kw (ld_glob I hg hm ?_ hdb)
  refine PySem.W.callWith_K (h₀ := X.base) I.ok.mod.kin M.kp (thn (ha.run pos pins s σ H _ I h) fun us s1 ⟨vs, H1, I1, r, q⟩ => ⟨I1.kIn, ?_⟩) he hpl
  exact run_makeS M F hr hb hd (hx σ) I1 r q
end
/-- a class that is called: C(..), the promise of its __init__; dvs the defaults that fill up -/
structure CalC (P : Program) (w : World) (K : PySem.W.Frag) (mg : Str → Option Value) (base : Heap) (CX : CXT) (k : Nat) (C : Addr) (x : Str) (ps : List Str) (dvs : List V) (sp : Sp) : Prop where
  ex : ∃ (f : Addr) (fd : FuncData) (ds : List Value), Mk K C f ∧ FnOk P w K mg base CX k f fd ps sp ∧ mg x = some (.ref C) ∧ Binds K fd ps ds ∧ Vals dvs ds
theorem pe_mk {X : Cx} {k : Nat} {C : Addr} {x : Str} {ps : List Str} {dvs : List V} {sp : Sp} {p pos : Pos} {e : Expr} {es : List Expr} {t : TA} (M : CalC X.prog X.w X.K X.mg X.base (L2.CX X.prog X.w) k C x ps dvs sp) (hr : Room (k + 1) X.A) (ha : PA X (e :: es) t) (hg : Gl X x := by rfl)
    (hdb : (x == ("__debug__" : Str)) = false := by decide) (he : starEach (e :: es) X.env = (false, eval e X.env) :: starEach es X.env := by rfl) (hpl : (backTo pos (starEach es X.env)).any (·.1) = false := by rfl) :
    PE X (.Call (.Name x p) (e :: es) [] pos) (tMake C sp dvs E0 t) := by
  obtain ⟨f, fd, ds, M, F, m, b, d⟩ := M.ex
  exact pe_make M F hr hg m b d passL ha hdb he hpl
theorem pe_mkS {X : Cx} {W : WX} {k : Nat} {C : Addr} {x : Str} {ps : List Str} {dvs : List V} {sp : Sp} {p pos : Pos} {e : Expr} {es : List Expr} {t : TA} (M : CalC X.prog X.w X.K X.mg X.base (L2.CX X.prog X.w) k C x ps dvs sp) (tk : Takes X W) (hr : Room (k + 1) X.A) (ha : PA X (e :: es) t) (hg : Gl X x := by rfl)
    (hdb : (x == ("__debug__" : Str)) = false := by decide) (he : starEach (e :: es) X.env = (false, eval e X.env) :: starEach es X.env := by rfl) (hpl : (backTo pos (starEach es X.env)).any (·.1) = false := by rfl) :
    PE X (.Call (.Name x p) (e :: es) [] pos) (tMakeS C sp dvs (WE W) t) := by
  obtain ⟨f, fd, ds, M, F, m, b, d⟩ := M.ex
  exact pe_makeS M F hr hg m b d (fun σ => passAt tk σ) ha hdb he hpl
/-! ### a def that may raise -/
structure CalX (P : Program) (w : World) (K : PySem.W.Frag) (mg : Str → Option Value) (base : Heap) (k : Nat) (x : Str) (ps : List Str) (sp : Sp) : Prop where
  ex : ∃ (f : Addr) (fd : FuncData), FnOk P w K mg base (L2.CX P w) k f fd ps sp ∧ mg x = some (.ref f) ∧ PySem.W.keepIn K (.ref f) = true ∧ Binds K fd ps []
theorem Dfn.calX {P : Program} {w : World} {K : PySem.W.Frag} {mg : Str → Option Value} {base : Heap} {x qual : Str} {st : Stmt} {N ps : List Str} {k : Nat} {sp : Sp} (D : Dfn K mg x qual st ps) (S : FnScope N ps (defScope st)) (len : ∀ vs H Q E, sp vs H Q E → vs.length = ps.length)
    (hbody : ∀ (f : Addr) (cdv : Value) (A : Around) (outer : List Env) (s : Shared) (H : Hp) (vs : List V) (Q : VK) (E : XK), Room k (A.deeper (envOfC qual (defScope st) s.heap.objs.size f cdv)) → sp vs H Q E →
      ∃ t, PSs (cxOf (L2.CX P w) P w K mg base N qual (defScope st) f cdv A outer s H E) (defBody st) t ∧ t { nx := fun _ H' => Q .non H', rt := Q } (start N vs) H) : CalX P w K mg base (k + 1) x ps sp := by
  obtain ⟨f, fd, F, m, b⟩ := D.ex
  exact ⟨f, fd, F.okX S len (hbody f), m, F.kp, b⟩
theorem pe_calX {X : Cx} {k : Nat} {x : Str} {ps : List Str} {sp : Sp} {p pos : Pos} {e : Expr} {es : List Expr} {t : TA} (C : CalX X.prog X.w X.K X.mg X.base k x ps sp) (hr : Room k X.A) (ha : PA X (e :: es) t) (hg : Gl X x := by rfl)
    (hdb : (x == ("__debug__" : Str)) = false := by decide) (he : starEach (e :: es) X.env = (false, eval e X.env) :: starEach es X.env := by rfl) (hpl : (backTo pos (starEach es X.env)).any (·.1) = false := by rfl) :
    PE X (.Call (.Name x p) (e :: es) [] pos) (tCall sp [] E0 t) := by
  obtain ⟨f, fd, F, m, kp, b⟩ := C.ex
  exact pe_call F hr hg m kp b .nil passL ha hdb he hpl
theorem pe_calS {X : Cx} {W : WX} {k : Nat} {x : Str} {ps : List Str} {sp : Sp} {p pos : Pos} {e : Expr} {es : List Expr} {t : TA} (C : CalX X.prog X.w X.K X.mg X.base k x ps sp) (tk : Takes X W) (hr : Room k X.A) (ha : PA X (e :: es) t) (hg : Gl X x := by rfl)
    (hdb : (x == ("__debug__" : Str)) = false := by decide) (he : starEach (e :: es) X.env = (false, eval e X.env) :: starEach es X.env := by rfl) (hpl : (backTo pos (starEach es X.env)).any (·.1) = false := by rfl) :
    PE X (.Call (.Name x p) (e :: es) [] pos) (tCallS sp (WE W) t) := by
  obtain ⟨f, fd, F, m, kp, b⟩ := C.ex
  exact pe_callS F hr hg m kp b (fun σ => passAt tk σ) ha hdb he hpl
theorem exm_self {K : PySem.W.Frag} {S : Addr} (h1 : PySem.W.subIn K (.ref S) (.type "BaseException") = some true) (h2 : PySem.W.hasDictIn K S = true) (h3 : PySem.W.typeIn K (.ref S) = some (.type "type")) (h4 : PySem.W.subIn K (.ref S) (.ref S) = some true) :
    PySem.W.exmOne K (.ref S) (.ref S) = some true := PySem.W.exm_ref h1 h2 h3 h4
end
end Fl

set_option Elab.async false
set_option linter.all false
set_option maxRecDepth 100000
set_option maxHeartbeats 4000000
namespace Fl
open PySem PySem.Spec PyProof.Rows L2
/-! ### lowest terms -/
def sh (t u : Int) : Int := if u < 0 then -(Nat.gcd t.natAbs u.natAbs : Nat) else (Nat.gcd t.natAbs u.natAbs : Nat)
def nT (t u : Int) : Int := t.fdiv (sh t u)
def nU (t u : Int) : Int := u.fdiv (sh t u)
theorem sh_abs (t u : Int) : (sh t u).natAbs = Nat.gcd t.natAbs u.natAbs := by
  unfold sh
  split <;> omega
theorem sh_ne {t u : Int} (h : u ≠ 0) : sh t u ≠ 0 := by
  have h1 : 0 < Nat.gcd t.natAbs u.natAbs := Nat.gcd_pos_of_pos_right _ (by omega)
  have := sh_abs t u
  omega
theorem sh_dvd_t (t u : Int) : sh t u ∣ t := Int.natAbs_dvd_natAbs.mp (by rw [sh_abs]; exact Nat.gcd_dvd_left _ _)
theorem sh_dvd_u (t u : Int) : sh t u ∣ u := Int.natAbs_dvd_natAbs.mp (by rw [sh_abs]; exact Nat.gcd_dvd_right _ _)
theorem nT_mul (t u : Int) : nT t u * sh t u = t := by
  unfold nT
  exact Int.fdiv_mul_cancel (sh_dvd_t t u)
theorem nU_mul (t u : Int) : nU t u * sh t u = u := by
  unfold nU
  exact Int.fdiv_mul_cancel (sh_dvd_u t u)
theorem nU_pos {t u : Int} (h : u ≠ 0) : 0 < nU t u := by
  have h1 : 0 < Nat.gcd t.natAbs u.natAbs := Nat.gcd_pos_of_pos_right _ (by omega)
  have e := nU_mul t u
  by_cases hn : u < 0
  · have hs : sh t u < 0 := by
      unfold sh
      rw [if_pos hn]
      omega
    rcases Int.lt_trichotomy (nU t u) 0 with hc | hc | hc
    · have := Int.mul_pos_of_neg_of_neg hc hs
      omega
    · rw [hc] at e
      omega
    · exact hc
  · have hs : 0 < sh t u := by
      unfold sh
      rw [if_neg hn]
      omega
    rcases Int.lt_trichotomy (nU t u) 0 with hc | hc | hc
    · have := Int.mul_neg_of_neg_of_pos hc hs
      omega
    · rw [hc] at e
      omega
    · exact hc
theorem n_cross (t u : Int) : nT t u * u = t * nU t u := by
  have e1 := nT_mul t u
  have e2 := nU_mul t u
  calc nT t u * u = nT t u * (nU t u * sh t u) := by rw [e2]
    _ = nT t u * sh t u * nU t u := by rw [Int.mul_comm (nU t u), Int.mul_assoc]
    _ = t * nU t u := by rw [e1]
theorem n_gcd {t u : Int} (h : u ≠ 0) : Nat.gcd (nT t u).natAbs (nU t u).natAbs = 1 := by
  have h1 : 0 < Nat.gcd t.natAbs u.natAbs := Nat.gcd_pos_of_pos_right _ (by omega)
  have e1 : (nT t u).natAbs * Nat.gcd t.natAbs u.natAbs = t.natAbs := by rw [← sh_abs, ← Int.natAbs_mul, nT_mul]
  have e2 : (nU t u).natAbs * Nat.gcd t.natAbs u.natAbs = u.natAbs := by rw [← sh_abs, ← Int.natAbs_mul, nU_mul]
  have e3 : Nat.gcd ((nT t u).natAbs * Nat.gcd t.natAbs u.natAbs) ((nU t u).natAbs * Nat.gcd t.natAbs u.natAbs) = Nat.gcd t.natAbs u.natAbs := by
    rw [e1, e2]
  rw [Nat.gcd_mul_right] at e3
  exact Nat.eq_of_mul_eq_mul_right h1 (by rw [e3, Nat.one_mul])
theorem nU_le {t u : Int} (h : u ≠ 0) : (nU t u).natAbs ≤ u.natAbs := by
  have h1 : 0 < Nat.gcd t.natAbs u.natAbs := Nat.gcd_pos_of_pos_right _ (by omega)
  have e2 : (nU t u).natAbs * Nat.gcd t.natAbs u.natAbs = u.natAbs := by rw [← sh_abs, ← Int.natAbs_mul, nU_mul]
  rw [← e2]
  exact Nat.le_mul_of_pos_right _ h1
theorem nT_le {t u : Int} (h : u ≠ 0) : (nT t u).natAbs ≤ t.natAbs := by
  have h1 : 0 < Nat.gcd t.natAbs u.natAbs := Nat.gcd_pos_of_pos_right _ (by omega)
  have e2 : (nT t u).natAbs * Nat.gcd t.natAbs u.natAbs = t.natAbs := by rw [← sh_abs, ← Int.natAbs_mul, nT_mul]
  rw [← e2]
  exact Nat.le_mul_of_pos_right _ h1
/-- a fraction has one form in lowest terms -/
theorem low_one {a b c d : Int} (hb : 0 < b) (hd : 0 < d) (g1 : Nat.gcd a.natAbs b.natAbs = 1) (g2 : Nat.gcd c.natAbs d.natAbs = 1) (e : a * d = c * b) : a = c ∧ b = d := by
  have en : a.natAbs * d.natAbs = c.natAbs * b.natAbs := by rw [← Int.natAbs_mul, ← Int.natAbs_mul, e]
  have d1 : b.natAbs ∣ d.natAbs := (Nat.Coprime.dvd_of_dvd_mul_left (k := b.natAbs) (m := a.natAbs) (n := d.natAbs) (by rw [Nat.Coprime, Nat.gcd_comm]; exact g1) (by rw [en]; exact Nat.dvd_mul_left _ _))
  have d2 : d.natAbs ∣ b.natAbs := (Nat.Coprime.dvd_of_dvd_mul_left (k := d.natAbs) (m := c.natAbs) (n := b.natAbs) (by rw [Nat.Coprime, Nat.gcd_comm]; exact g2) (by rw [← en]; exact Nat.dvd_mul_left _ _))
  have e3 : b.natAbs = d.natAbs := Nat.dvd_antisymm d1 d2
  have e4 : b = d := by omega
  subst e4
  exact ⟨Int.eq_of_mul_eq_mul_right (by omega) e, rfl⟩
theorem n_uniq {a b t u : Int} (hu : u ≠ 0) (hb : 0 < b) (g : Nat.gcd a.natAbs b.natAbs = 1) (e : a * u = t * b) : a = nT t u ∧ b = nU t u := by
  refine low_one hb (nU_pos hu) g (n_gcd hu) ?_
  have e1 := n_cross t u
  refine Int.eq_of_mul_eq_mul_right hu ?_
  calc a * nU t u * u = a * u * nU t u := by rw [Int.mul_assoc, Int.mul_comm (nU t u), ← Int.mul_assoc]
    _ = t * b * nU t u := by rw [e]
    _ = t * nU t u * b := by rw [Int.mul_assoc, Int.mul_comm b, ← Int.mul_assoc]
    _ = nT t u * u * b := by rw [e1]
    _ = nT t u * b * u := by rw [Int.mul_assoc, Int.mul_comm u, ← Int.mul_assoc]
theorem n_self {a b : Int} (hb : 0 < b) (g : Nat.gcd a.natAbs b.natAbs = 1) : nT a b = a ∧ nU a b = b := by
  obtain ⟨h1, h2⟩ := n_uniq (a := a) (b := b) (t := a) (u := b) (by omega) hb g rfl
  exact ⟨h1.symm, h2.symm⟩
theorem n_one (t : Int) : nT t 1 = t ∧ nU t 1 = 1 := n_self (by decide) (by simp)
theorem n_scale {t u f : Int} (hu : u ≠ 0) (hf : f ≠ 0) : nT (t * f) (u * f) = nT t u ∧ nU (t * f) (u * f) = nU t u := by
  have hne : u * f ≠ 0 := Int.mul_ne_zero hu hf
  obtain ⟨h1, h2⟩ := n_uniq (a := nT t u) (b := nU t u) (t := t * f) (u := u * f) hne (nU_pos hu) (n_gcd hu) (by
    have e1 := n_cross t u
    calc nT t u * (u * f) = nT t u * u * f := by rw [Int.mul_assoc]
      _ = t * nU t u * f := by rw [e1]
      _ = t * f * nU t u := by rw [Int.mul_assoc, Int.mul_comm (nU t u), ← Int.mul_assoc])
  exact ⟨h1.symm, h2.symm⟩
/-! ### instances of Ratio -/
def rf (t u : Int) : List (Str × V) := putF "under" (.int u) (putF "top" (.int t) [])
theorem tu : ¬ (("top" : Str) = "under") := by decide +kernel
theorem ut : ¬ (("under" : Str) = "top") := by decide +kernel
theorem rf_top (t u : Int) : (rf t u).lookup ("top" : Str) = some (.int t) := by
  unfold rf
  rw [lookup_putF, if_neg tu, lookup_putF, if_pos rfl]
theorem rf_under (t u : Int) : (rf t u).lookup ("under" : Str) = some (.int u) := by
  unfold rf
  rw [lookup_putF, if_pos rfl]
theorem rf_no (t u : Int) {m : Str} (h1 : ¬ m = "under") (h2 : ¬ m = "top") : (rf t u).lookup m = none := by
  unfold rf
  rw [lookup_putF, if_neg h1, lookup_putF, if_neg h2]
  rfl
/-- a Ratio t / u stands at x -/
def RatAt (C : Addr) (H : Hp) (x : Addr) (t u : Int) : Prop := ∃ dx, H x = some (.ins C dx (rf t u))
theorem RatAt.keep {C p : Addr} {H H' : Hp} {x : Addr} {t u : Int} (h : RatAt C H x t u) (k : Keeps H H' p) (hp : x ≠ p) : RatAt C H' x t u := by
  obtain ⟨dx, h⟩ := h
  exact ⟨dx, k _ _ h hp⟩
theorem RatAt.same {C : Addr} {H H' : Hp} {x : Addr} {t u : Int} (h : RatAt C H x t u) (k : Same H H') : RatAt C H' x t u := by
  obtain ⟨dx, h⟩ := h
  exact ⟨dx, k _ _ h⟩
theorem RatAt.ne_pool {C : Addr} {p : Pla} {H : Hp} {x : Addr} {t u : Int} (h : RatAt C H x t u) (hp : Pool H p) : x ≠ p := by
  obtain ⟨dx, h⟩ := h
  obtain ⟨ns, i, b, c, d, h1, _⟩ := hp
  exact ne_of h h1 (by intro z; cases z)
/-- the class Ratio as the top has left it -/
structure RatC (K : PySem.W.Frag) (mg : Str → Option Value) (C : Addr) : Prop where
  cl : Cls K C
  nT : NoAttr K C "top"
  nU : NoAttr K C "under"
  g : mg "Ratio" = some (.ref C)
  ha : PySem.W.findIn K (.ref C) "__class__" = some (some (.builtin "object.__class__"))
  hn : PySem.W.specialIn K (.builtin "object.__class__") "__get__" = some (some (.builtin "getset_descriptor.__get__"))
  htk : PySem.W.takesIn K (.builtin "object.__class__") = some true
  hm : PySem.W.mroIn K C (.type "object") = some true
  ki : PySem.W.kitOne K (.type "int") (.ref C) = some false
theorem RatC.tyX {K : PySem.W.Frag} {mg : Str → Option Value} {C : Addr} (T : RatC K mg C) {H : Hp} {x dx : Addr} {fs : List (Str × V)} (h : H x = some (.ins C dx fs)) : TyX K H (.ref x) (.ref C) := .base (.ins h T.cl T.ha T.hn T.htk T.hm)
theorem kit_self {K : PySem.W.Frag} (v : Value) : PySem.W.kitOne K v v = some true := by
  unfold PySem.W.kitOne
  rw [if_pos (beq_self_eq_true v)]
/-- an error class of the program without __init__ -/
structure ExC (K : PySem.W.Frag) (mg : Str → Option Value) (nm : Str) (C : Addr) : Prop where
  x : PySem.W.excIn K C [.type "ValueError", .type "Exception", .type "BaseException", .type "object"] "ValueError.__new__" = true
  g : mg nm = some (.ref C)
  k : PySem.W.keepIn K (.ref C) = true
  b : PySem.W.subIn K (.ref C) (.type "BaseException") = some true
  t : PySem.W.typeIn K (.ref C) = some (.type "type")
  s : PySem.W.subIn K (.ref C) (.ref C) = some true
  e : ExcC K C
theorem ExC.exm {K : PySem.W.Frag} {mg : Str → Option Value} {x : Str} {C : Addr} (T : ExC K mg x C) : PySem.W.exmOne K (.ref C) (.ref C) = some true := exm_self T.b T.e.hd T.t T.s
theorem beq_ref_ne {a b : Addr} (h : a ≠ b) : (Value.ref a == Value.ref b) = false := by
  rw [beq_eq_false_iff_ne]
  intro e
  injection e with e
  exact h e
end Fl

set_option Elab.async false
set_option linter.all false
set_option maxRecDepth 100000
set_option maxHeartbeats 4000000
namespace Fl
open PySem PySem.Spec PyProof.Rows L2
/-! ### the error with a name and a value -/
structure BnC (K : PySem.W.Frag) (mg : Str → Option Value) (C : Addr) : Prop where
  o : OexC K C
  g : mg "BadNumber" = some (.ref C)
  nN : PySem.W.findIn K (.ref C) "name" = some none
  nV : PySem.W.findIn K (.ref C) "value" = some none
  e : ExcC K C
  s : PySem.W.subIn K (.ref C) (.ref C) = some true
theorem BnC.exm {K : PySem.W.Frag} {mg : Str → Option Value} {C : Addr} (T : BnC K mg C) : PySem.W.exmOne K (.ref C) (.ref C) = some true := exm_self T.o.exC T.e.hd T.o.tyC T.s
theorem BnC.xf {K : PySem.W.Frag} {mg : Str → Option Value} {C : Addr} (T : BnC K mg C) : XfC K C := ⟨T.e.hg, T.e.hk, T.e.hs, T.e.hd⟩
def bnf (n v : V) : List (Str × V) := [("value", v), ("name", n)]
theorem nv : ¬ (("name" : Str) = "value") := by decide +kernel
theorem look_ne {f g : Str} {v : V} {fs : List (Str × V)} (h : ¬ f = g) : List.lookup f ((g, v) :: fs) = List.lookup f fs := by
  have e : (f == g) = false := by simpa using h
  rw [List.lookup_cons, e]
theorem look_eq {f : Str} {v : V} {fs : List (Str × V)} : List.lookup f ((f, v) :: fs) = some v := by
  rw [List.lookup_cons, beq_self_eq_true]
theorem bnf_name (n v : V) : (bnf n v).lookup ("name" : Str) = some n := by
  unfold bnf
  rw [look_ne nv, look_eq]
theorem bnf_value (n v : V) : (bnf n v).lookup ("value" : Str) = some v := look_eq
def spBN (C : Addr) : Sp := fun vs H Q _ => ∃ (a : Addr) (n v : V), vs = [.ref a, n, v] ∧ H a = some (exo a C none) ∧ ∀ (dx : Addr), H dx = none → dx ≠ a → Q .non (upd (upd (upd H dx (exd dx [("name", n)])) a (exo a C (some dx))) dx (exd dx (bnf n v)))
structure CalE (P : Program) (w : World) (K : PySem.W.Frag) (mg : Str → Option Value) (base : Heap) (k : Nat) (C : Addr) : Prop where
  ex : ∃ (fI : Addr) (fd : FuncData), PySem.W.findIn K (.ref C) "__init__" = some (some (.ref fI)) ∧ PySem.W.typeIn K (.ref fI) = some (.type "function") ∧ FnOk P w K mg base CX0 k fI fd ["self", "name", "value"] (spBN C) ∧ Binds K fd ["self", "name", "value"] []
theorem pmk_bn {X : Cx} {k : Nat} {C : Addr} {p pos : Pos} {e : Expr} {es : List Expr} {ta : TA} (T : BnC X.K X.mg C) (B : CalE X.prog X.w X.K X.mg X.base k C) (hr : Room (k + 1) X.A) (ha : PA X (e :: es) ta) (hg : Gl X "BadNumber" := by rfl)
    (he : starEach (e :: es) X.env = (false, eval e X.env) :: starEach es X.env := by rfl) (hpl : (backTo pos (starEach es X.env)).any (·.1) = false := by rfl) : PMk X (.Call (.Name "BadNumber" p) (e :: es) [] pos) (tMkO C (spBN C) [] ta) := by
  obtain ⟨fI, fd, iC, tI, F, b⟩ := B.ex
  exact pmk_oex T.o iC tI F hr b .nil (fun _ _ _ _ _ _ _ h => h.elim) hg T.g ha (by decide +kernel) he hpl
/-- what is wished where BadNumber(n, v) leaves -/
def Ref (E : XK) (C : Addr) (H : Hp) (n : Str) (v : Int) : Prop := ∀ (d : Addr) (H' : Hp), Same H H' → H d = none → H' d = some (.xd (bnf (.str n) (.int v))) → E (.ref C) (some d) H'
theorem Ref.same {E : XK} {C : Addr} {H H1 : Hp} {n : Str} {v : Int} (h : Ref E C H n v) (s : Same H H1) : Ref E C H1 n v := fun d H' s' hd he => h d H' (s.trans s') (s.free hd) he
theorem bn_made {C : Addr} {n : Str} {v : Int} {H : Hp} {Q : XK} (k : Ref Q C H n v) : [V.str n, V.int v].length ≤ 1000 ∧ ∀ a, H a = none → spBN C (.ref a :: ([V.str n, V.int v] ++ [])) (upd H a (exo a C none))
    (fun z H2 => z = .non ∧ ∃ (d : Addr) (fs : List (Str × V)), H2 a = some (exo a C (some d)) ∧ H2 d = some (exd d fs) ∧ H d = none ∧ Q (.ref C) (some d) (upd (del H2 a) d (.xd fs))) (fun _ _ _ => False) := by
  refine ⟨(show 2 ≤ 1000 by decide), fun a ha => ⟨a, .str n, .int v, rfl, upd_same, fun dx hdx hne => ⟨rfl, dx, bnf (.str n) (.int v), ?_, upd_same, ?_, ?_⟩⟩⟩
  · rw [upd_ne (Ne.symm hne), upd_same]
  · rw [upd_ne hne] at hdx
    exact hdx
  · rw [upd_ne hne] at hdx
    refine k dx _ (fun b o e => ?_) hdx upd_same
    have h1 : b ≠ a := ne_of_none e ha
    have h2 : b ≠ dx := ne_of_none e hdx
    rw [upd_ne h2, del_ne h1, upd_ne h2, upd_ne h1, upd_ne h2, upd_ne h1]
    exact e
end Fl

set_option Elab.async false
set_option linter.all false
set_option maxRecDepth 100000
set_option maxHeartbeats 4000000
namespace Fl
/-! ### the sum of the whole parts of (a i + b) / m, i below n -/
def fs (m a b : Nat) : Nat → Nat
  | 0 => 0
  | n + 1 => fs m a b n + (a * n + b) / m
theorem tri_succ (n : Nat) : (n + 1) * n / 2 = n * (n - 1) / 2 + n := by
  cases n with
  | zero => rfl
  | succ k =>
    have e : (k + 1 + 1) * (k + 1) = (k + 1) * (k + 1 - 1) + 2 * (k + 1) := by
      rw [Nat.add_sub_cancel, show k + 1 + 1 = k + 2 from rfl, Nat.add_mul, Nat.mul_comm k (k + 1)]
    rw [e, Nat.add_mul_div_left _ _ (by decide)]
theorem fs_split {m : Nat} (hm : 0 < m) (a b : Nat) : ∀ n : Nat, fs m a b n = n * (n - 1) / 2 * (a / m) + n * (b / m) + fs m (a % m) (b % m) n
  | 0 => by simp [fs]
  | n + 1 => by
    have ih := fs_split hm a b n
    have e : (a * n + b) / m = n * (a / m) + b / m + ((a % m) * n + b % m) / m := by
      have e1 : a * n + b = (a % m * n + b % m) + m * (n * (a / m) + b / m) := by
        have h1 := Nat.mod_add_div a m
        have h2 := Nat.mod_add_div b m
        calc a * n + b = (a % m + m * (a / m)) * n + (b % m + m * (b / m)) := by rw [h1, h2]
          _ = (a % m * n + b % m) + m * (n * (a / m) + b / m) := by
            rw [Nat.add_mul, Nat.mul_add, Nat.mul_assoc, Nat.mul_comm (a / m) n]
            omega
      rw [e1, Nat.add_mul_div_left _ _ hm]
      omega
    show fs m a b n + (a * n + b) / m = (n + 1) * (n + 1 - 1) / 2 * (a / m) + (n + 1) * (b / m) + (fs m (a % m) (b % m) n + (a % m * n + b % m) / m)
    rw [Nat.add_sub_cancel, tri_succ, ih, e, Nat.add_mul, Nat.add_mul]
    omega
theorem fs_up {a m r : Nat} (ha : 0 < a) : ∀ k : Nat, fs a m (r + a) k = fs a m r k + k
  | 0 => rfl
  | k + 1 => by
    have ih := fs_up (m := m) (r := r) ha k
    show fs a m (r + a) k + (m * k + (r + a)) / a = fs a m r k + (m * k + r) / a + (k + 1)
    rw [ih, ← Nat.add_assoc, Nat.add_div_right _ ha]
    omega
theorem fs_shift {a m r : Nat} : ∀ k : Nat, fs a m r (k + 1) = r / a + fs a m (r + m) k
  | 0 => by
    show 0 + (m * 0 + r) / a = r / a + 0
    rw [Nat.mul_zero, Nat.zero_add, Nat.zero_add, Nat.add_zero]
  | k + 1 => by
    have ih := fs_shift (a := a) (m := m) (r := r) k
    show fs a m r (k + 1) + (m * (k + 1) + r) / a = r / a + (fs a m (r + m) k + (m * k + (r + m)) / a)
    rw [ih, Nat.mul_add, Nat.mul_one, Nat.add_assoc (m * k), Nat.add_comm m r]
    omega
theorem fs_swap {m a b : Nat} (ham : a < m) (hbm : b < m) (ha : 0 < a) : ∀ n : Nat, fs m a b n = fs a m ((a * n + b) % m) ((a * n + b) / m)
  | 0 => by
    have e : (a * 0 + b) / m = 0 := by
      rw [Nat.mul_zero, Nat.zero_add]
      exact Nat.div_eq_of_lt hbm
    rw [e]
    rfl
  | n + 1 => by
    have hm : 0 < m := by omega
    have ih := fs_swap ham hbm ha n
    show fs m a b n + (a * n + b) / m = _
    rw [ih]
    have hr := Nat.mod_lt (a * n + b) hm
    have hd := Nat.mod_add_div (a * n + b) m
    generalize hR : (a * n + b) % m = r at *
    generalize hK : (a * n + b) / m = K at *
    have e : a * (n + 1) + b = m * K + (r + a) := by
      rw [Nat.mul_add, Nat.mul_one]
      omega
    rw [e, Nat.mul_add_mod, Nat.mul_add_div hm]
    by_cases hc : r + a < m
    · rw [Nat.mod_eq_of_lt hc, Nat.div_eq_of_lt hc, Nat.add_zero, fs_up ha]
    · have h1 : (r + a) / m = 1 := by
        rw [Nat.div_eq_sub_div hm (by omega), Nat.div_eq_of_lt (by omega)]
      have h2 : (r + a) % m = r + a - m := by
        rw [Nat.mod_eq_sub_mod (by omega), Nat.mod_eq_of_lt (by omega)]
      rw [h1, h2, fs_shift, Nat.div_eq_of_lt (by omega : r + a - m < a), show r + a - m + m = r + a by omega, fs_up ha]
      omega
theorem fs_zero {m b : Nat} (hbm : b < m) : ∀ n : Nat, fs m 0 b n = 0
  | 0 => rfl
  | n + 1 => by
    show fs m 0 b n + (0 * n + b) / m = 0
    rw [fs_zero hbm n, Nat.zero_mul, Nat.zero_add, Nat.zero_add, Nat.div_eq_of_lt hbm]
/-- one turn of Euclid's rule -/
theorem fs_turn {m : Nat} (hm : 0 < m) (a b n : Nat) : fs m a b n = n * (n - 1) / 2 * (a / m) + n * (b / m) + fs (a % m) m ((a % m * n + b % m) % m) ((a % m * n + b % m) / m) := by
  rw [fs_split hm]
  have h1 := Nat.mod_lt a hm
  have h2 := Nat.mod_lt b hm
  by_cases h0 : a % m = 0
  · rw [h0, Nat.zero_mul, Nat.zero_add, fs_zero h2, Nat.div_eq_of_lt h2]
    rfl
  · rw [fs_swap h1 h2 (by omega)]
theorem fs_tot {n m a b tot : Nat} (hn : 0 < n) : (tot : Int) + (n : Int) * ((n : Int) - 1) / 2 * ((a : Int) / (m : Int)) + (n : Int) * ((b : Int) / (m : Int)) = ((tot + n * (n - 1) / 2 * (a / m) + n * (b / m) : Nat) : Int) := by
  have e : (n : Int) - 1 = ((n - 1 : Nat) : Int) := by omega
  rw [e]
  simp only [Int.natCast_add, Int.natCast_mul, Int.natCast_ediv]
  rfl
theorem fs_many_le {n m a b : Nat} (hm : 0 < m) (hn : 0 < n) : (a % m * n + b % m) / m ≤ n := by
  have h1 := Nat.mod_lt a hm
  have h2 := Nat.mod_lt b hm
  have h3 : a % m * n ≤ (m - 1) * n := Nat.mul_le_mul_right n (by omega)
  have h4 : (m - 1) * n = m * n - n := by rw [Nat.sub_mul, Nat.one_mul]
  have h5 : n ≤ m * n := Nat.le_mul_of_pos_left n hm
  refine Nat.le_of_lt_succ (Nat.div_lt_of_lt_mul ?_)
  rw [Nat.mul_succ]
  omega
end Fl

set_option Elab.async false
set_option linter.all false
set_option maxRecDepth 100000
set_option maxHeartbeats 4000000
set_option pp.maxSteps 160
set_option pp.deepTerms false
namespace L
open PySem PySem.Spec PyProof.Rows L2 Fl
local macro_rules | `(tactic| walk_at "side") => `(tactic| first | (exact .inl ⟨by omega, by omega⟩) | (exact .inr ⟨by omega, by omega⟩) | (exact .inr ⟨by decide, by decide⟩) | (show (_ : Int) ≠ _; omega) | (exact ⟨by omega, by decide⟩) | (exact ⟨by decide, by decide, by decide⟩))
local macro_rules | `(tactic| walk_at "go") => `(tactic| repeat (first | refine ⟨_, rfl, ?_⟩ | refine ⟨_, _, rfl, rfl, ?_⟩ | refine .inl ⟨_, rfl, ?_⟩ | refine ⟨rfl, ?_⟩ | refine ⟨(by walk_at "side"), ?_⟩))
local macro_rules | `(tactic| walk_at "see") => `(tactic| (set_option pp.maxSteps 110 in set_option pp.deepTerms false in trace_state))
local macro_rules | `(tactic| walk_at "if") => `(tactic| first | refine ifE ?_ ?_ | refine ifNE ?_ ?_ | refine ifD ?_ ?_ | refine ifN ?_ ?_ | refine ifB ?_ ?_)
def topS (i : Nat) : Stmt := PySem.Challenge.pw_fieldlots_k07_run_gain_and_ties.main.body.getD i (.Pass ⟨0, 0, 0, 0⟩)
abbrev s_wall : Stmt := topS 1
theorem sc_wall : FnScope ["k"] ["k"] (defScope s_wall) := ⟨rfl, rfl, rfl, by decide +kernel, rfl, by decide +kernel, by decide +kernel⟩
abbrev s_BadNumber_init : Stmt := inClass (topS 5) 0
theorem sc_BadNumber_init : FnScope ["self", "name", "value"] ["self", "name", "value"] (defScope s_BadNumber_init) := ⟨rfl, rfl, rfl, by decide +kernel, rfl, by decide +kernel, by decide +kernel⟩
abbrev s_check_ties : Stmt := topS 8
theorem sc_check_ties : FnScope ["ties"] ["ties"] (defScope s_check_ties) := ⟨rfl, rfl, rfl, by decide +kernel, rfl, by decide +kernel, by decide +kernel⟩
abbrev s_is_number : Stmt := topS 11
theorem sc_is_number : FnScope ["value"] ["value"] (defScope s_is_number) := ⟨rfl, rfl, rfl, by decide +kernel, rfl, by decide +kernel, by decide +kernel⟩
abbrev s_as_ratio : Stmt := topS 12
theorem sc_as_ratio : FnScope ["number"] ["number"] (defScope s_as_ratio) := ⟨rfl, rfl, rfl, by decide +kernel, rfl, by decide +kernel, by decide +kernel⟩
abbrev s_top_of : Stmt := topS 13
theorem sc_top_of : FnScope ["number"] ["number"] (defScope s_top_of) := ⟨rfl, rfl, rfl, by decide +kernel, rfl, by decide +kernel, by decide +kernel⟩
abbrev s_under_of : Stmt := topS 14
theorem sc_under_of : FnScope ["number"] ["number"] (defScope s_under_of) := ⟨rfl, rfl, rfl, by decide +kernel, rfl, by decide +kernel, by decide +kernel⟩
abbrev s_rounded_quotient : Stmt := topS 15
theorem sc_rounded_quotient : FnScope ["number", "divisor", "under"] ["number", "divisor"] (defScope s_rounded_quotient) := ⟨rfl, rfl, rfl, by decide +kernel, rfl, by decide +kernel, by decide +kernel⟩
abbrev s_remainder : Stmt := topS 16
theorem sc_remainder : FnScope ["number", "divisor"] ["number", "divisor"] (defScope s_remainder) := ⟨rfl, rfl, rfl, by decide +kernel, rfl, by decide +kernel, by decide +kernel⟩
abbrev s_Ratio_init : Stmt := inClass (topS 17) 0
theorem sc_Ratio_init : FnScope ["self", "top", "under", "shared"] ["self", "top", "under"] (defScope s_Ratio_init) := ⟨rfl, rfl, rfl, by decide +kernel, rfl, by decide +kernel, by decide +kernel⟩
abbrev s_Ratio_whole : Stmt := inClass (topS 17) 1
theorem sc_Ratio_whole : FnScope ["self"] ["self"] (defScope s_Ratio_whole) := ⟨rfl, rfl, rfl, by decide +kernel, rfl, by decide +kernel, by decide +kernel⟩
abbrev s_Ratio_floor : Stmt := inClass (topS 17) 2
theorem sc_Ratio_floor : FnScope ["self"] ["self"] (defScope s_Ratio_floor) := ⟨rfl, rfl, rfl, by decide +kernel, rfl, by decide +kernel, by decide +kernel⟩
abbrev s_Ratio_ceiling : Stmt := inClass (topS 17) 3
theorem sc_Ratio_ceiling : FnScope ["self"] ["self"] (defScope s_Ratio_ceiling) := ⟨rfl, rfl, rfl, by decide +kernel, rfl, by decide +kernel, by decide +kernel⟩
abbrev s_Ratio_over : Stmt := inClass (topS 17) 4
theorem sc_Ratio_over : FnScope ["self", "number"] ["self", "number"] (defScope s_Ratio_over) := ⟨rfl, rfl, rfl, by decide +kernel, rfl, by decide +kernel, by decide +kernel⟩
abbrev s_Ratio_power : Stmt := inClass (topS 17) 5
theorem sc_Ratio_power : FnScope ["self", "n", "top", "under", "_"] ["self", "n"] (defScope s_Ratio_power) := ⟨rfl, rfl, rfl, by decide +kernel, rfl, by decide +kernel, by decide +kernel⟩
abbrev s_Ratio_str : Stmt := inClass (topS 17) 6
theorem sc_Ratio_str : FnScope ["self"] ["self"] (defScope s_Ratio_str) := ⟨rfl, rfl, rfl, by decide +kernel, rfl, by decide +kernel, by decide +kernel⟩
abbrev s_Ratio_bool : Stmt := inClass (topS 17) 7
theorem sc_Ratio_bool : FnScope ["self"] ["self"] (defScope s_Ratio_bool) := ⟨rfl, rfl, rfl, by decide +kernel, rfl, by decide +kernel, by decide +kernel⟩
abbrev s_Ratio_neg : Stmt := inClass (topS 17) 8
theorem sc_Ratio_neg : FnScope ["self"] ["self"] (defScope s_Ratio_neg) := ⟨rfl, rfl, rfl, by decide +kernel, rfl, by decide +kernel, by decide +kernel⟩
abbrev s_Ratio_abs : Stmt := inClass (topS 17) 9
theorem sc_Ratio_abs : FnScope ["self"] ["self"] (defScope s_Ratio_abs) := ⟨rfl, rfl, rfl, by decide +kernel, rfl, by decide +kernel, by decide +kernel⟩
abbrev s_Ratio_add : Stmt := inClass (topS 17) 10
theorem sc_Ratio_add : FnScope ["self", "other", "top"] ["self", "other"] (defScope s_Ratio_add) := ⟨rfl, rfl, rfl, by decide +kernel, rfl, by decide +kernel, by decide +kernel⟩
abbrev s_Ratio_radd : Stmt := inClass (topS 17) 11
theorem sc_Ratio_radd : FnScope ["self", "other"] ["self", "other"] (defScope s_Ratio_radd) := ⟨rfl, rfl, rfl, by decide +kernel, rfl, by decide +kernel, by decide +kernel⟩
abbrev s_Ratio_sub : Stmt := inClass (topS 17) 12
theorem sc_Ratio_sub : FnScope ["self", "other", "top"] ["self", "other"] (defScope s_Ratio_sub) := ⟨rfl, rfl, rfl, by decide +kernel, rfl, by decide +kernel, by decide +kernel⟩
abbrev s_Ratio_rsub : Stmt := inClass (topS 17) 13
theorem sc_Ratio_rsub : FnScope ["self", "other"] ["self", "other"] (defScope s_Ratio_rsub) := ⟨rfl, rfl, rfl, by decide +kernel, rfl, by decide +kernel, by decide +kernel⟩
abbrev s_Ratio_mul : Stmt := inClass (topS 17) 14
theorem sc_Ratio_mul : FnScope ["self", "other"] ["self", "other"] (defScope s_Ratio_mul) := ⟨rfl, rfl, rfl, by decide +kernel, rfl, by decide +kernel, by decide +kernel⟩
abbrev s_Ratio_rmul : Stmt := inClass (topS 17) 15
theorem sc_Ratio_rmul : FnScope ["self", "other"] ["self", "other"] (defScope s_Ratio_rmul) := ⟨rfl, rfl, rfl, by decide +kernel, rfl, by decide +kernel, by decide +kernel⟩
abbrev s_Ratio_floordiv : Stmt := inClass (topS 17) 16
theorem sc_Ratio_floordiv : FnScope ["self", "other"] ["self", "other"] (defScope s_Ratio_floordiv) := ⟨rfl, rfl, rfl, by decide +kernel, rfl, by decide +kernel, by decide +kernel⟩
abbrev s_Ratio_rfloordiv : Stmt := inClass (topS 17) 17
theorem sc_Ratio_rfloordiv : FnScope ["self", "other"] ["self", "other"] (defScope s_Ratio_rfloordiv) := ⟨rfl, rfl, rfl, by decide +kernel, rfl, by decide +kernel, by decide +kernel⟩
abbrev s_Ratio_mod : Stmt := inClass (topS 17) 18
theorem sc_Ratio_mod : FnScope ["self", "other"] ["self", "other"] (defScope s_Ratio_mod) := ⟨rfl, rfl, rfl, by decide +kernel, rfl, by decide +kernel, by decide +kernel⟩
abbrev s_Ratio_rmod : Stmt := inClass (topS 17) 19
theorem sc_Ratio_rmod : FnScope ["self", "other"] ["self", "other"] (defScope s_Ratio_rmod) := ⟨rfl, rfl, rfl, by decide +kernel, rfl, by decide +kernel, by decide +kernel⟩
abbrev s_Ratio_pow : Stmt := inClass (topS 17) 20
theorem sc_Ratio_pow : FnScope ["self", "other"] ["self", "other"] (defScope s_Ratio_pow) := ⟨rfl, rfl, rfl, by decide +kernel, rfl, by decide +kernel, by decide +kernel⟩
abbrev s_Ratio_eq : Stmt := inClass (topS 17) 21
theorem sc_Ratio_eq : FnScope ["self", "other"] ["self", "other"] (defScope s_Ratio_eq) := ⟨rfl, rfl, rfl, by decide +kernel, rfl, by decide +kernel, by decide +kernel⟩
abbrev s_Ratio_lt : Stmt := inClass (topS 17) 22
theorem sc_Ratio_lt : FnScope ["self", "other"] ["self", "other"] (defScope s_Ratio_lt) := ⟨rfl, rfl, rfl, by decide +kernel, rfl, by decide +kernel, by decide +kernel⟩
abbrev s_Ratio_le : Stmt := inClass (topS 17) 23
theorem sc_Ratio_le : FnScope ["self", "other"] ["self", "other"] (defScope s_Ratio_le) := ⟨rfl, rfl, rfl, by decide +kernel, rfl, by decide +kernel, by decide +kernel⟩
abbrev s_Ratio_gt : Stmt := inClass (topS 17) 24
theorem sc_Ratio_gt : FnScope ["self", "other"] ["self", "other"] (defScope s_Ratio_gt) := ⟨rfl, rfl, rfl, by decide +kernel, rfl, by decide +kernel, by decide +kernel⟩
abbrev s_Ratio_ge : Stmt := inClass (topS 17) 25
theorem sc_Ratio_ge : FnScope ["self", "other"] ["self", "other"] (defScope s_Ratio_ge) := ⟨rfl, rfl, rfl, by decide +kernel, rfl, by decide +kernel, by decide +kernel⟩
abbrev s_Run_init : Stmt := inClass (topS 20) 0
theorem sc_Run_init : FnScope ["self", "first", "step", "count"] ["self", "first", "step", "count"] (defScope s_Run_init) := ⟨rfl, rfl, rfl, by decide +kernel, rfl, by decide +kernel, by decide +kernel⟩
abbrev s_Run_point : Stmt := inClass (topS 20) 1
theorem sc_Run_point : FnScope ["cls", "k"] ["cls", "k"] (defScope s_Run_point) := ⟨rfl, rfl, rfl, by decide +kernel, rfl, by decide +kernel, by decide +kernel⟩
abbrev s_Run_odd : Stmt := inClass (topS 20) 2
theorem sc_Run_odd : FnScope ["cls", "m"] ["cls", "m"] (defScope s_Run_odd) := ⟨rfl, rfl, rfl, by decide +kernel, rfl, by decide +kernel, by decide +kernel⟩
abbrev s_Run_even : Stmt := inClass (topS 20) 3
theorem sc_Run_even : FnScope ["cls", "m"] ["cls", "m"] (defScope s_Run_even) := ⟨rfl, rfl, rfl, by decide +kernel, rfl, by decide +kernel, by decide +kernel⟩
abbrev s_Run_between : Stmt := inClass (topS 20) 4
theorem sc_Run_between : FnScope ["cls", "low", "high"] ["cls", "low", "high"] (defScope s_Run_between) := ⟨rfl, rfl, rfl, by decide +kernel, rfl, by decide +kernel, by decide +kernel⟩
abbrev s_Run_last : Stmt := inClass (topS 20) 5
theorem sc_Run_last : FnScope ["self"] ["self"] (defScope s_Run_last) := ⟨rfl, rfl, rfl, by decide +kernel, rfl, by decide +kernel, by decide +kernel⟩
abbrev s_Run_mean : Stmt := inClass (topS 20) 6
theorem sc_Run_mean : FnScope ["self"] ["self"] (defScope s_Run_mean) := ⟨rfl, rfl, rfl, by decide +kernel, rfl, by decide +kernel, by decide +kernel⟩
abbrev s_Run_strengths : Stmt := inClass (topS 20) 7
abbrev s_Run_parted : Stmt := inClass (topS 20) 8
theorem sc_Run_parted : FnScope ["self", "n"] ["self", "n"] (defScope s_Run_parted) := ⟨rfl, rfl, rfl, by decide +kernel, rfl, by decide +kernel, by decide +kernel⟩
abbrev s_Run_below : Stmt := inClass (topS 20) 9
theorem sc_Run_below : FnScope ["self", "k"] ["self", "k"] (defScope s_Run_below) := ⟨rfl, rfl, rfl, by decide +kernel, rfl, by decide +kernel, by decide +kernel⟩
abbrev s_Run_above : Stmt := inClass (topS 20) 10
theorem sc_Run_above : FnScope ["self", "k"] ["self", "k"] (defScope s_Run_above) := ⟨rfl, rfl, rfl, by decide +kernel, rfl, by decide +kernel, by decide +kernel⟩
abbrev s_Run_chance : Stmt := inClass (topS 20) 11
theorem sc_Run_chance : FnScope ["self", "k"] ["self", "k"] (defScope s_Run_chance) := ⟨rfl, rfl, rfl, by decide +kernel, rfl, by decide +kernel, by decide +kernel⟩
abbrev s_Run_gain : Stmt := inClass (topS 20) 12
theorem sc_Run_gain : FnScope ["self", "k", "ties"] ["self", "k", "ties"] (defScope s_Run_gain) := ⟨rfl, rfl, rfl, by decide +kernel, rfl, by decide +kernel, by decide +kernel⟩
abbrev s_Run_contains : Stmt := inClass (topS 20) 13
theorem sc_Run_contains : FnScope ["self", "x"] ["self", "x"] (defScope s_Run_contains) := ⟨rfl, rfl, rfl, by decide +kernel, rfl, by decide +kernel, by decide +kernel⟩
abbrev s_Run_getitem : Stmt := inClass (topS 20) 14
theorem sc_Run_getitem : FnScope ["self", "at"] ["self", "at"] (defScope s_Run_getitem) := ⟨rfl, rfl, rfl, by decide +kernel, rfl, by decide +kernel, by decide +kernel⟩
abbrev s_Run_iter : Stmt := inClass (topS 20) 15
theorem sc_Run_iter : FnScope ["self"] ["self"] (defScope s_Run_iter) := ⟨rfl, rfl, rfl, by decide +kernel, rfl, by decide +kernel, by decide +kernel⟩
abbrev s_Run_add : Stmt := inClass (topS 20) 16
theorem sc_Run_add : FnScope ["self", "other"] ["self", "other"] (defScope s_Run_add) := ⟨rfl, rfl, rfl, by decide +kernel, rfl, by decide +kernel, by decide +kernel⟩
abbrev s_Run_eq : Stmt := inClass (topS 20) 17
theorem sc_Run_eq : FnScope ["self", "other"] ["self", "other"] (defScope s_Run_eq) := ⟨rfl, rfl, rfl, by decide +kernel, rfl, by decide +kernel, by decide +kernel⟩
abbrev s_lead : Stmt := topS 21
theorem sc_lead : FnScope ["run", "k", "ties", "greater", "less"] ["run", "k", "ties"] (defScope s_lead) := ⟨rfl, rfl, rfl, by decide +kernel, rfl, by decide +kernel, by decide +kernel⟩
abbrev s_pool : Stmt := topS 23
theorem sc_pool : FnScope ["_law_script", "_law_cell"] ["_law_script"] (defScope s_pool) := ⟨rfl, rfl, rfl, by decide +kernel, rfl, by decide +kernel, by decide +kernel⟩
abbrev s_mix : Stmt := topS 24
theorem sc_mix : FnScope ["_law_state", "_law_turn", "_law_many", "_law_first", "_law_second"] ["_law_state", "_law_turn", "_law_many"] (defScope s_mix) := ⟨rfl, rfl, rfl, by decide +kernel, rfl, by decide +kernel, by decide +kernel⟩
abbrev s_draw : Stmt := topS 25
theorem sc_draw : FnScope ["_law_pool_here", "_law_many", "_law_spare", "_law_found", "_law_cell"] ["_law_pool_here", "_law_many"] (defScope s_draw) := ⟨rfl, rfl, rfl, by decide +kernel, rfl, by decide +kernel, by decide +kernel⟩
abbrev s_wide : Stmt := topS 26
theorem sc_wide : FnScope ["_law_pool_here", "_law_size", "_law_many", "_law_found", "_law_spare"] ["_law_pool_here"] (defScope s_wide) := ⟨rfl, rfl, rfl, by decide +kernel, rfl, by decide +kernel, by decide +kernel⟩
abbrev s_any : Stmt := topS 27
theorem sc_any : FnScope ["_law_pool_here", "_law_cell"] ["_law_pool_here"] (defScope s_any) := ⟨rfl, rfl, rfl, by decide +kernel, rfl, by decide +kernel, by decide +kernel⟩
abbrev s_whole : Stmt := topS 28
theorem sc_whole : FnScope ["_law_actual"] ["_law_actual"] (defScope s_whole) := ⟨rfl, rfl, rfl, by decide +kernel, rfl, by decide +kernel, by decide +kernel⟩
abbrev s_ratio : Stmt := topS 29
theorem sc_ratio : FnScope ["_law_actual"] ["_law_actual"] (defScope s_ratio) := ⟨rfl, rfl, rfl, by decide +kernel, rfl, by decide +kernel, by decide +kernel⟩
abbrev s_same : Stmt := topS 30
theorem sc_same : FnScope ["_law_actual", "_law_due"] ["_law_actual", "_law_due"] (defScope s_same) := ⟨rfl, rfl, rfl, by decide +kernel, rfl, by decide +kernel, by decide +kernel⟩
abbrev s_great_run : Stmt := topS 31
theorem sc_great_run : FnScope ["_law_pool_here", "_law_first", "_law_count", "_law_step"] ["_law_pool_here"] (defScope s_great_run) := ⟨rfl, rfl, rfl, by decide +kernel, rfl, by decide +kernel, by decide +kernel⟩
abbrev s_last : Stmt := topS 32
theorem sc_last : FnScope ["_law_row"] ["_law_row"] (defScope s_last) := ⟨rfl, rfl, rfl, by decide +kernel, rfl, by decide +kernel, by decide +kernel⟩
abbrev s_beside : Stmt := topS 33
theorem sc_beside : FnScope ["_law_pool_here", "_law_row", "_law_way"] ["_law_pool_here", "_law_row"] (defScope s_beside) := ⟨rfl, rfl, rfl, by decide +kernel, rfl, by decide +kernel, by decide +kernel⟩
abbrev s_held : Stmt := topS 34
theorem sc_held : FnScope ["_law_run", "_law_row"] ["_law_run", "_law_row"] (defScope s_held) := ⟨rfl, rfl, rfl, by decide +kernel, rfl, by decide +kernel, by decide +kernel⟩
abbrev s_upto : Stmt := topS 35
theorem sc_upto : FnScope ["_law_row", "_law_y"] ["_law_row", "_law_y"] (defScope s_upto) := ⟨rfl, rfl, rfl, by decide +kernel, rfl, by decide +kernel, by decide +kernel⟩
abbrev s_won : Stmt := topS 36
theorem sc_won : FnScope ["_law_row", "_law_y", "_law_rule", "_law_most", "_law_less"] ["_law_row", "_law_y", "_law_rule"] (defScope s_won) := ⟨rfl, rfl, rfl, by decide +kernel, rfl, by decide +kernel, by decide +kernel⟩
abbrev s_rule_refused : Stmt := topS 37
theorem sc_rule_refused : FnScope ["_law_run", "_law_rule", "_law_found", "e"] ["_law_run", "_law_rule"] (defScope s_rule_refused) := ⟨rfl, rfl, rfl, by decide +kernel, rfl, by decide +kernel, by decide +kernel⟩
abbrev s_gains : Stmt := topS 38
theorem sc_gains : FnScope ["_law_run", "_law_row", "_law_k", "_law_rule"] ["_law_run", "_law_row", "_law_k"] (defScope s_gains) := ⟨rfl, rfl, rfl, by decide +kernel, rfl, by decide +kernel, by decide +kernel⟩
abbrev s_law : Stmt := topS 39
theorem sc_law : FnScope ["_law_script", "_law_pool_here", "_law_rows", "_law_runs", "_law_row", "_law_low", "_law_high", "_law_bad", "_law_run", "_law_k", "_law_index"] ["_law_script"] (defScope s_law) := ⟨rfl, rfl, rfl, by decide +kernel, rfl, by decide +kernel, by decide +kernel⟩
section
variable {P : Program} {w : World} {K : PySem.W.Frag} {mg : Str → Option Value} {base : Heap}

def spMix : Sp := fun vs H Q _ => ∃ (s t m : Int), vs = [.int s, .int t, .int m] ∧ 2 ≤ m ∧ m < 1073741824 ∧ ∀ r : Int, 0 ≤ r → r < m → Q (.int r) H
abbrev CalMix (P : Program) (w : World) (K : PySem.W.Frag) (mg : Str → Option Value) (base : Heap) := Cal P w K mg base 1 "_law_mix" ["_law_state", "_law_turn", "_law_many"] spMix
theorem ok_mix (B : Blt mg) (D : Dfn K mg "_law_mix" "_law_mix" s_mix ["_law_state", "_law_turn", "_law_many"]) : CalMix P w K mg base := by
  refine D.cal sc_mix (fun vs H Q E h => ?_) (fun f cdv A outer st H vs Q E hr h => ?_)
  · obtain ⟨s, t, m, rfl, _⟩ := h
    rfl
  · obtain ⟨s, t, m, rfl, h2, h3, q⟩ := h
    refine ⟨_, (pss_cons (ps_set (i := 3) sc_mix.nd rfl (Or.inl rfl) (pe_op op_modN (pe_callTy call_int1 (by rfl) B.int (by decide +kernel) (pa_cons (pe_op op_add (pe_op op_add (pe_op op_mul (pv 0) (pe_int)) (pe_op op_mul (pv 1) (pe_int))) (pe_int)) pa_nil)) (pe_int)))
      (pss_cons (ps_set (i := 4) sc_mix.nd rfl (Or.inl rfl) (pe_op op_modN (pe_callTy call_int1 (by rfl) B.int (by decide +kernel) (pa_cons (pe_op op_add (pe_op op_add (pe_op op_mul (pv 3) (pv 3)) (pe_op op_mul (pv 1) (pe_int))) (pv 0)) pa_nil)) (pe_int)))
      (pss_one (ps_ret (pe_op op_modN (pe_callTy call_int1 (by rfl) B.int (by decide +kernel) (pa_cons (pe_op op_fdivA (pv 4) (pe_int)) pa_nil)) (pv 2)))))), ?_⟩
    walk_at "go"
    have b1 := fm (s * 16807 + t * 7919 + 101) (show (0 : Int) < 2147483629 by decide)
    refine ⟨.inl ⟨by omega, by omega⟩, ?_⟩
    walk_at "go"
    have b2 := fm (((((s * 16807 + t * 7919 + 101).fmod 2147483629 * (s * 16807 + t * 7919 + 101).fmod 2147483629) + t * 104729 + s).fmod 2147483587).fdiv 11) (show (0 : Int) < m by omega)
    exact q _ b2.1 b2.2
def spDraw : Sp := fun vs H Q _ => ∃ (p : Pla) (m : Int), vs = [.ref p, .int m] ∧ Pool H p ∧ 2 ≤ m ∧ m < 1073741824 ∧ ∀ (r : Int) (H' : Hp), 0 ≤ r → r < m → Pool H' p → Keeps H H' p → Q (.int r) H'
abbrev CalDraw (P : Program) (w : World) (K : PySem.W.Frag) (mg : Str → Option Value) (base : Heap) := Cal P w K mg base 2 "_law_draw" ["_law_pool_here", "_law_many"] spDraw
theorem ok_draw (B : Blt mg) (D : Dfn K mg "_law_draw" "_law_draw" s_draw ["_law_pool_here", "_law_many"]) (C_mix : CalMix P w K mg base) : CalDraw P w K mg base := by
  refine D.cal sc_draw (fun vs H Q E h => ?_) (fun f cdv A outer st H vs Q E hr h => ?_)
  · obtain ⟨p, m, rfl, _⟩ := h
    rfl
  · obtain ⟨p, m, rfl, ⟨ns, i, b, c, d, hp, hq, hi, hqp⟩, h2, h3, k⟩ := h
    refine ⟨_, (pss_cons (ps_if (PW.pt (pw_or (pt_cmpR op_lt (pv 1) (pe_int) (nomark _)) (pw_or1 (pt_cmpR op_eq (pe_callB call_len_seq (by rfl) B.len PySem.boot_len (pa_cons (pe_ix ix_list (pv 0) (pe_int) (fun _ _ => rfl)) pa_nil)) (pe_int) (nomark _))))) (pss_one (ps_ret (pe_int))) pss_nil)
      (pss_cons (ps_asg (pe_op op_add (pe_ix ix_list (pv 0) (pe_int) (fun _ _ => rfl)) (pe_int)) (pg_sub (pv 0) (pe_int) set_list))
      (pss_cons (ps_for PassesOwn.never rfl (pi_range1 (by rfl) B.range (pa_cons (pe_int) pa_nil)) (pg_name (i := 2) sc_draw.nd rfl (Or.inl rfl)) (pss_cons (ps_if (pt_cmpR op_gt (pe_ix ix_list (pv 0) (pe_int) (fun _ _ => rfl)) (pe_int) (nomark _)) (pss_cons (ps_set (i := 3) sc_draw.nd rfl (Or.inl rfl) (pe_op op_modN (pe_callTy call_int1 (by rfl) B.int (by decide +kernel) (pa_cons (pe_ix ix_list (pv 0) (pe_int) (fun _ _ => rfl)) pa_nil)) (pv 1)))
      (pss_cons (ps_asg (pe_op op_fdivA (pe_ix ix_list (pv 0) (pe_int) (fun _ _ => rfl)) (pv 1)) (pg_sub (pv 0) (pe_int) set_list))
      (pss_one (ps_ret (pv 3))))) pss_nil)
      (pss_cons (ps_if (pt_cmpR op_ge (pe_ix ix_list (pv 0) (pe_int) (fun _ _ => rfl)) (pe_callB call_len_seq (by rfl) B.len PySem.boot_len (pa_cons (pe_ix ix_list (pv 0) (pe_int) (fun _ _ => rfl)) pa_nil)) (nomark _)) (pss_one (ps_ret (pe_cal C_mix (hr.mono (by decide)) (pa_cons (pe_ix ix_list (pv 0) (pe_int) (fun _ _ => rfl)) (pa_cons (pe_ix ix_list (pv 0) (pe_int) (fun _ _ => rfl)) (pa_cons (pv 1) pa_nil)))))) pss_nil)
      (pss_cons (ps_set (i := 4) sc_draw.nd rfl (Or.inl rfl) (pe_ix ix_list (pe_ix ix_list (pv 0) (pe_int) (fun _ _ => rfl)) (pe_ix ix_list (pv 0) (pe_int) (fun _ _ => rfl)) (fun _ _ => rfl)))
      (pss_cons (ps_asg (pe_op op_add (pe_ix ix_list (pv 0) (pe_int) (fun _ _ => rfl)) (pe_int)) (pg_sub (pv 0) (pe_int) set_list))
      (pss_cons (ps_asg (pe_op op_modN (pe_callTy call_int1 (by rfl) B.int (by decide +kernel) (pa_cons (pe_op op_add (pe_op op_add (pe_op op_mul (pe_ix ix_list (pv 0) (pe_int) (fun _ _ => rfl)) (pe_int)) (pe_op op_mul (pv 4) (pe_int))) (pe_int)) pa_nil)) (pe_int)) (pg_sub (pv 0) (pe_int) set_list))
      (pss_cons (ps_if (pt_cmpR op_lt (pv 4) (pe_op op_pow (pe_int) (pe_int)) (nomark _)) (pss_one (ps_ret (pe_cal C_mix (hr.mono (by decide)) (pa_cons (pe_ix ix_list (pv 0) (pe_int) (fun _ _ => rfl)) (pa_cons (pe_ix ix_list (pv 0) (pe_int) (fun _ _ => rfl)) (pa_cons (pv 1) pa_nil)))))) pss_nil)
      (pss_one (ps_asg (pe_op op_sub (pv 4) (pe_op op_pow (pe_int) (pe_int))) (pg_sub (pv 0) (pe_int) set_list))))))))))
      (pss_one (ps_ret (pe_cal C_mix (hr.mono (by decide)) (pa_cons (pe_ix ix_list (pv 0) (pe_int) (fun _ _ => rfl)) (pa_cons (pe_ix ix_list (pv 0) (pe_int) (fun _ _ => rfl)) (pa_cons (pv 1) pa_nil))))))))), ?_⟩
    walk_at "go"
    rw [decide_eq_false (by omega)]
    refine iteF ?_
    walk_at "go"
    refine ⟨_, _, _, _, rfl, rfl, SqL.of hp, rfl, ?_⟩
    refine ⟨_, _, rfl, .inl (SqL.of hq), ?_⟩
    walk_at "go"
    walk_at "if"
    · intro _
      walk_at "go"
      exact k 0 H (by omega) (by omega) ⟨ns, i, b, c, d, hp, hq, hi, hqp⟩ (Keeps.refl _ _)
    intro hlen
    refine ⟨_, rfl, _, _, _, _, rfl, rfl, SqL.of hp, rfl, ?_⟩
    walk_at "go"
    refine ⟨_, _, _, _, rfl, rfl, hp, rfl, ?_⟩
    refine ⟨64, rfl, by decide, by decide, for_range (n := 64) (fun _ σ H' => ∃ v2 v3 v4 : Option V, σ = [some (.ref (p : Addr)), some (.int m), v2, v3, v4] ∧ ∃ i b c d : Int, H' p = some (.lst [.ref p.q, .int i, .int b, .int c, .int d]) ∧ H' p.q = some (.lst (ns.map V.int)) ∧ 0 ≤ i ∧ Keeps H H' p)
      ⟨none, none, none, rfl, i, b, c, d + 1, upd_same, by rw [upd_ne hqp]; exact hq, hi, Keeps.upd⟩ ?_ ?_⟩
    · rintro j σ H1 hj ⟨v2, v3, v4, rfl, i, b, c, d, hp, hq, hi, hk⟩
      refine ⟨_, rfl, _, _, _, _, rfl, rfl, SqL.of hp, rfl, ?_⟩
      walk_at "go"
      walk_at "if"
      · intro hb
        refine ⟨_, rfl, _, _, _, _, rfl, rfl, SqL.of hp, rfl, ?_⟩
        walk_at "go"
        refine ⟨_, _, _, _, rfl, rfl, SqL.of hp, rfl, ?_⟩
        walk_at "go"
        refine ⟨divA (b := 30) (by omega) (by omega) (by decide) (by decide), ?_⟩
        walk_at "go"
        refine ⟨_, _, _, _, rfl, rfl, hp, rfl, ?_⟩
        walk_at "go"
        have b2 := fm b (show (0 : Int) < m by omega)
        exact k _ _ b2.1 b2.2 ⟨ns, i, _, c, d, upd_same, by rw [upd_ne hqp]; exact hq, hi, hqp⟩ (hk.trans Keeps.upd)
      · intro hb
        refine ⟨_, rfl, _, _, _, _, rfl, rfl, SqL.of hp, rfl, ?_⟩
        walk_at "go"
        refine ⟨_, _, _, _, rfl, rfl, SqL.of hp, rfl, ?_⟩
        refine ⟨_, _, rfl, .inl (SqL.of hq), ?_⟩
        walk_at "go"
        walk_at "if"
        · intro hl
          refine ⟨_, rfl, _, _, _, _, rfl, rfl, SqL.of hp, rfl, ?_⟩
          refine ⟨_, rfl, _, _, _, _, rfl, rfl, SqL.of hp, rfl, ?_⟩
          walk_at "go"
          refine ⟨_, _, _, rfl, h2, h3, fun r r0 r1 => ?_⟩
          exact k _ _ r0 r1 ⟨ns, i, b, c, d, hp, hq, hi, hqp⟩ hk
        · intro hl
          have hl2 : i < (ns.length : Int) := by
            have hl' : ¬ ((ns.map V.int).length : Int) ≤ i := hl
            rw [List.length_map] at hl'
            omega
          obtain ⟨n, rfl⟩ : ∃ n : Nat, i = (n : Int) := ⟨i.toNat, by omega⟩
          have hn : n < ns.length := by omega
          refine ⟨_, rfl, _, _, _, _, rfl, rfl, SqL.of hp, rfl, ?_⟩
          refine ⟨_, rfl, _, _, _, _, rfl, rfl, SqL.of hp, rfl, ?_⟩
          refine ⟨_, _, _, _, rfl, rfl, SqL.of hq, atI_nat (ints_at hn), ?_⟩
          refine ⟨_, rfl, _, _, _, _, rfl, rfl, SqL.of hp, rfl, ?_⟩
          walk_at "go"
          refine ⟨_, _, _, _, rfl, rfl, hp, rfl, ?_⟩
          refine ⟨_, rfl, _, _, _, _, rfl, rfl, SqL.of upd_same, rfl, ?_⟩
          walk_at "go"
          refine ⟨_, _, _, _, rfl, rfl, upd_same, rfl, ?_⟩
          walk_at "go"
          walk_at "if"
          · intro hcell
            refine ⟨_, rfl, _, _, _, _, rfl, rfl, SqL.of upd_same, rfl, ?_⟩
            refine ⟨_, rfl, _, _, _, _, rfl, rfl, SqL.of upd_same, rfl, ?_⟩
            walk_at "go"
            refine ⟨_, _, _, rfl, h2, h3, fun r r0 r1 => ?_⟩
            exact k _ _ r0 r1 ⟨ns, _, b, _, d, upd_same, by rw [upd_ne hqp, upd_ne hqp]; exact hq, by omega, hqp⟩ ((hk.trans Keeps.upd).trans Keeps.upd)
          · intro hcell
            walk_at "go"
            refine ⟨_, _, _, _, rfl, rfl, upd_same, rfl, ?_⟩
            exact ⟨_, _, _, rfl, _, _, _, d, upd_same, by rw [upd_ne hqp, upd_ne hqp, upd_ne hqp]; exact hq, by omega, ((hk.trans Keeps.upd).trans Keeps.upd).trans Keeps.upd⟩
    · rintro σ H1 ⟨v2, v3, v4, rfl, i, b, c, d, hp, hq, hi, hk⟩
      refine ⟨_, rfl, _, _, _, _, rfl, rfl, SqL.of hp, rfl, ?_⟩
      refine ⟨_, rfl, _, _, _, _, rfl, rfl, SqL.of hp, rfl, ?_⟩
      walk_at "go"
      refine ⟨_, _, _, rfl, h2, h3, fun r r0 r1 => ?_⟩
      exact k _ _ r0 r1 ⟨ns, i, b, c, d, hp, hq, hi, hqp⟩ hk

theorem wide_ix {s : Int} (h0 : 3 ≤ s) (h1 : s < 6) : ∃ M : Int, atI [V.int 1, V.int 2, V.int 5] (s - 3) = some (V.int M) ∧ (M = 1 ∨ M = 2 ∨ M = 5) := by
  have : s = 3 ∨ s = 4 ∨ s = 5 := by omega
  rcases this with rfl | rfl | rfl
  · exact ⟨1, rfl, by omega⟩
  · exact ⟨2, rfl, by omega⟩
  · exact ⟨5, rfl, by omega⟩
def spWide : Sp := fun vs H Q _ => ∃ (p : Pla), vs = [.ref p] ∧ Pool H p ∧ ∀ (r : Int) (H' : Hp), 0 ≤ r → r < 10 ^ 30 → Pool H' p → Keeps H H' p → Q (.int r) H'
abbrev CalWide (P : Program) (w : World) (K : PySem.W.Frag) (mg : Str → Option Value) (base : Heap) := Cal P w K mg base 3 "_law_wide" ["_law_pool_here"] spWide
theorem ok_wide (B : Blt mg) (D : Dfn K mg "_law_wide" "_law_wide" s_wide ["_law_pool_here"]) (C_draw : CalDraw P w K mg base) : CalWide P w K mg base := by
  refine D.cal sc_wide (fun vs H Q E h => ?_) (fun f cdv A outer st H vs Q E hr h => ?_)
  · obtain ⟨p, rfl, _⟩ := h
    rfl
  · obtain ⟨p, rfl, hP, k⟩ := h
    refine ⟨_, (pss_cons (ps_set (i := 1) sc_wide.nd rfl (Or.inl rfl) (pe_cal C_draw (hr.mono (by decide)) (pa_cons (pv 0) (pa_cons (pe_int) pa_nil))))
      (pss_cons (ps_if (pt_cmpR op_eq (pv 1) (pe_int) (nomark _)) (pss_one (ps_ret (pe_cal C_draw (hr.mono (by decide)) (pa_cons (pv 0) (pa_cons (pe_int) pa_nil))))) pss_nil)
      (pss_cons (ps_if (pt_cmpR op_lt (pv 1) (pe_int) (nomark _)) (pss_one (ps_ret (pe_cal C_draw (hr.mono (by decide)) (pa_cons (pv 0) (pa_cons (pe_int) pa_nil))))) pss_nil)
      (pss_cons (ps_set (i := 2) sc_wide.nd rfl (Or.inl rfl) (pe_ix ix_tup (pe_tup (pa_cons (pe_int) (pa_cons (pe_int) (pa_cons (pe_int) pa_nil)))) (pe_op op_sub (pv 1) (pe_int)) (fun _ _ => rfl)))
      (pss_cons (ps_set (i := 3) sc_wide.nd rfl (Or.inl rfl) (pe_int))
      (pss_cons (ps_for PassesOwn.never rfl (pi_range1 (by rfl) B.range (pa_cons (pv 2) pa_nil)) (pg_name (i := 4) sc_wide.nd rfl (Or.inl rfl)) (pss_one (ps_set (i := 3) sc_wide.nd rfl (Or.inl rfl) (pe_op op_add (pe_op op_mul (pv 3) (pe_op op_pow (pe_int) (pe_int))) (pe_cal C_draw (hr.mono (by decide)) (pa_cons (pv 0) (pa_cons (pe_op op_pow (pe_int) (pe_int)) pa_nil)))))))
      (pss_one (ps_ret (pv 3))))))))), ?_⟩
    refine ⟨_, rfl, p, 6, rfl, hP, by decide, by decide, fun s H1 s0 s1 hP1 hk1 => ?_⟩
    walk_at "go"
    walk_at "if"
    · intro _
      refine ⟨_, rfl, p, 4, rfl, hP1, by decide, by decide, fun r H2 r0 r1 hP2 hk2 => ?_⟩
      exact k r H2 r0 (by omega) hP2 (hk1.trans hk2)
    intro n0
    walk_at "go"
    walk_at "if"
    · intro _
      refine ⟨_, rfl, p, 30, rfl, hP1, by decide, by decide, fun r H2 r0 r1 hP2 hk2 => ?_⟩
      exact k r H2 r0 (by omega) hP2 (hk1.trans hk2)
    intro n3
    obtain ⟨M, eM, hM⟩ := wide_ix (s := s) (by omega) s1
    refine ⟨(by show 3 ≤ sizeLine; decide), fun t ht => ?_⟩
    walk_at "go"
    refine ⟨_, _, _, _, rfl, rfl, SqT.of upd_same, eM, ?_⟩
    refine ⟨_, rfl, _, rfl, (by omega), (by omega), for_range (n := M.toNat) (fun i σ H' => ∃ (f : Int) (v4 : Option V), σ = [some (.ref (p : Addr)), some (.int s), some (.int M), some (.int f), v4] ∧ 0 ≤ f ∧ f < 1000000 ^ i ∧ Pool H' p ∧ Keeps H H' p)
      ⟨0, none, rfl, by omega, by decide, hP1.upd ht, hk1.trans (same_keeps (same_upd ht))⟩ ?_ ?_⟩
    · rintro i σ H2 hi ⟨f, v4, rfl, f0, f1, hP2, hk2⟩
      walk_at "go"
      refine ⟨_, _, rfl, hP2, by decide, by decide, fun r H3 r0 r1 hP3 hk3 => ?_⟩
      walk_at "go"
      have r1' : r < 1000000 := r1
      refine ⟨f * 1000000 + r, _, rfl, by omega, ?_, hP3, hk2.trans hk3⟩
      rw [Int.pow_succ]
      omega
    · rintro σ H2 ⟨f, v4, rfl, f0, f1, hP2, hk2⟩
      refine ⟨_, rfl, k f H2 f0 ?_ hP2 hk2⟩
      rcases hM with rfl | rfl | rfl
      · exact Int.lt_of_lt_of_le f1 (by decide)
      · exact Int.lt_of_lt_of_le f1 (by decide)
      · exact Int.lt_of_lt_of_le f1 (by decide)

def spAny : Sp := fun vs H Q _ => ∃ (p : Pla), vs = [.ref p] ∧ Pool H p ∧ ∀ (r : Int) (H' : Hp), 0 ≤ r → r < 10 ^ 60 → Pool H' p → Keeps H H' p → Q (.int r) H'
abbrev CalAny (P : Program) (w : World) (K : PySem.W.Frag) (mg : Str → Option Value) (base : Heap) := Cal P w K mg base 4 "_law_any" ["_law_pool_here"] spAny
theorem ok_any (B : Blt mg) (D : Dfn K mg "_law_any" "_law_any" s_any ["_law_pool_here"]) (C_draw : CalDraw P w K mg base) (C_wide : CalWide P w K mg base) : CalAny P w K mg base := by
  refine D.cal sc_any (fun vs H Q E h => ?_) (fun f cdv A outer st H vs Q E hr h => ?_)
  · obtain ⟨p, rfl, _⟩ := h
    rfl
  · obtain ⟨p, rfl, hP, k⟩ := h
    have last : ∀ H1, Pool H1 p → Keeps H H1 p → spWide ([V.ref p] ++ []) H1 Q E0 := fun H1 hP1 hk1 =>
      ⟨p, rfl, hP1, fun r H2 r0 r1 hP2 hk2 => k r H2 r0 (Int.lt_of_lt_of_le r1 (by decide)) hP2 (hk1.trans hk2)⟩
    refine ⟨_, (pss_cons (ps_if (PW.pt (pw_and (pt_cmpR op_eq (pe_cal C_draw (hr.mono (by decide)) (pa_cons (pv 0) (pa_cons (pe_int) pa_nil))) (pe_int) (nomark _)) (pw_and1 (pt_cmpR op_lt (pe_ix ix_list (pv 0) (pe_int) (fun _ _ => rfl)) (pe_callB call_len_seq (by rfl) B.len PySem.boot_len (pa_cons (pe_ix ix_list (pv 0) (pe_int) (fun _ _ => rfl)) pa_nil)) (nomark _))))) (pss_cons (ps_set (i := 1) sc_any.nd rfl (Or.inl rfl) (pe_ix ix_list (pe_ix ix_list (pv 0) (pe_int) (fun _ _ => rfl)) (pe_ix ix_list (pv 0) (pe_int) (fun _ _ => rfl)) (fun _ _ => rfl)))
      (pss_cons (ps_asg (pe_op op_add (pe_ix ix_list (pv 0) (pe_int) (fun _ _ => rfl)) (pe_int)) (pg_sub (pv 0) (pe_int) set_list))
      (pss_one (ps_ret (pe_op op_modN (pe_callTy call_int1 (by rfl) B.int (by decide +kernel) (pa_cons (pe_callB call_abs (by rfl) B.abs (by decide +kernel) (pa_cons (pv 1) pa_nil)) pa_nil)) (pe_op op_pow (pe_int) (pe_int))))))) pss_nil)
      (pss_one (ps_ret (pe_cal C_wide (hr.mono (by decide)) (pa_cons (pv 0) pa_nil))))), ?_⟩
    refine ⟨_, rfl, p, 8, rfl, hP, by decide, by decide, fun s H1 s0 s1 hP1 hk1 => ?_⟩
    walk_at "go"
    obtain ⟨ns, i, b, c, d, hp, hq, hi, hqp⟩ := id hP1
    walk_at "if"
    · intro _
      refine ⟨_, rfl, _, _, _, _, rfl, rfl, SqL.of hp, rfl, ?_⟩
      refine ⟨_, rfl, _, _, _, _, rfl, rfl, SqL.of hp, rfl, ?_⟩
      refine ⟨_, _, rfl, .inl (SqL.of hq), ?_⟩
      walk_at "go"
      walk_at "if"
      · intro hl
        have hl' : i < ((ns.map V.int).length : Int) := hl
        rw [List.length_map] at hl'
        obtain ⟨n, rfl⟩ : ∃ n : Nat, i = (n : Int) := ⟨i.toNat, by omega⟩
        have hn : n < ns.length := by omega
        refine ⟨_, rfl, _, _, _, _, rfl, rfl, SqL.of hp, rfl, ?_⟩
        refine ⟨_, rfl, _, _, _, _, rfl, rfl, SqL.of hp, rfl, ?_⟩
        refine ⟨_, _, _, _, rfl, rfl, SqL.of hq, atI_nat (ints_at hn), ?_⟩
        refine ⟨_, rfl, _, _, _, _, rfl, rfl, SqL.of hp, rfl, ?_⟩
        walk_at "go"
        refine ⟨_, _, _, _, rfl, rfl, hp, rfl, ?_⟩
        walk_at "go"
        refine ⟨(by show (10 : Int) ^ (60 : Int).toNat ≠ 0; decide), ?_⟩
        have b2 := fm (if ns[n] < 0 then -ns[n] else ns[n]) (show (0 : Int) < 10 ^ 60 by decide)
        exact k _ _ b2.1 b2.2 ⟨ns, _, b, c, d, upd_same, by rw [upd_ne hqp]; exact hq, by omega, hqp⟩ (hk1.trans Keeps.upd)
      · intro _
        exact ⟨_, rfl, last _ hP1 hk1⟩
    · intro _
      exact ⟨_, rfl, last _ hP1 hk1⟩

def spPool (K : PySem.W.Frag) : Sp := fun vs H Q _ => ∃ (a : Addr) (ns : List Int), vs = [.ref a] ∧ SqL K H a (ns.map V.int) ∧ ns.length ≤ 63 ∧ ∀ (p : Pla) (H' : Hp), Same H H' → H p = none → H p.q = none → Pool H' p → Q (.ref p) H'
abbrev CalPool (P : Program) (w : World) (K : PySem.W.Frag) (mg : Str → Option Value) (base : Heap) := Cal P w K mg base 1 "_law_pool" ["_law_script"] (spPool K)
theorem ok_pool (B : Blt mg) (D : Dfn K mg "_law_pool" "_law_pool" s_pool ["_law_script"]) : CalPool P w K mg base := by
  refine D.cal sc_pool (fun vs H Q E h => ?_) (fun f cdv A outer st H vs Q E hr h => ?_)
  · obtain ⟨a, ns, rfl, _⟩ := h
    rfl
  · obtain ⟨a, ns, rfl, hS, hl, k⟩ := h
    refine ⟨_, (pss_one (ps_ret (pe_lst (pa_cons (pe_lc (own := [("_law_cell", 1)]) (g := gName 1) rfl sc_pool.nd (pi_list (pv 0)) (blkOk_by (N := ["_law_script", "_law_cell"]) (sc := defScope s_pool) (by decide +kernel)) (fun _ _ _ _ _ => pg_name (i := 1) sc_pool.nd rfl (Or.inl rfl)) (fun _ _ _ _ _ => pts_nil) (fun _ _ _ _ _ => (pe_callTy call_int1 (by rfl) B.int (by decide +kernel) (pa_cons (pv 1) pa_nil)))) (pa_cons (pe_int) (pa_cons (pe_int) (pa_cons (pe_int) (pa_cons (pe_int) pa_nil)))))))), ?_⟩
    refine ⟨_, rfl, a, rfl, ⟨_, hS⟩, fun D hD => lc_list (K := K) (a := a) (xs := ns.map V.int) (fun i H' => H' = upd H D (.lst ((ns.take i).map V.int))) rfl (fun i H' _ e => by rw [e]; exact (same_upd hD).seq hS) ?_ ?_⟩
    · rintro i x H' hx rfl
      obtain ⟨z, hz, rfl⟩ := int_of_map hx
      refine ⟨rfl, ?_⟩
      refine ⟨_, rfl, .inl ⟨_, rfl, _, upd_same, ?_, ?_⟩⟩
      · rw [List.length_map, List.length_take]
        exact small1000 (by omega)
      · rw [upd_upd, List.take_add_one, hz, List.map_append]
        rfl
    · rintro H' rfl
      refine ⟨(by show 5 ≤ sizeLine; decide), fun p hp => ?_⟩
      have hne : D ≠ p := ne_of_none upd_same hp
      have hp0 : H p = none := by rw [upd_ne hne.symm] at hp; exact hp
      refine k ⟨p, D⟩ _ ((same_upd hD).trans (same_upd hp)) hp0 hD ⟨ns, 0, 0, 1, 0, upd_same, ?_, by decide, hne⟩
      show upd _ p _ D = _
      rw [upd_ne hne, upd_same, List.length_map, List.take_length]

theorem kit_own {K : PySem.W.Frag} {t : Value} {C : Addr} {b : Bool} (hd : PySem.W.hasDictIn K C = true) (ht : PySem.W.typeIn K (.ref C) = some (.type "type")) (hs : PySem.W.subIn K t (.ref C) = some b) (hself : PySem.W.subIn K t t = some true) : PySem.W.kitOne K t (.ref C) = some b := by
  unfold PySem.W.kitOne
  by_cases h : (t == Value.ref C) = true
  · rw [if_pos h]
    have e := beq_iff_eq.mp h
    subst e
    rw [hs] at hself
    exact hself.symm
  · rw [if_neg h]
    obtain ⟨cd, hc, _⟩ := PySem.W.any_some hd
    have e2 : ((PySem.W.clsIn K C).isSome && PySem.W.typeIn K (.ref C) == some (.type "type")) = true := by rw [hc, ht] <;> rfl
    show (if ((PySem.W.clsIn K C).isSome && PySem.W.typeIn K (.ref C) == some (.type "type")) = true then PySem.W.subIn K t (.ref C) else none) = some b
    rw [if_pos e2]
    exact hs
theorem kit_int {K : PySem.W.Frag} {C : Addr} {b : Bool} (hd : PySem.W.hasDictIn K C = true) (ht : PySem.W.typeIn K (.ref C) = some (.type "type")) (hs : PySem.W.subIn K (.type "int") (.ref C) = some b) : PySem.W.kitOne K (.type "int") (.ref C) = some b := by
  unfold PySem.W.kitOne
  rw [if_neg (by intro h; cases beq_iff_eq.mp h)]
  obtain ⟨cd, hc, _⟩ := PySem.W.any_some hd
  have e2 : ((PySem.W.clsIn K C).isSome && PySem.W.typeIn K (.ref C) == some (.type "type")) = true := by rw [hc, ht] <;> rfl
  show (if ((PySem.W.clsIn K C).isSome && PySem.W.typeIn K (.ref C) == some (.type "type")) = true then PySem.W.subIn K (.type "int") (.ref C) else none) = some b
  rw [if_pos e2]
  exact hs
def spWhole : Sp := fun vs H Q _ => ∃ (i : Int), vs = [.int i] ∧ Q (.bl true) H
abbrev CalWhole (P : Program) (w : World) (K : PySem.W.Frag) (mg : Str → Option Value) (base : Heap) := Cal P w K mg base 1 "_law_whole" ["_law_actual"] spWhole
theorem ok_whole (B : Blt mg) (D : Dfn K mg "_law_whole" "_law_whole" s_whole ["_law_actual"]) : CalWhole P w K mg base := by
  refine D.cal sc_whole (fun vs H Q E h => ?_) (fun f cdv A outer st H vs Q E hr h => ?_)
  · obtain ⟨i, rfl, _⟩ := h
    rfl
  · obtain ⟨i, rfl, q⟩ := h
    refine ⟨_, (pss_one (ps_ret ((pe_and (pe_callB call_isi (by rfl) B.isinstance (by decide +kernel) (pa_cons (pv 0) (pa_cons (pe_bltn (v := .ty "int") (by rfl) B.int (by decide +kernel) rfl) pa_nil))) (pe_one (pe_not (pe_callB call_isi (by rfl) B.isinstance (by decide +kernel) (pa_cons (pv 0) (pa_cons (pe_bltn (v := .ty "bool") (by rfl) B.bool (by decide +kernel) rfl) pa_nil))))))))), ?_⟩
    refine ⟨_, rfl, _, _, _, _, true, rfl, .ty _, .base (.int _), kit_ty (by decide +kernel), _, rfl, iteT ?_⟩
    refine ⟨_, rfl, _, _, _, _, false, rfl, .ty _, .base (.int _), kit_ty (by decide +kernel), _, rfl, ?_⟩
    exact q
end
end L

set_option Elab.async false
set_option linter.all false
set_option maxRecDepth 100000
set_option maxHeartbeats 4000000
set_option pp.maxSteps 160
set_option pp.deepTerms false
namespace L
open PySem PySem.Spec PyProof.Rows L2 Fl
local macro_rules | `(tactic| walk_at "side") => `(tactic| first | (exact .inl ⟨by omega, by omega⟩) | (exact .inr ⟨by omega, by omega⟩) | (exact .inr ⟨by decide, by decide⟩) | (show (_ : Int) ≠ _; omega) | (exact ⟨by omega, by decide⟩) | (exact ⟨by decide, by decide, by decide⟩))
local macro_rules | `(tactic| walk_at "go") => `(tactic| repeat (first | refine ⟨_, rfl, ?_⟩ | refine ⟨_, _, rfl, rfl, ?_⟩ | refine .inl ⟨_, rfl, ?_⟩ | refine ⟨rfl, ?_⟩ | refine ⟨(by walk_at "side"), ?_⟩))
local macro_rules | `(tactic| walk_at "see") => `(tactic| (set_option pp.maxSteps 110 in set_option pp.deepTerms false in trace_state))
local macro_rules | `(tactic| walk_at "if") => `(tactic| first | refine ifE ?_ ?_ | refine ifNE ?_ ?_ | refine ifD ?_ ?_ | refine ifN ?_ ?_ | refine ifB ?_ ?_)

/-! ### instances of Run -/
def gf (f s c : Int) : List (Str × V) := putF "count" (.int c) (putF "step" (.int s) (putF "first" (.int f) []))
theorem fs_ne : ¬ (("first" : Str) = "step") := by decide +kernel
theorem fc_ne : ¬ (("first" : Str) = "count") := by decide +kernel
theorem sc_ne : ¬ (("step" : Str) = "count") := by decide +kernel
theorem gf_first (f s c : Int) : (gf f s c).lookup ("first" : Str) = some (.int f) := by
  unfold gf
  rw [lookup_putF, if_neg fc_ne, lookup_putF, if_neg fs_ne, lookup_putF, if_pos rfl]
theorem gf_step (f s c : Int) : (gf f s c).lookup ("step" : Str) = some (.int s) := by
  unfold gf
  rw [lookup_putF, if_neg sc_ne, lookup_putF, if_pos rfl]
theorem gf_count (f s c : Int) : (gf f s c).lookup ("count" : Str) = some (.int c) := by
  unfold gf
  rw [lookup_putF, if_pos rfl]
theorem gf_no (f s c : Int) {m : Str} (h1 : ¬ m = "count") (h2 : ¬ m = "step") (h3 : ¬ m = "first") : (gf f s c).lookup m = none := by
  unfold gf
  rw [lookup_putF, if_neg h1, lookup_putF, if_neg h2, lookup_putF, if_neg h3]
  rfl
structure RunOk (f s c : Int) : Prop where
  f0 : 0 ≤ f
  s1 : 1 ≤ s
  s4 : s ≤ 4
  c1 : 1 ≤ c
def RunAt (D : Addr) (H : Hp) (x : Addr) (f s c : Int) : Prop := ∃ dx, H x = some (.ins D dx (gf f s c))
theorem RunAt.same {D : Addr} {H H' : Hp} {x : Addr} {f s c : Int} (h : RunAt D H x f s c) (k : Same H H') : RunAt D H' x f s c := by
  obtain ⟨dx, h⟩ := h
  exact ⟨dx, k _ _ h⟩
theorem RunAt.keep {D p : Addr} {H H' : Hp} {x : Addr} {f s c : Int} (h : RunAt D H x f s c) (k : Keeps H H' p) (n : x ≠ p) : RunAt D H' x f s c := by
  obtain ⟨dx, h⟩ := h
  exact ⟨dx, k _ _ h n⟩
theorem RunAt.ne_pool {D : Addr} {p : Pla} {H : Hp} {x : Addr} {f s c : Int} (h : RunAt D H x f s c) (hp : Pool H p) : x ≠ p := by
  obtain ⟨dx, h⟩ := h
  obtain ⟨ns, i, b, c, d, h1, _⟩ := hp
  exact ne_of h h1 (by intro z; cases z)
structure RunC (K : PySem.W.Frag) (mg : Str → Option Value) (D : Addr) : Prop where
  cl : Cls K D
  nF : NoAttr K D "first"
  nS : NoAttr K D "step"
  nC : NoAttr K D "count"
  g : mg "Run" = some (.ref D)
  ha : PySem.W.findIn K (.ref D) "__class__" = some (some (.builtin "object.__class__"))
  hn : PySem.W.specialIn K (.builtin "object.__class__") "__get__" = some (some (.builtin "getset_descriptor.__get__"))
  htk : PySem.W.takesIn K (.builtin "object.__class__") = some true
  hm : PySem.W.mroIn K D (.type "object") = some true
theorem RunC.tyX {K : PySem.W.Frag} {mg : Str → Option Value} {D : Addr} (T : RunC K mg D) {H : Hp} {x dx : Addr} {fs : List (Str × V)} (h : H x = some (.ins D dx fs)) : TyX K H (.ref x) (.ref D) := .base (.ins h T.cl T.ha T.hn T.htk T.hm)
/-- how many strengths are less than k -/
def bel (f s c k : Int) : Int := if k ≤ f then 0 else if k > f + s * (c - 1) then c else (k - f + s - 1).fdiv s
theorem s_cases {f s c : Int} (h : RunOk f s c) : s = 1 ∨ s = 2 ∨ s = 3 ∨ s = 4 := by
  have := h.s1
  have := h.s4
  omega
theorem bel_ok {f s c k : Int} (h : RunOk f s c) : 0 ≤ bel f s c k ∧ bel f s c k ≤ c ∧ (0 < bel f s c k → f + s * (bel f s c k - 1) < k) ∧ (bel f s c k < c → k ≤ f + s * bel f s c k) := by
  have := h.c1
  have := h.f0
  unfold bel
  split
  · refine ⟨by omega, by omega, fun h => absurd h (by omega), fun _ => by omega⟩
  split
  · rcases s_cases h with rfl | rfl | rfl | rfl <;> refine ⟨by omega, by omega, fun _ => by omega, fun h => absurd h (by omega)⟩
  · rw [Int.fdiv_eq_ediv_of_nonneg _ (by have := h.s1; omega)]
    rcases s_cases h with rfl | rfl | rfl | rfl <;> refine ⟨by omega, by omega, fun _ => by omega, fun _ => by omega⟩
/-- a method of the class C by the name m -/
structure CalM (P : Program) (w : World) (K : PySem.W.Frag) (mg : Str → Option Value) (base : Heap) (k : Nat) (C : Addr) (m : Str) (ps : List Str) (sp : Sp) : Prop where
  ex : ∃ (f : Addr) (fd : FuncData), Meth K C m f ∧ FnOk P w K mg base CX0 k f fd ps sp ∧ Binds K fd ps []
/-- v in a, a of the class C with the def sp for __contains__ -/
def rInOwn (C : Addr) (sp : Sp) : R2 := fun x y H Q => ∃ (a dx : Addr) (gs : List (Str × V)), y = .ref a ∧ H a = some (.ins C dx gs) ∧ sp [.ref a, x] H (fun z H2 => ∃ b, z = .bl b ∧ Q (.bl b) H2) E0
theorem op_inOwn {X : Cx} {k : Nat} {C : Addr} {ps : List Str} {sp : Sp} (M : CalM X.prog X.w X.K X.mg X.base k C "__contains__" ps sp) (hr : Room k X.A) : OpR X (compareOp .In) (rInOwn C sp) := by
  obtain ⟨f, fd, hM, F, b⟩ := M.ex
  intro pins s σ H x y v u Q I rx ry h
  obtain ⟨a, dx, gs, rfl, ea, q⟩ := h
  cases ry
  obtain ⟨mA, J, _⟩ := ins_get I.hok ea
  obtain ⟨od, J, _⟩ := J.look
  obtain ⟨m, hF⟩ := I.fr
  refine PySem.W.in_K hF I.ok.mod.kin J hM.at_ hM.fn (wpAny_mono (run_fn F hr b (dvs := []) .nil pass0 I (.cons (show RelV (.ref a) (.ref a) from rfl) (.cons rx .nil)) q) (fun w s' hw => ?_) fun _ _ z => z)
  obtain ⟨z, H2, I2, rz, c, rfl, q2⟩ := hw
  cases rz
  exact wpAny_truthy_bool ⟨.bl c, H2, I2, rfl, q2⟩
section
variable {P : Program} {w : World} {K : PySem.W.Frag} {mg : Str → Option Value} {base : Heap}

theorem ok_bn {C f : Addr} {fd : FuncData} (T : BnC K mg C) (F : Fun K "__init__" "BadNumber.__init__" s_BadNumber_init f fd) : FnOk P w K mg base CX0 1 f fd ["self", "name", "value"] (spBN C) := by
  refine F.ok sc_BadNumber_init (fun vs H Q E h => ?_) (fun cdv A outer st H vs Q E hr h => ?_)
  · obtain ⟨a, n, v, rfl, _⟩ := h
    rfl
  · obtain ⟨a, n, v, rfl, ha, k⟩ := h
    refine ⟨_, pss_cons (ps_ost (pv 0) (pv 1)) (pss_one (ps_ost (pv 0) (pv 2))), ?_⟩
    refine ⟨_, rfl, _, rfl, a, C, rfl, T.o, T.nN, .inl ⟨ha, fun dx hdx hne => ?_⟩⟩
    refine ⟨_, rfl, _, rfl, a, C, rfl, T.o, T.nV, .inr ⟨dx, [("name", n)], upd_same, ?_, (by show 1 ≤ 900; decide), k dx hdx hne⟩⟩
    rw [upd_ne hne, upd_same]

def spRunInit (D BN : Addr) : Sp := fun vs H Q E => ∃ (x dx : Addr) (f s c : Int), vs = [.ref x, .int f, .int s, .int c] ∧ H x = some (.ins D dx []) ∧ (f < 0 → Ref E BN H "first" f) ∧ (0 ≤ f → (s < 1 ∨ 4 < s) → Ref E BN H "step" s) ∧
  (0 ≤ f → 1 ≤ s → s ≤ 4 → c < 1 → Ref E BN H "count" c) ∧ (0 ≤ f → 1 ≤ s → s ≤ 4 → 1 ≤ c → ∀ H' : Hp, H' x = some (.ins D dx (gf f (if c > 1 then s else 1) c)) → Keeps H H' x → Q .non H')
abbrev CalRun (P : Program) (w : World) (K : PySem.W.Frag) (mg : Str → Option Value) (base : Heap) (D BN : Addr) := CalC P w K mg base (L2.CX P w) 3 D "Run" ["self", "first", "step", "count"] [] (spRunInit D BN)
theorem ok_run_init {D BN fI : Addr} {tk : Tok} {fd : FuncData} (B : Blt mg) (T : RunC K mg D) (TB : BnC K mg BN) (CE : CalE P w K mg base 1 BN) (gMS : mg "MOST_STEP" = some (.int 4 tk)) (F : Fun K "__init__" "Run.__init__" s_Run_init fI fd) : FnOk P w K mg base (L2.CX P w) 3 fI fd ["self", "first", "step", "count"] (spRunInit D BN) := by
  refine F.okX sc_Run_init (fun vs H Q E h => ?_) (fun cdv A outer st H vs Q E hr h => ?_)
  · obtain ⟨x, dx, f, s, c, rfl, _⟩ := h
    rfl
  · obtain ⟨x, dx, f, s, c, rfl, hx, k1, k2, k3, k⟩ := h
    have hr0 : Room 2 _ := hr
    refine ⟨_, (pss_cons (ps_if (pt_cmpR op_lt (pv 1) (pe_int) (nomark _)) (pss_one (ps_raise rfl (takes_of rfl rfl rfl rfl) (pmk_bn TB CE (hr0.mono (by decide)) (pa_cons pe_str (pa_cons (pv 1) pa_nil))))) pss_nil)
      (pss_cons (ps_if (pt_not (pt_chain op_le op_le (pe_int) (pv 2) (pe_glob (v := .int 4) (by rfl) gMS ⟨_, rfl⟩))) (pss_one (ps_raise rfl (takes_of rfl rfl rfl rfl) (pmk_bn TB CE (hr0.mono (by decide)) (pa_cons pe_str (pa_cons (pv 2) pa_nil))))) pss_nil)
      (pss_cons (ps_if (pt_cmpR op_lt (pv 3) (pe_int) (nomark _)) (pss_one (ps_raise rfl (takes_of rfl rfl rfl rfl) (pmk_bn TB CE (hr0.mono (by decide)) (pa_cons pe_str (pa_cons (pv 3) pa_nil))))) pss_nil)
      (pss_cons (ps_fld (pv 0) (pv 1) rfl)
      (pss_cons (ps_fld (pv 0) (pe_ifExp (pt_cmpR op_gt (pv 3) (pe_int) (nomark _)) (pv 2) (pe_int)) rfl)
      (pss_one (ps_fld (pv 0) (pv 3) rfl))))))), ?_⟩
    walk_at "go"
    walk_at "if"
    · intro h1
      exact ⟨_, rfl, bn_made (k1 h1)⟩
    intro h1
    walk_at "go"
    walk_at "if"
    · intro h2
      walk_at "go"
      walk_at "if"
      · intro h3
        exact ⟨_, rfl, bn_made (k2 (by omega) (.inr (by omega)))⟩
      intro h3
      walk_at "go"
      walk_at "if"
      · intro h4
        exact ⟨_, rfl, bn_made (k3 (by omega) h2 h3 h4)⟩
      intro h4
      have fin : ∀ (s' : Int), s' = (if c > 1 then s else 1) → Q .non (upd (upd (upd H x (.ins D dx (putF "first" (.int f) []))) x (.ins D dx (putF "step" (.int s') (putF "first" (.int f) [])))) x (.ins D dx (putF "count" (.int c) (putF "step" (.int s') (putF "first" (.int f) []))))) := fun s' e =>
        k (by omega) h2 h3 (by omega) _ (by rw [upd_same, e]; rfl) ((Keeps.upd.trans Keeps.upd).trans Keeps.upd)
      refine ⟨_, rfl, _, rfl, x, D, dx, [], rfl, hx, T.cl, T.nF, (by show 0 < 1000; decide), ?_⟩
      walk_at "go"
      walk_at "if"
      · intro h5
        refine ⟨_, rfl, _, rfl, x, D, dx, _, rfl, upd_same, T.cl, T.nS, (by show 1 < 1000; decide), ?_⟩
        refine ⟨_, rfl, _, rfl, x, D, dx, _, rfl, upd_same, T.cl, T.nC, (by show 2 < 1000; decide), ?_⟩
        exact fin s (by rw [if_pos h5])
      · intro h5
        refine ⟨_, rfl, x, D, dx, _, rfl, upd_same, T.cl, T.nS, (by show 1 < 1000; decide), ?_⟩
        refine ⟨_, rfl, _, rfl, x, D, dx, _, rfl, upd_same, T.cl, T.nC, (by show 2 < 1000; decide), ?_⟩
        exact fin 1 (by rw [if_neg h5])
    · intro h2
      walk_at "go"
      exact bn_made (k2 (by omega) (.inl (by omega)))
structure CalP (P : Program) (w : World) (K : PySem.W.Frag) (mg : Str → Option Value) (base : Heap) (k : Nat) (C : Addr) (f : Str) (sp : Sp) : Prop where
  ex : ∃ (p g : Addr) (fd : FuncData), PropOf K C f p g ∧ FnOk P w K mg base CX0 k g fd ["self"] sp ∧ Binds K fd ["self"] []
theorem pe_calP {X : Cx} {k : Nat} {C : Addr} {f : Str} {sp : Sp} {e : Expr} {pos : Pos} {ta : TE} (cl : Cls X.K C) (G : CalP X.prog X.w X.K X.mg X.base k C f sp) (hr : Room (k + 1) X.A) (he : PE X e ta) (hab : attributeBase e f X.env (eval e X.env) = eval e X.env := by rfl) :
    PE X (.Attribute e f pos) (tProp C sp [] E0 ta) := by
  obtain ⟨p, g, fd, hp, F, b⟩ := G.ex
  exact pe_prop he cl hp F hr b .nil pass0 hab
def spLast (D : Addr) : Sp := fun vs H Q _ => ∃ (x : Addr) (f s c : Int), vs = [.ref x] ∧ RunAt D H x f s c ∧ RunOk f s c ∧ Q (.int (f + s * (c - 1))) H
theorem ok_last {D fA : Addr} {fd : FuncData} (T : RunC K mg D) (F : Fun K "last" "Run.last" s_Run_last fA fd) : FnOk P w K mg base CX0 1 fA fd ["self"] (spLast D) := by
  refine F.ok sc_Run_last (fun vs H Q E h => ?_) (fun cdv A outer st H vs Q E hr h => ?_)
  · obtain ⟨x, f, s, c, rfl, _⟩ := h
    rfl
  · obtain ⟨x, f, s, c, rfl, ⟨dx, hx⟩, ok, q⟩ := h
    have := ok.s1
    have := ok.s4
    refine ⟨_, (pss_one (ps_ret (pe_op op_add (pe_fld (pv 0) rfl) (pe_op op_mul (pe_fld (pv 0) rfl) (pe_op op_sub (pe_fld (pv 0) rfl) (pe_int)))))), ?_⟩
    refine ⟨_, rfl, x, D, dx, _, _, rfl, hx, T.cl, T.nF, gf_first _ _ _, ?_⟩
    refine ⟨_, rfl, x, D, dx, _, _, rfl, hx, T.cl, T.nS, gf_step _ _ _, ?_⟩
    refine ⟨_, rfl, x, D, dx, _, _, rfl, hx, T.cl, T.nC, gf_count _ _ _, ?_⟩
    refine ⟨_, _, rfl, rfl, ?_⟩
    refine ⟨_, _, rfl, rfl, .inl ⟨by omega, by omega⟩, ?_⟩
    exact ⟨_, _, rfl, rfl, q⟩
def spBelow (D : Addr) : Sp := fun vs H Q _ => ∃ (x : Addr) (f s c k : Int), vs = [.ref x, .int k] ∧ RunAt D H x f s c ∧ RunOk f s c ∧ Q (.int (bel f s c k)) H
theorem ok_below {D fA : Addr} {fd : FuncData} (T : RunC K mg D) (CL : CalP P w K mg base 1 D "last" (spLast D)) (F : Fun K "below" "Run.below" s_Run_below fA fd) : FnOk P w K mg base CX0 3 fA fd ["self", "k"] (spBelow D) := by
  refine F.ok sc_Run_below (fun vs H Q E h => ?_) (fun cdv A outer st H vs Q E hr h => ?_)
  · obtain ⟨x, f, s, c, k, rfl, _⟩ := h
    rfl
  · obtain ⟨x, f, s, c, k, rfl, ⟨dx, hx⟩, ok, q⟩ := h
    have := ok.s1
    have := ok.s4
    unfold bel at q
    refine ⟨_, (pss_cons (ps_if (pt_cmpR op_le (pv 1) (pe_fld (pv 0) rfl) (nomark _)) (pss_one (ps_ret (pe_int))) pss_nil)
      (pss_cons (ps_if (pt_cmpR op_gt (pv 1) (pe_calP T.cl CL (hr.mono (by decide)) (pv 0)) (nomark _)) (pss_one (ps_ret (pe_fld (pv 0) rfl))) pss_nil)
      (pss_one (ps_ret (pe_op op_fdivA (pe_op op_sub (pe_op op_add (pe_op op_sub (pv 1) (pe_fld (pv 0) rfl)) (pe_fld (pv 0) rfl)) (pe_int)) (pe_fld (pv 0) rfl)))))), ?_⟩
    refine ⟨_, rfl, _, rfl, x, D, dx, _, _, rfl, hx, T.cl, T.nF, gf_first _ _ _, ?_⟩
    walk_at "go"
    walk_at "if"
    · intro h1
      rw [if_pos h1] at q
      exact q
    intro h1
    rw [if_neg h1] at q
    refine ⟨_, rfl, _, rfl, x, dx, _, rfl, hx, x, f, s, c, rfl, ⟨dx, hx⟩, ok, ?_⟩
    walk_at "go"
    walk_at "if"
    · intro h2
      rw [if_pos h2] at q
      exact ⟨_, rfl, x, D, dx, _, _, rfl, hx, T.cl, T.nC, gf_count _ _ _, q⟩
    intro h2
    rw [if_neg h2] at q
    refine ⟨_, rfl, _, rfl, x, D, dx, _, _, rfl, hx, T.cl, T.nF, gf_first _ _ _, ?_⟩
    refine ⟨_, _, rfl, rfl, ?_⟩
    refine ⟨_, rfl, x, D, dx, _, _, rfl, hx, T.cl, T.nS, gf_step _ _ _, ?_⟩
    refine ⟨_, _, rfl, rfl, _, _, rfl, rfl, ?_⟩
    refine ⟨_, rfl, x, D, dx, _, _, rfl, hx, T.cl, T.nS, gf_step _ _ _, ?_⟩
    exact ⟨_, _, rfl, rfl, divA (b := 20) (by omega) (by omega) (by decide) (by decide), q⟩
def spAbove (D : Addr) : Sp := fun vs H Q _ => ∃ (x : Addr) (f s c k : Int), vs = [.ref x, .int k] ∧ RunAt D H x f s c ∧ RunOk f s c ∧ Q (.int (c - bel f s c (k + 1))) H
theorem ok_above {D fA : Addr} {fd : FuncData} (T : RunC K mg D) (C_below : CalM P w K mg base 3 D "below" ["self", "k"] (spBelow D)) (F : Fun K "above" "Run.above" s_Run_above fA fd) : FnOk P w K mg base CX0 4 fA fd ["self", "k"] (spAbove D) := by
  obtain ⟨_, _, m_below, F_below, b_below⟩ := C_below.ex
  refine F.ok sc_Run_above (fun vs H Q E h => ?_) (fun cdv A outer st H vs Q E hr h => ?_)
  · obtain ⟨x, f, s, c, k, rfl, _⟩ := h
    rfl
  · obtain ⟨x, f, s, c, k, rfl, ⟨dx, hx⟩, ok, q⟩ := h
    refine ⟨_, (pss_one (ps_ret (pe_op op_sub (pe_fld (pv 0) rfl) (pe_meth (pv 0) T.cl m_below F_below (hr.mono (by decide)) b_below .nil pass0 (pa_cons (pe_op op_add (pv 1) (pe_int)) pa_nil))))), ?_⟩
    refine ⟨_, rfl, x, D, dx, _, _, rfl, hx, T.cl, T.nC, gf_count _ _ _, ?_⟩
    refine ⟨_, rfl, x, dx, _, rfl, hx, gf_no _ _ _ (by decide +kernel) (by decide +kernel) (by decide +kernel), ?_⟩
    refine ⟨_, rfl, _, _, rfl, rfl, x, f, s, c, k + 1, rfl, ⟨dx, hx⟩, ok, ?_⟩
    exact ⟨_, _, rfl, rfl, q⟩
def isin (f s c k : Int) : Bool := decide (f ≤ k) && decide (k ≤ f + s * (c - 1)) && decide ((k - f).fmod s = 0)
def spCont (D : Addr) : Sp := fun vs H Q _ => ∃ (x : Addr) (f s c k : Int), vs = [.ref x, .int k] ∧ RunAt D H x f s c ∧ RunOk f s c ∧ Q (.bl (isin f s c k)) H
theorem ok_cont {D fA : Addr} {fd : FuncData} (T : RunC K mg D) (CL : CalP P w K mg base 1 D "last" (spLast D)) (F : Fun K "__contains__" "Run.__contains__" s_Run_contains fA fd) : FnOk P w K mg base CX0 3 fA fd ["self", "x"] (spCont D) := by
  refine F.ok sc_Run_contains (fun vs H Q E h => ?_) (fun cdv A outer st H vs Q E hr h => ?_)
  · obtain ⟨x, f, s, c, k, rfl, _⟩ := h
    rfl
  · obtain ⟨x, f, s, c, k, rfl, ⟨dx, hx⟩, ok, q⟩ := h
    have := ok.s1
    have := ok.s4
    unfold isin at q
    refine ⟨_, (pss_one (ps_ret ((pe_and (pe_chain op_le op_le (pe_fld (pv 0) rfl) (pv 1) (pe_calP T.cl CL (hr.mono (by decide)) (pv 0))) (pe_one (pe_cmpR op_eq (pe_op op_modN (pe_op op_sub (pv 1) (pe_fld (pv 0) rfl)) (pe_fld (pv 0) rfl)) (pe_int) (nomark _))))))), ?_⟩
    refine ⟨_, rfl, x, D, dx, _, _, rfl, hx, T.cl, T.nF, gf_first _ _ _, ?_⟩
    refine ⟨_, rfl, _, _, rfl, rfl, _, rfl, ?_⟩
    walk_at "if"
    · intro h1
      rw [decide_eq_true h1] at q
      refine ⟨_, rfl, x, dx, _, rfl, hx, x, f, s, c, rfl, ⟨dx, hx⟩, ok, ?_⟩
      refine ⟨_, _, rfl, rfl, _, rfl, ?_⟩
      walk_at "if"
      · intro h2
        rw [decide_eq_true h2] at q
        refine ⟨_, rfl, _, rfl, x, D, dx, _, _, rfl, hx, T.cl, T.nF, gf_first _ _ _, ?_⟩
        refine ⟨_, _, rfl, rfl, ?_⟩
        refine ⟨_, rfl, x, D, dx, _, _, rfl, hx, T.cl, T.nS, gf_step _ _ _, ?_⟩
        refine ⟨_, _, rfl, rfl, (show s ≠ 0 by omega), rfl, ?_⟩
        have e : decide (V.int ((k - f).fmod s) = V.int 0) = decide ((k - f).fmod s = 0) := by
          by_cases h : (k - f).fmod s = 0
          · rw [decide_eq_true h, h]
            rfl
          · rw [decide_eq_false h, decide_eq_false (fun z => h (V.int.inj z))]
        show Q (V.bl (decide (V.int ((k - f).fmod s) = V.int 0))) _
        rw [e]
        exact q
      · intro h2
        rw [decide_eq_false h2] at q
        exact q
    · intro h1
      rw [decide_eq_false h1] at q
      exact ⟨_, rfl, q⟩
end
end L

set_option Elab.async false
set_option linter.all false
set_option maxRecDepth 100000
set_option maxHeartbeats 4000000
set_option pp.maxSteps 160
set_option pp.deepTerms false
namespace L
open PySem PySem.Spec PyProof.Rows L2 Fl
local macro_rules | `(tactic| walk_at "side") => `(tactic| first | (exact .inl ⟨by omega, by omega⟩) | (exact .inr ⟨by omega, by omega⟩) | (exact .inr ⟨by decide, by decide⟩) | (show (_ : Int) ≠ _; omega) | (exact ⟨by omega, by decide⟩) | (exact ⟨by decide, by decide, by decide⟩))
local macro_rules | `(tactic| walk_at "go") => `(tactic| repeat (first | refine ⟨_, rfl, ?_⟩ | refine ⟨_, _, rfl, rfl, ?_⟩ | refine .inl ⟨_, rfl, ?_⟩ | refine ⟨rfl, ?_⟩ | refine ⟨(by walk_at "side"), ?_⟩))
local macro_rules | `(tactic| walk_at "see") => `(tactic| (set_option pp.maxSteps 110 in set_option pp.deepTerms false in trace_state))
local macro_rules | `(tactic| walk_at "if") => `(tactic| first | refine ifE ?_ ?_ | refine ifNE ?_ ?_ | refine ifD ?_ ?_ | refine ifN ?_ ?_ | refine ifB ?_ ?_)

/-- a method of the class C with the keyword-only parameter ties, 0 if it is left out -/
structure CalMKW (P : Program) (w : World) (K : PySem.W.Frag) (mg : Str → Option Value) (base : Heap) (k : Nat) (C : Addr) (m : Str) (ps : List Str) (sp : Sp) : Prop where
  ex : ∃ (f : Addr) (fd : FuncData) (ds : List Value), Meth K C m f ∧ FnOk P w K mg base (L2.CX P w) k f fd ps sp ∧ Vals [V.int 0] ds ∧ Binds K fd ps ds ∧ KBn K fd ps 2 [("ties" : Str)] (fun us ws => us ++ ws) (fun vs zs => vs ++ zs)
def tMethK (C : Addr) (m : Str) (sp : Sp) (E : L2.St → XK) (ta : TE) (t tk : TA) : TE := fun σ H Q => ta σ H fun x H1 => ∃ a dx fs, x = .ref a ∧ H1 a = some (.ins C dx fs) ∧ fs.lookup m = none ∧
  t σ H1 fun vs H2 => tk σ H2 fun zs H3 => (x :: vs).length = 2 ∧ zs.length = 1 ∧ sp ((x :: vs) ++ zs) H3 Q (E σ)
theorem pe_mKW {X : Cx} {k : Nat} {C : Addr} {m : Str} {ps : List Str} {sp : Sp} {E : L2.St → XK} {o : Expr} {apos pos : Pos} {pl : Sem Bool} {e : Expr} {es : List Expr} {kws : List Keyword} {ta : TE} {t tkk : TA} (M : CalMKW X.prog X.w X.K X.mg X.base k C m ps sp) (c : Cls X.K C) (hx : ∀ σ, PassesAt (L2.CX X.prog X.w) X σ (E σ)) (hr : Room k X.A)
    (he : PE X o ta) (ha : PA X (e :: es) t) (hkw : PK X kws tkk)
    (hall : (backToKw pos (keywordEach kws X.env)).all (·.1.isSome) = true := by rfl) (hks : (backToKw pos (keywordEach kws X.env)).filterMap (·.1) = [("ties" : Str)] := by rfl)
    (hst : starEach (e :: es) X.env = (false, eval e X.env) :: starEach es X.env := by rfl)
    (hpl : ((backTo pos (starEach (e :: es) X.env)).any (·.1) || (backToKw pos (keywordEach kws X.env)).any (·.1.isNone)) = false := by rfl)
    (ht : eval (.Call (.Attribute o m apos) (e :: es) kws pos) X.env = (do
      let ov ← eval o X.env
      standAt apos.atName
      let (f, first) ← holding [ov] (getMethod ov m pl)
      callWith pos f first (backTo pos (starEach (e :: es) X.env)) (backToKw pos (keywordEach kws X.env))) := by rfl) :
    PE X (.Call (.Attribute o m apos) (e :: es) kws pos) (tMethK C m sp E ta t tkk) := by
  obtain ⟨f, fd, ds, hm, F, d, b, kb⟩ := M.ex
  refine ⟨fun pins s σ H Q I h => ?_⟩
  refine PySem.W.methodCall_KW (pl := pl) (thn (he.run pins s σ H _ I h) fun u s1 ⟨x, H1, I1, rx, a, dx, fs, ex, ea, l, q⟩ => ?_) ht
  subst ex
  obtain rfl : u = Value.ref a := rx
  refine getmeth_ok I1 ea c hm l ?_
  refine PySem.W.callWith_KW (first := [.ref a]) (h₀ := X.base) I.ok.mod.kin hm.kp hall (thn (ha.run pos pins s1 σ H1 _ I1 q) fun us s2 ⟨vs, H2, I2, r, q2⟩ => ?_) hpl hst
  refine thn (hkw.run pos pins s2 σ H2 _ I2 q2) fun ws s3 ⟨zs, H3, I3, rz, l1, l2, q3⟩ => ⟨I3.kIn, ?_⟩
  rw [hks]
  have r1 : Vals (V.ref a :: vs) (Value.ref a :: us) := .cons (show RelV (.ref a) (.ref a) from rfl) r
  have r2 := kb.rel r1 rz
  refine wpAny_call (codeAny_mono (F.run X.A X.stack s3 H3 ⟨Value.ref a :: us, [("ties" : Str)].zip ws⟩ ((Value.ref a :: us) ++ ws) ((V.ref a :: vs) ++ zs) Q (E σ) hr I3.env0 (kb.to s3 (Value.ref a :: us) ws I3.kIn (r1.length.symm.trans l1) (rz.length.symm.trans l2)) r2 q3) fun r s' hq => ?_)
  cases r with
  | error e => exact hx σ pins H3 s3 e s' I3 hq
  | ok fl =>
    cases fl with
    | ret u => exact I3.after hq
    | next => exact False.elim hq
    | brk => exact False.elim hq
    | cont => exact False.elim hq
section
variable {P : Program} {w : World} {K : PySem.W.Frag} {mg : Str → Option Value} {base : Heap}

def spInit (C ZU : Addr) : Sp := fun vs H Q E => ∃ (x dx : Addr) (t u : Int), vs = [.ref x, .int t, .int u] ∧ H x = some (.ins C dx []) ∧ u.natAbs < 2 ^ 8000 ∧
  (u ≠ 0 → ∀ H' : Hp, H' x = some (.ins C dx (rf (nT t u) (nU t u))) → Keeps H H' x → Q .non H') ∧ (u = 0 → E (.ref ZU) none H)
abbrev CalRatio (P : Program) (w : World) (K : PySem.W.Frag) (mg : Str → Option Value) (base : Heap) (C ZU : Addr) (dvs : List V) := CalC P w K mg base (L2.CX P w) 1 C "Ratio" ["self", "top", "under"] dvs (spInit C ZU)
theorem ok_init {C ZU f : Addr} {fd : FuncData} (B : Blt mg) (hgcd : mg "gcd" = some (.builtin "math.gcd")) (T : RatC K mg C) (TZ : ExC K mg "ZeroUnder" ZU)
    (F : FunD K "__init__" "Ratio.__init__" (defArgs s_Ratio_init) (defBody s_Ratio_init) (defScope s_Ratio_init) [.int 1] [] f fd) : FnOk P w K mg base (L2.CX P w) 1 f fd ["self", "top", "under"] (spInit C ZU) := by
  refine F.ok sc_Ratio_init (fun vs H Q E h => ?_) (fun cdv A outer st H vs Q E hr h => ?_)
  · obtain ⟨x, dx, t, u, rfl, _⟩ := h
    rfl
  · obtain ⟨x, dx, t, u, rfl, hx, hu, k, k0⟩ := h
    refine ⟨_, (pss_cons (ps_if (pt_cmpR op_eq (pv 2) (pe_int) (nomark _)) (pss_one (ps_raise rfl (takes_of rfl rfl rfl rfl) (pmk_own PySem.F.excBase_ValueError TZ.x TZ.g TZ.k (raises_own TZ.b TZ.t) rfl))) pss_nil)
      (pss_cons (ps_set (i := 3) sc_Ratio_init.nd rfl (Or.inl rfl) (pe_callBfun cr_gcd (by rfl) hgcd (pa_cons (pv 1) (pa_cons (pv 2) pa_nil))))
      (pss_cons (ps_if (pt_cmpR op_lt (pv 2) (pe_int) (nomark _)) (pss_one (ps_set (i := 3) sc_Ratio_init.nd rfl (Or.inl rfl) (pe_un un_neg (pv 3)))) pss_nil)
      (pss_cons (ps_fld (pv 0) (pe_op op_fdivA (pv 1) (pv 3)) rfl)
      (pss_one (ps_fld (pv 0) (pe_op op_fdivA (pv 2) (pv 3)) rfl)))))), ?_⟩
    walk_at "go"
    walk_at "if"
    · intro h0
      exact k0 h0
    intro h0
    refine ⟨_, rfl, _, rfl, _, _, rfl, ?_⟩
    walk_at "go"
    have hsn : sh t u ≠ 0 := sh_ne h0
    have hsb : (sh t u).natAbs < 2 ^ 8000 := by
      rw [sh_abs]
      exact Nat.lt_of_le_of_lt (Nat.le_of_dvd (by omega) (Nat.gcd_dvd_right _ _)) hu
    walk_at "if"
    · intro hn
      have es : sh t u = -((Nat.gcd t.natAbs u.natAbs : Nat) : Int) := if_pos hn
      have hd : CDivA t (-((Nat.gcd t.natAbs u.natAbs : Nat) : Int)) := es ▸ divA (b := 8000) hsn hsb (by decide) (by decide)
      walk_at "go"
      refine ⟨hd, ?_⟩
      refine ⟨_, rfl, x, C, dx, [], rfl, hx, T.cl, T.nT, (by show 0 < 1000; decide), ?_⟩
      refine ⟨_, rfl, _, rfl, _, _, rfl, rfl, hd, ?_⟩
      refine ⟨_, rfl, x, C, dx, _, rfl, upd_same, T.cl, T.nU, (by show 1 < 1000; decide), ?_⟩
      refine k h0 _ ?_ (Keeps.upd.trans Keeps.upd)
      rw [upd_same]
      unfold rf nT nU
      rw [es]
    · intro hn
      have es : sh t u = ((Nat.gcd t.natAbs u.natAbs : Nat) : Int) := if_neg hn
      have hd : CDivA t ((Nat.gcd t.natAbs u.natAbs : Nat) : Int) := es ▸ divA (b := 8000) hsn hsb (by decide) (by decide)
      walk_at "go"
      refine ⟨hd, ?_⟩
      refine ⟨_, rfl, x, C, dx, [], rfl, hx, T.cl, T.nT, (by show 0 < 1000; decide), ?_⟩
      refine ⟨_, rfl, _, rfl, _, _, rfl, rfl, hd, ?_⟩
      refine ⟨_, rfl, x, C, dx, _, rfl, upd_same, T.cl, T.nU, (by show 1 < 1000; decide), ?_⟩
      refine k h0 _ ?_ (Keeps.upd.trans Keeps.upd)
      rw [upd_same]
      unfold rf nT nU
      rw [es]
theorem mk_ratio {C ZU f : Addr} {fd : FuncData} (B : Blt mg) (hgcd : mg "gcd" = some (.builtin "math.gcd")) (T : RatC K mg C) (TZ : ExC K mg "ZeroUnder" ZU) (M : Mk K C f)
    (F : FunD K "__init__" "Ratio.__init__" (defArgs s_Ratio_init) (defBody s_Ratio_init) (defScope s_Ratio_init) [.int 1] [] f fd) : CalRatio P w K mg base C ZU [] ∧ CalRatio P w K mg base C ZU [.int 1] := by
  obtain ⟨d2, r2, b2⟩ := F.binds1 (ps := ["self", "top", "under"]) 3 1 (by intro e; cases e) rfl (fun T kV doc pm an cdv ct us its h1 h2 => match us, its, h1, h2 with | [_, _, _], [_], _, _ => ⟨_, rfl, rfl⟩)
  obtain ⟨d1, r1, b1⟩ := F.binds1 (ps := ["self", "top", "under"]) 2 0 (by intro e; cases e) rfl (fun T kV doc pm an cdv ct us its h1 h2 => match us, its, h1, h2 with | [_, _], [_], _, _ => ⟨_, rfl, rfl⟩)
  exact ⟨⟨f, fd, d2, M, ok_init B hgcd T TZ F, T.g, b2, r2⟩, ⟨f, fd, d1, M, ok_init B hgcd T TZ F, T.g, b1, r1⟩⟩
theorem made {C x dx : Addr} {fs : List (Str × V)} {H H' : Hp} (nx : H x = none) (ndx : H dx = none) (hk : Keeps (upd (upd H dx (.own x)) x (.ins C dx fs)) H' x) : Same H H' := fun b o e =>
  hk b o (by rw [upd_ne (ne_of_none e nx), upd_ne (ne_of_none e ndx)]; exact e) (ne_of_none e nx)
end
theorem wide4 {n : Int} {m : Nat} (h : n.natAbs < 2 ^ m) (hm : m ≤ 4000) : n.natAbs < 2 ^ 4000 := Nat.lt_of_lt_of_le h (Nat.pow_le_pow_right (by decide) hm)
theorem wide8 {n : Int} {m : Nat} (h : n.natAbs < 2 ^ m) (hm : m ≤ 8000) : n.natAbs < 2 ^ 8000 := Nat.lt_of_lt_of_le h (Nat.pow_le_pow_right (by decide) hm)

theorem upto_eq {f s c y : Int} (h : RunOk f s c) : (let m := (y - f).fdiv s + 1; let z := if m < c then m else c; if z > 0 then z else 0) = bel f s c (y + 1) := by
  have h1 := h.s1
  have h0 := h.c1
  unfold bel
  simp only [Int.fdiv_eq_ediv_of_nonneg _ (show (0 : Int) ≤ s by omega)]
  rcases s_cases h with rfl | rfl | rfl | rfl <;> split <;> split <;> (try split) <;> (try split) <;> omega
section
variable {P : Program} {w : World} {K : PySem.W.Frag} {mg : Str → Option Value} {base : Heap}
def spTies (BN : Addr) : Sp := fun vs H Q E => ∃ (v : Int), vs = [.int v] ∧ ((v = -1 ∨ v = 0 ∨ v = 1) → ∀ H', Same H H' → Q .non H') ∧ (¬ (v = -1 ∨ v = 0 ∨ v = 1) → Ref E BN H "ties" v)
abbrev CalTies (P : Program) (w : World) (K : PySem.W.Frag) (mg : Str → Option Value) (base : Heap) (BN : Addr) := CalX P w K mg base 3 "check_ties" ["ties"] (spTies BN)
theorem ok_ties {BN : Addr} (TB : BnC K mg BN) (CE : CalE P w K mg base 1 BN) (D : Dfn K mg "check_ties" "check_ties" s_check_ties ["ties"]) : CalTies P w K mg base BN := by
  refine D.calX sc_check_ties (fun vs H Q E h => ?_) (fun f cdv A outer st H vs Q E hr h => ?_)
  · obtain ⟨v, rfl, _⟩ := h
    rfl
  · obtain ⟨v, rfl, k1, k2⟩ := h
    have hr0 : Room 2 _ := hr
    refine ⟨_, (pss_one (ps_if (pt_cmpR op_notIn_seq (pv 0) (pe_tup (pa_cons (pe_un un_neg pe_int) (pa_cons pe_int (pa_cons pe_int pa_nil)))) (by rfl)) (pss_one (ps_raise rfl (takes_of rfl rfl rfl rfl) (pmk_bn TB CE (hr0.mono (by decide)) (pa_cons pe_str (pa_cons (pv 0) pa_nil))))) pss_nil)), ?_⟩
    refine ⟨_, rfl, _, rfl, (by show 3 ≤ sizeLine; decide), fun t ht => ?_⟩
    refine ⟨t, _, rfl, .inr (SqT.of upd_same), rfl, rfl, _, rfl, ?_⟩
    show if (!inV (V.int v) [V.int (-1), V.int 0, V.int 1]) = true then _ else _
    by_cases h : v = -1 ∨ v = 0 ∨ v = 1
    · have e : inV (V.int v) [V.int (-1), V.int 0, V.int 1] = true := by
        rcases h with rfl | rfl | rfl <;> rfl
      rw [e]
      exact iteF (k1 h _ (same_upd ht))
    · have e : inV (V.int v) [V.int (-1), V.int 0, V.int 1] = false := by
        show ((-1 : Int) == v || ((0 : Int) == v || ((1 : Int) == v || false))) = false
        rw [beq_eq_false_iff_ne.mpr (show (-1 : Int) ≠ v by omega), beq_eq_false_iff_ne.mpr (show (0 : Int) ≠ v by omega), beq_eq_false_iff_ne.mpr (show (1 : Int) ≠ v by omega)]
        rfl
      rw [e]
      refine iteT ?_
      exact ⟨_, rfl, bn_made ((k2 h).same (same_upd ht))⟩
def spRatio (C : Addr) : Sp := fun vs H Q _ => ∃ (x : Addr) (t u : Int), vs = [.ref x] ∧ RatAt C H x t u ∧ Q (.bl (decide (u > 0))) H
abbrev CalRatioQ (P : Program) (w : World) (K : PySem.W.Frag) (mg : Str → Option Value) (base : Heap) (C : Addr) := Cal P w K mg base 2 "_law_ratio" ["_law_actual"] (spRatio C)
theorem ok_ratio {C : Addr} (B : Blt mg) (T : RatC K mg C) (D : Dfn K mg "_law_ratio" "_law_ratio" s_ratio ["_law_actual"]) (C_whole : CalWhole P w K mg base) : CalRatioQ P w K mg base C := by
  refine D.cal sc_ratio (fun vs H Q E h => ?_) (fun f cdv A outer st H vs Q E hr h => ?_)
  · obtain ⟨x, t, u, rfl, _⟩ := h
    rfl
  · obtain ⟨x, t, u, rfl, ⟨dx, hx⟩, q⟩ := h
    refine ⟨_, (pss_cons (ps_if (pt_not (pt_val (pe_callB call_isi (by rfl) B.isinstance (by decide +kernel) (pa_cons (pv 0) (pa_cons (pe_glob (v := .ref _) (by rfl) T.g rfl) pa_nil))))) (pss_one (ps_ret (pe_bl))) pss_nil)
      (pss_one (ps_ret ((pe_and (pe_cal C_whole (hr.mono (by decide)) (pa_cons (pe_fld (pv 0) rfl) pa_nil)) (pe_and (pe_cal C_whole (hr.mono (by decide)) (pa_cons (pe_fld (pv 0) rfl) pa_nil)) (pe_one (pe_cmpR op_gt (pe_fld (pv 0) rfl) (pe_int) (nomark _))))))))), ?_⟩
    refine ⟨_, rfl, _, _, _, _, true, rfl, .own _, T.tyX hx, kit_self _, _, rfl, iteF ?_⟩
    refine ⟨_, rfl, x, C, dx, _, _, rfl, hx, T.cl, T.nT, rf_top _ _, t, rfl, _, rfl, iteT ?_⟩
    refine ⟨_, rfl, x, C, dx, _, _, rfl, hx, T.cl, T.nU, rf_under _ _, u, rfl, _, rfl, iteT ?_⟩
    refine ⟨_, rfl, x, C, dx, _, _, rfl, hx, T.cl, T.nU, rf_under _ _, _, _, rfl, rfl, ?_⟩
    exact q

def Row (H : Hp) (t : Addr) (f s c : Int) : Prop := H t = some (.tup [.int f, .int s, .int c])
theorem Row.ne_pool {H : Hp} {t : Addr} {p : Pla} {f s c : Int} (h : Row H t f s c) (hp : Pool H p) : t ≠ p := by
  obtain ⟨ns, i, b, c, d, h1, _⟩ := hp
  exact ne_of h h1 (by intro z; cases z)
theorem Row.keep {H H' : Hp} {t p : Addr} {f s c : Int} (h : Row H t f s c) (k : Keeps H H' p) (n : t ≠ p) : Row H' t f s c := k _ _ h n
structure RowOk (f s c : Int) : Prop where
  ok : RunOk f s c
  fb : f < 10 ^ 60
  cb : c ≤ 10 ^ 60
  one : c = 1 → s = 1
def spGR : Sp := fun vs H Q _ => ∃ (p : Pla), vs = [.ref p] ∧ Pool H p ∧ ∀ (t : Addr) (f s c : Int) (H' : Hp), Pool H' p → Keeps H H' p → H t = none → Row H' t f s c → RowOk f s c → Q (.ref t) H'
abbrev CalGR (P : Program) (w : World) (K : PySem.W.Frag) (mg : Str → Option Value) (base : Heap) := Cal P w K mg base 5 "_law_great_run" ["_law_pool_here"] spGR
theorem ok_great_run (B : Blt mg) (D : Dfn K mg "_law_great_run" "_law_great_run" s_great_run ["_law_pool_here"]) (C_draw : CalDraw P w K mg base) (C_any : CalAny P w K mg base) : CalGR P w K mg base := by
  refine D.cal sc_great_run (fun vs H Q E h => ?_) (fun f cdv A outer st H vs Q E hr h => ?_)
  · obtain ⟨p, rfl, _⟩ := h
    rfl
  · obtain ⟨p, rfl, hP, k⟩ := h
    refine ⟨_, (pss_cons (ps_set (i := 1) sc_great_run.nd rfl (Or.inl rfl) (pe_cal C_draw (hr.mono (by decide)) (pa_cons (pv 0) (pa_cons (pe_int) pa_nil))))
      (pss_cons (ps_set (i := 2) sc_great_run.nd rfl (Or.inl rfl) (pe_op op_add (pe_int) (pe_cal C_draw (hr.mono (by decide)) (pa_cons (pv 0) (pa_cons (pe_int) pa_nil)))))
      (Evl.pss_cut (ps_if (pt_cmpR op_eq (pe_cal C_draw (hr.mono (by decide)) (pa_cons (pv 0) (pa_cons (pe_int) pa_nil))) (pe_int) (nomark _)) (pss_one (ps_set (i := 1) sc_great_run.nd rfl (Or.inl rfl) (pe_cal C_any (hr.mono (by decide)) (pa_cons (pv 0) pa_nil)))) pss_nil)
      (Evl.pss_cut (ps_if (pt_cmpR op_eq (pe_cal C_draw (hr.mono (by decide)) (pa_cons (pv 0) (pa_cons (pe_int) pa_nil))) (pe_int) (nomark _)) (pss_one (ps_set (i := 2) sc_great_run.nd rfl (Or.inl rfl) (pe_op op_add (pe_int) (pe_cal C_any (hr.mono (by decide)) (pa_cons (pv 0) pa_nil))))) pss_nil)
      (pss_cons (ps_set (i := 3) sc_great_run.nd rfl (Or.inl rfl) (pe_op op_add (pe_int) (pe_cal C_draw (hr.mono (by decide)) (pa_cons (pv 0) (pa_cons (pe_int) pa_nil)))))
      (Evl.pss_cut (ps_if (pt_cmpR op_eq (pv 2) (pe_int) (nomark _)) (pss_one (ps_set (i := 3) sc_great_run.nd rfl (Or.inl rfl) (pe_int))) pss_nil)
      (pss_one (ps_ret (pe_tup (pa_cons (pv 1) (pa_cons (pv 3) (pa_cons (pv 2) pa_nil)))))))))))), ?_⟩
    refine ⟨_, rfl, p, 9, rfl, hP, by decide, by decide, fun f0 Ha fa fb hPa ka => ?_⟩
    refine ⟨_, rfl, p, 7, rfl, hPa, by decide, by decide, fun c0 Hb ca cb hPb kb => ?_⟩
    refine ⟨_, _, rfl, rfl, ?_⟩
    refine ⟨fun σ' H' => ∃ f : Int, σ' = [some (.ref (p : Addr)), some (.int f), some (.int (1 + c0)), none] ∧ 0 ≤ f ∧ f < 10 ^ 60 ∧ Pool H' p ∧ Keeps H H' p, ?_, ?_⟩
    · refine ⟨_, rfl, p, 2, rfl, hPb, by decide, by decide, fun r Hc r0 r1 hPc kc => ?_⟩
      walk_at "go"
      walk_at "if"
      · intro _
        refine ⟨_, rfl, p, rfl, hPc, fun f Hd f0 f1 hPd kd => ?_⟩
        exact ⟨f, rfl, f0, f1, hPd, ((ka.trans kb).trans kc).trans kd⟩
      · intro _
        exact ⟨f0, rfl, fa, by omega, hPc, (ka.trans kb).trans kc⟩
    rintro σ' H1 ⟨f, rfl, f0, f1, hP1, k1⟩
    refine ⟨fun σ' H' => ∃ c : Int, σ' = [some (.ref (p : Addr)), some (.int f), some (.int c), none] ∧ 1 ≤ c ∧ c ≤ 10 ^ 60 ∧ Pool H' p ∧ Keeps H H' p, ?_, ?_⟩
    · refine ⟨_, rfl, p, 2, rfl, hP1, by decide, by decide, fun r Hc r0 r1 hPc kc => ?_⟩
      walk_at "go"
      walk_at "if"
      · intro _
        refine ⟨_, rfl, p, rfl, hPc, fun c Hd c0 c1 hPd kd => ?_⟩
        exact ⟨_, _, rfl, rfl, 1 + c, rfl, by omega, by omega, hPd, (k1.trans kc).trans kd⟩
      · intro _
        exact ⟨1 + c0, rfl, by omega, by omega, hPc, k1.trans kc⟩
    rintro σ' H2 ⟨c, rfl, c1, c2, hP2, k2⟩
    refine ⟨_, rfl, p, 4, rfl, hP2, by decide, by decide, fun s H3 s0 s1 hP3 k3 => ?_⟩
    refine ⟨_, _, rfl, rfl, ?_⟩
    refine ⟨fun σ' H' => ∃ s : Int, σ' = [some (.ref (p : Addr)), some (.int f), some (.int c), some (.int s)] ∧ 1 ≤ s ∧ s ≤ 4 ∧ (c = 1 → s = 1) ∧ H' = H3, ?_, ?_⟩
    · walk_at "go"
      walk_at "if"
      · intro hc
        exact ⟨1, rfl, by decide, by decide, fun _ => rfl, rfl⟩
      · intro hc
        exact ⟨1 + s, rfl, by omega, by omega, fun h => absurd h hc, rfl⟩
    rintro σ' H4 ⟨s, rfl, s1, s4, hs, rfl⟩
    refine ⟨_, rfl, _, rfl, _, rfl, (by show 3 ≤ sizeLine; decide), fun t ht => ?_⟩
    have ht0 : H t = none := (k2.trans k3).free ht (hP3.apart ht).1
    exact k t f s c _ (hP3.upd ht) ((k2.trans k3).trans (same_keeps (same_upd ht))) ht0 upd_same ⟨⟨f0, s1, s4, c1⟩, f1, c2, hs⟩
def spLastRow : Sp := fun vs H Q _ => ∃ (t : Addr) (f s c : Int), vs = [.ref t] ∧ Row H t f s c ∧ RowOk f s c ∧ Q (.int (f + s * (c - 1))) H
abbrev CalLastRow (P : Program) (w : World) (K : PySem.W.Frag) (mg : Str → Option Value) (base : Heap) := Cal P w K mg base 1 "_law_last" ["_law_row"] spLastRow
theorem ok_last_row (D : Dfn K mg "_law_last" "_law_last" s_last ["_law_row"]) : CalLastRow P w K mg base := by
  refine D.cal sc_last (fun vs H Q E h => ?_) (fun f cdv A outer st H vs Q E hr h => ?_)
  · obtain ⟨t, f, s, c, rfl, _⟩ := h
    rfl
  · obtain ⟨t, f, s, c, rfl, ht, ok, q⟩ := h
    have := ok.ok.s1
    have := ok.ok.s4
    refine ⟨_, (pss_one (ps_ret (pe_op op_add (pe_ix ix_tup (pv 0) (pe_int) (fun _ _ => rfl)) (pe_op op_mul (pe_ix ix_tup (pv 0) (pe_int) (fun _ _ => rfl)) (pe_op op_sub (pe_ix ix_tup (pv 0) (pe_int) (fun _ _ => rfl)) (pe_int)))))), ?_⟩
    refine ⟨_, rfl, _, _, _, _, rfl, rfl, SqT.of ht, rfl, ?_⟩
    refine ⟨_, rfl, _, _, _, _, rfl, rfl, SqT.of ht, rfl, ?_⟩
    refine ⟨_, rfl, _, _, _, _, rfl, rfl, SqT.of ht, rfl, ?_⟩
    exact ⟨_, _, rfl, rfl, _, _, rfl, rfl, .inl ⟨by omega, by omega⟩, _, _, rfl, rfl, q⟩
theorem near_ix {r : Int} (h0 : 0 ≤ r) (h1 : r < 4) : ∃ M : Int, atI [V.int 0, V.int 1, V.int 2, V.int (-1)] r = some (V.int M) ∧ -1 ≤ M ∧ M ≤ 2 := by
  have : r = 0 ∨ r = 1 ∨ r = 2 ∨ r = 3 := by omega
  rcases this with rfl | rfl | rfl | rfl
  · exact ⟨0, rfl, by omega, by omega⟩
  · exact ⟨1, rfl, by omega, by omega⟩
  · exact ⟨2, rfl, by omega, by omega⟩
  · exact ⟨-1, rfl, by omega, by omega⟩
def spBeside : Sp := fun vs H Q _ => ∃ (p : Pla) (t : Addr) (f s c : Int), vs = [.ref p, .ref t] ∧ Pool H p ∧ Row H t f s c ∧ RowOk f s c ∧ ∀ (k : Int) (H' : Hp), k.natAbs < 2 ^ 210 → Pool H' p → Keeps H H' p → Q (.int k) H'
abbrev CalBeside (P : Program) (w : World) (K : PySem.W.Frag) (mg : Str → Option Value) (base : Heap) := Cal P w K mg base 6 "_law_beside" ["_law_pool_here", "_law_row"] spBeside
theorem ok_beside (B : Blt mg) (D : Dfn K mg "_law_beside" "_law_beside" s_beside ["_law_pool_here", "_law_row"]) (C_draw : CalDraw P w K mg base) (C_any : CalAny P w K mg base) (C_last : CalLastRow P w K mg base) : CalBeside P w K mg base := by
  refine D.cal sc_beside (fun vs H Q E h => ?_) (fun f cdv A outer st H vs Q E hr h => ?_)
  · obtain ⟨p, t, f, s, c, rfl, _⟩ := h
    rfl
  · obtain ⟨p, t, f, s, c, rfl, hP, ht, ok, k⟩ := h
    have := ok.ok.s1
    have := ok.ok.s4
    have := ok.ok.c1
    have := ok.ok.f0
    have := ok.fb
    have := ok.cb
    have lb : 0 ≤ s * (c - 1) ∧ s * (c - 1) ≤ 4 * 10 ^ 60 := by
      rcases s_cases ok.ok with rfl | rfl | rfl | rfl <;> omega
    have tp := ht.ne_pool hP
    refine ⟨_, (pss_cons (ps_set (i := 2) sc_beside.nd rfl (Or.inl rfl) (pe_cal C_draw (hr.mono (by decide)) (pa_cons (pv 0) (pa_cons (pe_int) pa_nil))))
      (pss_cons (ps_if (pt_cmpR op_eq (pv 2) (pe_int) (nomark _)) (pss_one (ps_ret (pe_op op_add (pe_ix ix_tup (pv 1) (pe_int) (fun _ _ => rfl)) (pe_ix ix_tup (pe_tup (pa_cons (pe_int) (pa_cons (pe_int) (pa_cons (pe_int) (pa_cons (pe_un un_neg (pe_int)) pa_nil))))) (pe_cal C_draw (hr.mono (by decide)) (pa_cons (pv 0) (pa_cons (pe_int) pa_nil))) (fun _ _ => rfl))))) pss_nil)
      (pss_cons (ps_if (pt_cmpR op_eq (pv 2) (pe_int) (nomark _)) (pss_one (ps_ret (pe_op op_add (pe_cal C_last (hr.mono (by decide)) (pa_cons (pv 1) pa_nil)) (pe_ix ix_tup (pe_tup (pa_cons (pe_int) (pa_cons (pe_int) (pa_cons (pe_int) (pa_cons (pe_un un_neg (pe_int)) pa_nil))))) (pe_cal C_draw (hr.mono (by decide)) (pa_cons (pv 0) (pa_cons (pe_int) pa_nil))) (fun _ _ => rfl))))) pss_nil)
      (pss_cons (ps_if (pt_cmpR op_eq (pv 2) (pe_int) (nomark _)) (pss_one (ps_ret (pe_cal C_any (hr.mono (by decide)) (pa_cons (pv 0) pa_nil)))) pss_nil)
      (pss_cons (ps_if (pt_cmpR op_eq (pv 2) (pe_int) (nomark _)) (pss_one (ps_ret (pe_op op_sub (pe_un un_neg (pe_int)) (pe_cal C_any (hr.mono (by decide)) (pa_cons (pv 0) pa_nil))))) pss_nil)
      (pss_one (ps_ret (pe_op op_add (pe_ix ix_tup (pv 1) (pe_int) (fun _ _ => rfl)) (pe_op op_modN (pe_callTy call_int1 (by rfl) B.int (by decide +kernel) (pa_cons (pe_cal C_any (hr.mono (by decide)) (pa_cons (pv 0) pa_nil)) pa_nil)) (pe_op op_add (pe_op op_sub (pe_cal C_last (hr.mono (by decide)) (pa_cons (pv 1) pa_nil)) (pe_ix ix_tup (pv 1) (pe_int) (fun _ _ => rfl))) (pe_int))))))))))), ?_⟩
    refine ⟨_, rfl, p, 5, rfl, hP, by decide, by decide, fun r H1 r0 r1 hP1 k1 => ?_⟩
    have ht1 := ht.keep k1 tp
    walk_at "go"
    walk_at "if"
    · intro _
      refine ⟨_, rfl, _, _, _, _, rfl, rfl, SqT.of ht1, rfl, ?_⟩
      walk_at "go"
      refine ⟨(by show 4 ≤ sizeLine; decide), fun u hu => ?_⟩
      refine ⟨_, rfl, p, 4, rfl, hP1.upd hu, by decide, by decide, fun r H2 r0 r1 hP2 k2 => ?_⟩
      obtain ⟨M, eM, M1, M2⟩ := near_ix r0 r1
      have hu2 := k2 _ _ upd_same ((hP1.apart hu).1)
      refine ⟨_, _, _, _, rfl, rfl, SqT.of hu2, eM, ?_⟩
      exact ⟨_, _, rfl, rfl, k _ _ (by omega) hP2 ((k1.trans (same_keeps (same_upd hu))).trans k2)⟩
    intro _
    walk_at "go"
    walk_at "if"
    · intro _
      refine ⟨_, rfl, t, f, s, c, rfl, ht1, ok, ?_⟩
      walk_at "go"
      refine ⟨(by show 4 ≤ sizeLine; decide), fun u hu => ?_⟩
      refine ⟨_, rfl, p, 4, rfl, hP1.upd hu, by decide, by decide, fun r H2 r0 r1 hP2 k2 => ?_⟩
      obtain ⟨M, eM, M1, M2⟩ := near_ix r0 r1
      have hu2 := k2 _ _ upd_same ((hP1.apart hu).1)
      refine ⟨_, _, _, _, rfl, rfl, SqT.of hu2, eM, ?_⟩
      exact ⟨_, _, rfl, rfl, k _ _ (by omega) hP2 ((k1.trans (same_keeps (same_upd hu))).trans k2)⟩
    intro _
    walk_at "go"
    walk_at "if"
    · intro _
      exact ⟨_, rfl, p, rfl, hP1, fun x H2 x0 x1 hP2 k2 => k _ _ (by omega) hP2 (k1.trans k2)⟩
    intro _
    walk_at "go"
    walk_at "if"
    · intro _
      exact ⟨_, rfl, _, rfl, p, rfl, hP1, fun x H2 x0 x1 hP2 k2 => ⟨_, _, rfl, rfl, k _ _ (by omega) hP2 (k1.trans k2)⟩⟩
    intro _
    refine ⟨_, rfl, _, _, _, _, rfl, rfl, SqT.of ht1, rfl, ?_⟩
    refine ⟨_, rfl, p, rfl, hP1, fun x H2 x0 x1 hP2 k2 => ?_⟩
    have ht2 := ht1.keep k2 tp
    refine .inl ⟨_, rfl, ?_⟩
    refine ⟨_, rfl, t, f, s, c, rfl, ht2, ok, ?_⟩
    refine ⟨_, rfl, _, _, _, _, rfl, rfl, SqT.of ht2, rfl, ?_⟩
    refine ⟨_, _, rfl, rfl, _, _, rfl, rfl, ?_⟩
    have hd : (0 : Int) < f + s * (c - 1) - f + 2 := by omega
    have bm := fm x hd
    refine ⟨_, _, rfl, rfl, (show f + s * (c - 1) - f + 2 ≠ 0 by omega), ?_⟩
    exact ⟨_, _, rfl, rfl, k _ _ (by omega) hP2 (k1.trans k2)⟩
def spHeld (D : Addr) : Sp := fun vs H Q _ => ∃ (x t : Addr) (f s c : Int), vs = [.ref x, .ref t] ∧ RunAt D H x f s c ∧ Row H t f s c ∧ ∀ H', Same H H' → Q (.bl true) H'
abbrev CalHeld (P : Program) (w : World) (K : PySem.W.Frag) (mg : Str → Option Value) (base : Heap) (D : Addr) := Cal P w K mg base 3 "_law_held" ["_law_run", "_law_row"] (spHeld D)
theorem ok_held {D : Addr} (B : Blt mg) (T : RunC K mg D) (Df : Dfn K mg "_law_held" "_law_held" s_held ["_law_run", "_law_row"]) (C_whole : CalWhole P w K mg base) : CalHeld P w K mg base D := by
  refine Df.cal sc_held (fun vs H Q E h => ?_) (fun f cdv A outer st H vs Q E hr h => ?_)
  · obtain ⟨x, t, f, s, c, rfl, _⟩ := h
    rfl
  · obtain ⟨x, t, f, s, c, rfl, ⟨dx, hx⟩, ht, q⟩ := h
    refine ⟨_, (pss_cons (ps_if (PW.pt (pw_or (pt_not (pt_val (pe_callB call_isi (by rfl) B.isinstance (by decide +kernel) (pa_cons (pv 0) (pa_cons (pe_glob (v := .ref _) (by rfl) T.g rfl) pa_nil))))) (pw_or (pt_not (pt_val (pe_cal C_whole (hr.mono (by decide)) (pa_cons (pe_fld (pv 0) rfl) pa_nil)))) (pw_or1 (pt_not (pt_val (pe_cal C_whole (hr.mono (by decide)) (pa_cons (pe_fld (pv 0) rfl) pa_nil)))))))) (pss_one (ps_ret (pe_bl))) pss_nil)
      (pss_one (ps_ret ((pe_and (pe_cal C_whole (hr.mono (by decide)) (pa_cons (pe_fld (pv 0) rfl) pa_nil)) (pe_one (pe_cmpR (op_eqD hr.units) (pe_tup (pa_cons (pe_fld (pv 0) rfl) (pa_cons (pe_fld (pv 0) rfl) (pa_cons (pe_fld (pv 0) rfl) pa_nil)))) (pv 1) (nomark _)))))))), ?_⟩
    refine ⟨_, rfl, _, _, _, _, true, rfl, .own _, T.tyX hx, kit_self _, _, rfl, iteF ?_⟩
    refine ⟨_, rfl, x, D, dx, _, _, rfl, hx, T.cl, T.nF, gf_first _ _ _, _, rfl, _, rfl, iteF ?_⟩
    refine ⟨_, rfl, x, D, dx, _, _, rfl, hx, T.cl, T.nS, gf_step _ _ _, _, rfl, _, rfl, iteF ?_⟩
    refine ⟨_, rfl, x, D, dx, _, _, rfl, hx, T.cl, T.nC, gf_count _ _ _, _, rfl, _, rfl, iteT ?_⟩
    refine ⟨_, rfl, x, D, dx, _, _, rfl, hx, T.cl, T.nF, gf_first _ _ _, ?_⟩
    refine ⟨_, rfl, x, D, dx, _, _, rfl, hx, T.cl, T.nS, gf_step _ _ _, ?_⟩
    refine ⟨_, rfl, x, D, dx, _, _, rfl, hx, T.cl, T.nC, gf_count _ _ _, ?_⟩
    refine ⟨(by show 3 ≤ sizeLine; decide), fun u hu => ?_⟩
    refine ⟨_, rfl, .tuple [.int f, .int s, .int c], .tuple [.int f, .int s, .int c], .tup (SqT.of upd_same) (.cons (.int _) (.cons (.int _) (.cons (.int _) .nil))), .tup (SqT.of (same_upd hu _ _ ht)) (.cons (.int _) (.cons (.int _) (.cons (.int _) .nil))), rfl, rfl, ?_⟩
    rw [SeqAt.eqv_refl _ rfl]
    exact q _ (same_upd hu)
def spSame (C : Addr) : Sp := fun vs H Q _ => ∃ (x t : Addr) (a b n m : Int), vs = [.ref x, .ref t] ∧ RatAt C H x a b ∧ 0 < b ∧ H t = some (.tup [.int n, .int m]) ∧ a.natAbs < 2 ^ 4000 ∧ b.natAbs < 2 ^ 4000 ∧ n.natAbs < 2 ^ 4000 ∧ m.natAbs < 2 ^ 4000 ∧ a * m = n * b ∧ Q (.bl true) H
abbrev CalSame (P : Program) (w : World) (K : PySem.W.Frag) (mg : Str → Option Value) (base : Heap) (C : Addr) := Cal P w K mg base 3 "_law_same" ["_law_actual", "_law_due"] (spSame C)
theorem ok_same {C : Addr} (B : Blt mg) (T : RatC K mg C) (D : Dfn K mg "_law_same" "_law_same" s_same ["_law_actual", "_law_due"]) (C_ratio : CalRatioQ P w K mg base C) : CalSame P w K mg base C := by
  refine D.cal sc_same (fun vs H Q E h => ?_) (fun f cdv A outer st H vs Q E hr h => ?_)
  · obtain ⟨x, t, a, b, n, m, rfl, _⟩ := h
    rfl
  · obtain ⟨x, t, a, b, n, m, rfl, ⟨dx, hx⟩, hb, ht, z1, z2, z3, z4, e, q⟩ := h
    refine ⟨_, (pss_cons (ps_if (pt_not (pt_val (pe_cal C_ratio (hr.mono (by decide)) (pa_cons (pv 0) pa_nil)))) (pss_one (ps_ret (pe_bl))) pss_nil)
      (pss_one (ps_ret (pe_cmpR op_eq (pe_op op_mulW (pe_fld (pv 0) rfl) (pe_ix ix_tup (pv 1) (pe_int) (fun _ _ => rfl))) (pe_op op_mulW (pe_ix ix_tup (pv 1) (pe_int) (fun _ _ => rfl)) (pe_fld (pv 0) rfl)) (nomark _))))), ?_⟩
    refine ⟨_, rfl, x, a, b, rfl, ⟨dx, hx⟩, _, rfl, ?_⟩
    rw [decide_eq_true hb]
    refine iteF ?_
    refine ⟨_, rfl, x, C, dx, _, _, rfl, hx, T.cl, T.nT, rf_top _ _, ?_⟩
    refine ⟨_, rfl, _, _, _, _, rfl, rfl, SqT.of ht, rfl, _, _, rfl, rfl, wide_mul z1 z4 (by decide) (by decide) (by decide), ?_⟩
    refine ⟨_, rfl, _, _, _, _, rfl, rfl, SqT.of ht, rfl, ?_⟩
    refine ⟨_, rfl, x, C, dx, _, _, rfl, hx, T.cl, T.nU, rf_under _ _, _, _, rfl, rfl, wide_mul z3 z2 (by decide) (by decide) (by decide), rfl, ?_⟩
    have e2 : decide (V.int (a * m) = V.int (n * b)) = true := decide_eq_true (by rw [e])
    show Q (V.bl (decide (V.int (a * m) = V.int (n * b)))) _
    rw [e2]
    exact q
end
end L

set_option Elab.async false
set_option linter.all false
set_option maxRecDepth 100000
set_option maxHeartbeats 4000000
set_option pp.maxSteps 160
set_option pp.deepTerms false
namespace L
open PySem PySem.Spec PyProof.Rows L2 Fl
local macro_rules | `(tactic| walk_at "side") => `(tactic| first | (exact .inl ⟨by omega, by omega⟩) | (exact .inr ⟨by omega, by omega⟩) | (exact .inr ⟨by decide, by decide⟩) | (show (_ : Int) ≠ _; omega) | (exact ⟨by omega, by decide⟩) | (exact ⟨by decide, by decide, by decide⟩))
local macro_rules | `(tactic| walk_at "go") => `(tactic| repeat (first | refine ⟨_, rfl, ?_⟩ | refine ⟨_, _, rfl, rfl, ?_⟩ | refine .inl ⟨_, rfl, ?_⟩ | refine ⟨rfl, ?_⟩ | refine ⟨(by walk_at "side"), ?_⟩))
local macro_rules | `(tactic| walk_at "see") => `(tactic| (set_option pp.maxSteps 110 in set_option pp.deepTerms false in trace_state))
local macro_rules | `(tactic| walk_at "if") => `(tactic| first | refine ifE ?_ ?_ | refine ifNE ?_ ?_ | refine ifD ?_ ?_ | refine ifN ?_ ?_ | refine ifB ?_ ?_)
section
variable {P : Program} {w : World} {K : PySem.W.Frag} {mg : Str → Option Value} {base : Heap}

def wonV (f s c k v : Int) : Int := (c - bel f s c (k + 1)) - bel f s c k + v * (c - (c - bel f s c (k + 1)) - bel f s c k)
def spLead (D : Addr) : Sp := fun vs H Q _ => ∃ (x : Addr) (f s c k v : Int), vs = [.ref x, .int k, .int v] ∧ RunAt D H x f s c ∧ RunOk f s c ∧ (v = -1 ∨ v = 0 ∨ v = 1) ∧ Q (.int (wonV f s c k v)) H
abbrev CalLead (P : Program) (w : World) (K : PySem.W.Frag) (mg : Str → Option Value) (base : Heap) (D : Addr) := Cal P w K mg base 5 "lead" ["run", "k", "ties"] (spLead D)
theorem ok_lead {D : Addr} (T : RunC K mg D) (C_below : CalM P w K mg base 3 D "below" ["self", "k"] (spBelow D)) (C_above : CalM P w K mg base 4 D "above" ["self", "k"] (spAbove D)) (Df : Dfn K mg "lead" "lead" s_lead ["run", "k", "ties"]) : CalLead P w K mg base D := by
  obtain ⟨_, _, m_below, F_below, b_below⟩ := C_below.ex
  obtain ⟨_, _, m_above, F_above, b_above⟩ := C_above.ex
  refine Df.cal sc_lead (fun vs H Q E h => ?_) (fun fA cdv A outer st H vs Q E hr h => ?_)
  · obtain ⟨x, f, s, c, k, v, rfl, _⟩ := h
    rfl
  · obtain ⟨x, f, s, c, k, v, rfl, ⟨dx, hx⟩, ok, hv, q⟩ := h
    refine ⟨_, (pss_cons (ps_set (i := 3) sc_lead.nd rfl (Or.inl rfl) (pe_meth (pv 0) T.cl m_above F_above (hr.mono (by decide)) b_above .nil pass0 (pa_cons (pv 1) pa_nil)))
      (pss_cons (ps_set (i := 4) sc_lead.nd rfl (Or.inl rfl) (pe_meth (pv 0) T.cl m_below F_below (hr.mono (by decide)) b_below .nil pass0 (pa_cons (pv 1) pa_nil)))
      (pss_one (ps_ret (pe_op op_add (pe_op op_sub (pv 3) (pv 4)) (pe_op op_mul (pv 2) (pe_op op_sub (pe_op op_sub (pe_fld (pv 0) rfl) (pv 3)) (pv 4)))))))), ?_⟩
    refine ⟨_, rfl, x, dx, _, rfl, hx, gf_no _ _ _ (by decide +kernel) (by decide +kernel) (by decide +kernel), _, rfl, x, f, s, c, k, rfl, ⟨dx, hx⟩, ok, ?_⟩
    refine ⟨_, rfl, x, dx, _, rfl, hx, gf_no _ _ _ (by decide +kernel) (by decide +kernel) (by decide +kernel), _, rfl, x, f, s, c, k, rfl, ⟨dx, hx⟩, ok, ?_⟩
    refine ⟨_, rfl, _, rfl, _, _, rfl, rfl, ?_⟩
    refine ⟨_, rfl, _, rfl, x, D, dx, _, _, rfl, hx, T.cl, T.nC, gf_count _ _ _, ?_⟩
    refine ⟨_, rfl, _, _, rfl, rfl, _, rfl, _, _, rfl, rfl, _, _, rfl, rfl, .inl ⟨by omega, by omega⟩, ?_⟩
    exact ⟨_, _, rfl, rfl, q⟩
def spGain (C D BN : Addr) : Sp := fun vs H Q E => ∃ (x : Addr) (f s c k v : Int), vs = [.ref x, .int k, .int v] ∧ RunAt D H x f s c ∧ RunOk f s c ∧ c.natAbs < 2 ^ 8000 ∧ (¬ (v = -1 ∨ v = 0 ∨ v = 1) → Ref E BN H "ties" v) ∧
  ((v = -1 ∨ v = 0 ∨ v = 1) → ∀ (z : Addr) (H' : Hp), Same H H' → RatAt C H' z (nT (wonV f s c k v) c) (nU (wonV f s c k v) c) → Q (.ref z) H')
theorem ok_gain {C ZU D BN fA : Addr} {fd : FuncData} (T : RunC K mg D) (C_check_ties : CalTies P w K mg base BN) (C_lead : CalLead P w K mg base D) (M2 : CalRatio P w K mg base C ZU []) (F : FunD K "gain" "Run.gain" (defArgs s_Run_gain) (defBody s_Run_gain) (defScope s_Run_gain) [] [("ties", .int 0)] fA fd) :
    FnOk P w K mg base (L2.CX P w) 6 fA fd ["self", "k", "ties"] (spGain C D BN) := by
  refine F.ok sc_Run_gain (fun vs H Q E h => ?_) (fun cdv A outer st H vs Q E hr h => ?_)
  · obtain ⟨x, f, s, c, k, v, rfl, _⟩ := h
    rfl
  · obtain ⟨x, f, s, c, k, v, rfl, ⟨dx, hx⟩, ok, hc, k1, k2⟩ := h
    have := ok.c1
    refine ⟨_, pss_cons (ps_expr (pe_calS C_check_ties (takes_of rfl rfl rfl rfl) (hr.mono (by decide)) (pa_cons (pv 2) pa_nil))) (PSs.nox (pss_one (ps_ret (pe_mk M2 (hr.mono (by decide)) (pa_cons (pe_cal C_lead (hr.mono (by decide)) (pa_cons (pv 0) (pa_cons (pv 1) (pa_cons (pv 2) pa_nil)))) (pa_cons (pe_fld (pv 0) rfl) pa_nil)))))), ?_⟩
    refine ⟨_, rfl, v, rfl, fun hv H1 s1 => ?_, fun hv => k1 hv⟩
    have hx1 := s1 _ _ hx
    refine ⟨_, rfl, _, rfl, _, rfl, x, f, s, c, k, v, rfl, ⟨dx, hx1⟩, ok, hv, ?_⟩
    refine ⟨_, rfl, x, D, dx, _, _, rfl, hx1, T.cl, T.nC, gf_count _ _ _, ?_⟩
    refine fun z dz nz ndz ne => ?_
    refine ⟨z, dz, _, c, rfl, upd_same, hc, fun _ H2 hz hk => ⟨rfl, ?_⟩, fun h => absurd h (by omega)⟩
    exact k2 hv z H2 (s1.trans (made nz ndz hk)) ⟨dz, hz⟩
def spUpto : Sp := fun vs H Q _ => ∃ (t : Addr) (f s c y : Int), vs = [.ref t, .int y] ∧ Row H t f s c ∧ RowOk f s c ∧ Q (.int (bel f s c (y + 1))) H
abbrev CalUpto (P : Program) (w : World) (K : PySem.W.Frag) (mg : Str → Option Value) (base : Heap) := Cal P w K mg base 1 "_law_upto" ["_law_row", "_law_y"] spUpto
theorem ok_upto (B : Blt mg) (D : Dfn K mg "_law_upto" "_law_upto" s_upto ["_law_row", "_law_y"]) : CalUpto P w K mg base := by
  refine D.cal sc_upto (fun vs H Q E h => ?_) (fun fA cdv A outer st H vs Q E hr h => ?_)
  · obtain ⟨t, f, s, c, y, rfl, _⟩ := h
    rfl
  · obtain ⟨t, f, s, c, y, rfl, ht, ok, q⟩ := h
    rw [← upto_eq ok.ok] at q
    have := ok.ok.s1
    have := ok.ok.s4
    refine ⟨_, (pss_one (ps_ret (pe_callB (call_max2 rfl) (by rfl) B.max (by decide +kernel) (pa_cons (pe_int) (pa_cons (pe_callB (call_min2 rfl) (by rfl) B.min (by decide +kernel) (pa_cons (pe_callTy call_int1 (by rfl) B.int (by decide +kernel) (pa_cons (pe_ix ix_tup (pv 0) (pe_int) (fun _ _ => rfl)) pa_nil)) (pa_cons (pe_op op_add (pe_op op_fdivA (pe_op op_sub (pv 1) (pe_ix ix_tup (pv 0) (pe_int) (fun _ _ => rfl))) (pe_ix ix_tup (pv 0) (pe_int) (fun _ _ => rfl))) (pe_int)) pa_nil))) pa_nil))))), ?_⟩
    refine ⟨_, rfl, _, _, _, _, rfl, rfl, SqT.of ht, rfl, .inl ⟨_, rfl, ?_⟩⟩
    refine ⟨_, rfl, _, rfl, _, _, _, _, rfl, rfl, SqT.of ht, rfl, _, _, rfl, rfl, ?_⟩
    refine ⟨_, rfl, _, _, _, _, rfl, rfl, SqT.of ht, rfl, _, _, rfl, rfl, divA (b := 20) (by omega) (by omega) (by decide) (by decide), ?_⟩
    exact ⟨_, _, rfl, rfl, _, _, rfl, _, _, rfl, q⟩
def spWon : Sp := fun vs H Q _ => ∃ (t : Addr) (f s c y v : Int), vs = [.ref t, .int y, .int v] ∧ Row H t f s c ∧ RowOk f s c ∧ (v = -1 ∨ v = 0 ∨ v = 1) ∧ Q (.int (wonV f s c y v)) H
abbrev CalWon (P : Program) (w : World) (K : PySem.W.Frag) (mg : Str → Option Value) (base : Heap) := Cal P w K mg base 2 "_law_won" ["_law_row", "_law_y", "_law_rule"] spWon
theorem ok_won (D : Dfn K mg "_law_won" "_law_won" s_won ["_law_row", "_law_y", "_law_rule"]) (C_upto : CalUpto P w K mg base) : CalWon P w K mg base := by
  refine D.cal sc_won (fun vs H Q E h => ?_) (fun fA cdv A outer st H vs Q E hr h => ?_)
  · obtain ⟨t, f, s, c, y, v, rfl, _⟩ := h
    rfl
  · obtain ⟨t, f, s, c, y, v, rfl, ht, ok, hv, q⟩ := h
    have e : wonV f s c y v = c - bel f s c (y + 1) - bel f s c y + v * (bel f s c (y + 1) - bel f s c y) := by
      unfold wonV
      rw [show c - (c - bel f s c (y + 1)) - bel f s c y = bel f s c (y + 1) - bel f s c y by omega]
    rw [e] at q
    refine ⟨_, (pss_cons (ps_set (i := 3) sc_won.nd rfl (Or.inl rfl) (pe_cal C_upto (hr.mono (by decide)) (pa_cons (pv 0) (pa_cons (pv 1) pa_nil))))
      (pss_cons (ps_set (i := 4) sc_won.nd rfl (Or.inl rfl) (pe_cal C_upto (hr.mono (by decide)) (pa_cons (pv 0) (pa_cons (pe_op op_sub (pv 1) (pe_int)) pa_nil))))
      (pss_one (ps_ret (pe_op op_add (pe_op op_sub (pe_op op_sub (pe_ix ix_tup (pv 0) (pe_int) (fun _ _ => rfl)) (pv 3)) (pv 4)) (pe_op op_mul (pv 2) (pe_op op_sub (pv 3) (pv 4)))))))), ?_⟩
    refine ⟨_, rfl, _, rfl, t, f, s, c, y, rfl, ht, ok, ?_⟩
    refine ⟨_, rfl, _, rfl, _, _, rfl, rfl, t, f, s, c, y - 1, rfl, ht, ok, ?_⟩
    rw [show y - 1 + 1 = y by omega]
    refine ⟨_, rfl, _, _, _, _, rfl, rfl, SqT.of ht, rfl, _, rfl, _, _, rfl, rfl, _, rfl, _, _, rfl, rfl, ?_⟩
    refine ⟨_, rfl, _, rfl, _, rfl, _, _, rfl, rfl, _, _, rfl, rfl, .inl ⟨by omega, by omega⟩, ?_⟩
    exact ⟨_, _, rfl, rfl, q⟩
end
end L

set_option Elab.async false
set_option linter.all false
set_option maxRecDepth 100000
set_option maxHeartbeats 4000000
set_option pp.maxSteps 160
set_option pp.deepTerms false
namespace L
open PySem PySem.Spec PyProof.Rows L2 Fl
local macro_rules | `(tactic| walk_at "side") => `(tactic| first | (exact .inl ⟨by omega, by omega⟩) | (exact .inr ⟨by omega, by omega⟩) | (exact .inr ⟨by decide, by decide⟩) | (show (_ : Int) ≠ _; omega) | (exact ⟨by omega, by decide⟩) | (exact ⟨by decide, by decide, by decide⟩))
local macro_rules | `(tactic| walk_at "go") => `(tactic| repeat (first | refine ⟨_, rfl, ?_⟩ | refine ⟨_, _, rfl, rfl, ?_⟩ | refine .inl ⟨_, rfl, ?_⟩ | refine ⟨rfl, ?_⟩ | refine ⟨(by walk_at "side"), ?_⟩))
local macro_rules | `(tactic| walk_at "see") => `(tactic| (set_option pp.maxSteps 110 in set_option pp.deepTerms false in trace_state))
local macro_rules | `(tactic| walk_at "if") => `(tactic| first | refine ifE ?_ ?_ | refine ifNE ?_ ?_ | refine ifD ?_ ?_ | refine ifN ?_ ?_ | refine ifB ?_ ?_)
section
variable {P : Program} {w : World} {K : PySem.W.Frag} {mg : Str → Option Value} {base : Heap}

def spRef (D : Addr) : Sp := fun vs H Q _ => ∃ (x : Addr) (f s c v : Int), vs = [.ref x, .int v] ∧ RunAt D H x f s c ∧ RowOk f s c ∧ ¬ (v = -1 ∨ v = 0 ∨ v = 1) ∧
  ∀ (t : Addr) (H' : Hp), Same H H' → H' t = some (.tup [.str "ties", .int v, .bl true, .bl true, .bl false]) → Q (.ref t) H'
abbrev CalRef (P : Program) (w : World) (K : PySem.W.Frag) (mg : Str → Option Value) (base : Heap) (D : Addr) := Cal P w K mg base 7 "_law_rule_refused" ["_law_run", "_law_rule"] (spRef D)
theorem ok_ref {C D BN LE NP : Addr} (B : Blt mg) (T : RunC K mg D) (TB : BnC K mg BN) (gLotError : mg "LotError" = some (.ref LE)) (gNoPlace : mg "NoPlace" = some (.ref NP)) (k1 : PySem.W.kitOne K (.ref BN) (.ref LE) = some true) (k2 : PySem.W.kitOne K (.ref BN) (.type "ValueError") = some true) (k3 : PySem.W.kitOne K (.ref BN) (.ref NP) = some false)
    (Df : Dfn K mg "_law_rule_refused" "_law_rule_refused" s_rule_refused ["_law_run", "_law_rule"]) (MG : CalMKW P w K mg base 6 D "gain" ["self", "k", "ties"] (spGain C D BN)) : CalRef P w K mg base D := by
  refine Df.cal sc_rule_refused (fun vs H Q E h => ?_) (fun fA cdv A outer st H vs Q E hr h => ?_)
  · obtain ⟨x, f, s, c, v, rfl, _⟩ := h
    rfl
  · obtain ⟨x, f, s, c, v, rfl, ⟨dx, hx⟩, ok, hv, k⟩ := h
    have o1 := ok.cb
    have o2 := ok.ok.c1
    refine ⟨_, (pss_cons (ps_set (i := 2) sc_rule_refused.nd rfl (Or.inl rfl) (pe_non))
      (pss_cons (ps_try_as (i := 3) rfl rfl sc_rule_refused.nd rfl rfl ⟨rfl, by decide, Or.inl TB.g⟩ takes0 (fun W pn xe tk _ => (pss_one (ps_expr (pe_mKW MG T.cl (fun σ => passAt tk σ) (hr.mono (by decide)) (pv 0) (pa_cons pe_int pa_nil) (pk_cons (pv 1) pk_nil))))) (fun a oe cls d pn hz hf => (pss_one (ps_set (i := 2) sc_rule_refused.nd rfl (Or.inl rfl) (pe_tup (pa_cons (pe_xf TB.xf TB.nN hz hf (pv 3)) (pa_cons (pe_xf TB.xf TB.nV hz hf (pv 3)) (pa_cons (pe_callB (call_isX TB.e hz hf) (by rfl) B.isinstance (by decide +kernel) (pa_cons (pv 3) (pa_cons (pe_glob (v := .ref _) (by rfl) gLotError rfl) pa_nil))) (pa_cons (pe_callB (call_isX TB.e hz hf) (by rfl) B.isinstance (by decide +kernel) (pa_cons (pv 3) (pa_cons (pe_bltn (v := .ty "ValueError") (by rfl) B.ve (by decide +kernel) rfl) pa_nil))) (pa_cons (pe_callB (call_isX TB.e hz hf) (by rfl) B.isinstance (by decide +kernel) (pa_cons (pv 3) (pa_cons (pe_glob (v := .ref _) (by rfl) gNoPlace rfl) pa_nil))) pa_nil))))))))))
      (pss_one (ps_ret (pv 2))))), ?_⟩
    refine ⟨_, rfl, x, dx, _, rfl, hx, gf_no _ _ _ (by decide +kernel) (by decide +kernel) (by decide +kernel), ?_⟩
    refine ⟨_, rfl, rfl, rfl, x, f, s, c, 0, v, rfl, ⟨dx, hx⟩, ok.ok, wide8 (m := 240) (by omega) (by decide), fun _ => ?_, fun h => absurd h hv⟩
    intro d H' s hd0 hd
    refine ⟨true, TB.exm, fun _ e0 he0 => ?_, fun q => Bool.noConfusion q⟩
    refine ⟨_, rfl, rfl, rfl, d, _, _, rfl, hd, bnf_name _ _, ?_⟩
    refine ⟨_, rfl, rfl, rfl, d, _, _, rfl, hd, bnf_value _ _, ?_⟩
    refine ⟨_, rfl, rfl, .inr ⟨d, _, rfl, hd⟩, _, _, true, rfl, .own _, k1, ?_⟩
    refine ⟨_, rfl, rfl, .inr ⟨d, _, rfl, hd⟩, _, _, true, rfl, .ty _, k2, ?_⟩
    refine ⟨_, rfl, rfl, .inr ⟨d, _, rfl, hd⟩, _, _, false, rfl, .own _, k3, ?_⟩
    exact ⟨(by show 5 ≤ sizeLine; decide), fun t ht => ⟨_, rfl, k _ _ (s.trans (same_upd ht)) upd_same⟩⟩
theorem won_bd {f s c k v : Int} (h : RowOk f s c) (hv : v = -1 ∨ v = 0 ∨ v = 1) : (wonV f s c k v).natAbs < 2 ^ 4000 := by
  have a1 := (bel_ok (k := k) h.ok).1
  have a2 := (bel_ok (k := k) h.ok).2.1
  have b1 := (bel_ok (k := k + 1) h.ok).1
  have b2 := (bel_ok (k := k + 1) h.ok).2.1
  have c1 := h.cb
  unfold wonV
  generalize bel f s c k = a at *
  generalize bel f s c (k + 1) = b at *
  refine wide4 (m := 240) ?_ (by decide)
  rcases hv with rfl | rfl | rfl <;> omega
def spGains (D : Addr) : Sp := fun vs H Q _ => ∃ (x t : Addr) (f s c k : Int), vs = [.ref x, .ref t, .int k] ∧ RunAt D H x f s c ∧ Row H t f s c ∧ RowOk f s c ∧ ∀ H', Same H H' → Q (.bl true) H'
abbrev CalGains (P : Program) (w : World) (K : PySem.W.Frag) (mg : Str → Option Value) (base : Heap) (D : Addr) := Cal P w K mg base 7 "_law_gains" ["_law_run", "_law_row", "_law_k"] (spGains D)
theorem ok_gains {C D BN : Addr} (T : RunC K mg D) (Df : Dfn K mg "_law_gains" "_law_gains" s_gains ["_law_run", "_law_row", "_law_k"]) (MG : CalMKW P w K mg base 6 D "gain" ["self", "k", "ties"] (spGain C D BN)) (C_same : CalSame P w K mg base C) (C_won : CalWon P w K mg base) : CalGains P w K mg base D := by
  obtain ⟨_, _, _, m_gain, F_gain, d_gain, b_gain, _⟩ := id MG.ex
  refine Df.cal sc_gains (fun vs H Q E h => ?_) (fun fA cdv A outer st H vs Q E hr h => ?_)
  · obtain ⟨x, t, f, s, c, k, rfl, _⟩ := h
    rfl
  · obtain ⟨x, t, f, s, c, k, rfl, ⟨dx, hx⟩, ht, ok, q⟩ := h
    have o1 := ok.cb
    have o2 := ok.ok.c1
    have bc : c.natAbs < 2 ^ 240 := by omega
    have cn : c ≠ 0 := by omega
    refine ⟨_, (pss_cons (ps_for PassesOwn.never rfl (pi_list (pe_lst (pa_cons (pe_un un_neg (pe_int)) (pa_cons (pe_int) (pa_cons (pe_int) pa_nil))))) (pg_name (i := 3) sc_gains.nd rfl (Or.inl rfl)) (pss_one (ps_if (pt_not (pt_val (pe_cal C_same (hr.mono (by decide)) (pa_cons (pe_mKW (E := fun _ => E0) MG T.cl (fun σ pins H s e s' I h => passL pins σ H s e s' I h) (hr.mono (by decide)) (pv 0) (pa_cons (pv 2) pa_nil) (pk_cons (pv 3) pk_nil)) (pa_cons (pe_tup (pa_cons (pe_cal C_won (hr.mono (by decide)) (pa_cons (pv 1) (pa_cons (pv 2) (pa_cons (pv 3) pa_nil)))) (pa_cons (pe_ix ix_tup (pv 1) (pe_int) (fun _ _ => rfl)) pa_nil))) pa_nil))))) (pss_one (ps_ret (pe_bl))) pss_nil)))
      (pss_one (ps_ret (pe_cal C_same (hr.mono (by decide)) (pa_cons (pe_meth (pv 0) T.cl m_gain F_gain (hr.mono (by decide)) b_gain d_gain passL (pa_cons (pv 2) pa_nil)) (pa_cons (pe_tup (pa_cons (pe_cal C_won (hr.mono (by decide)) (pa_cons (pv 1) (pa_cons (pv 2) (pa_cons (pe_int) pa_nil)))) (pa_cons (pe_ix ix_tup (pv 1) (pe_int) (fun _ _ => rfl)) pa_nil))) pa_nil)))))), ?_⟩
    refine ⟨_, rfl, (by show 3 ≤ sizeLine; decide), fun li hli => ?_⟩
    refine ⟨li, rfl, ⟨_, SqL.of upd_same⟩, for_list (K := K) (a := li) (xs := [V.int (-1), V.int 0, V.int 1]) (fun _ σ' H' => Same H H' ∧ H' li = some (.lst [.int (-1), .int 0, .int 1]) ∧ ∃ v3 : Option V, σ' = [some (.ref x), some (.ref t), some (.int k), v3])
      ⟨same_upd hli, upd_same, none, rfl⟩ (fun i σ' H' _ h => SqL.of h.2.1) ?_ ?_⟩
    · rintro i yv σ' H4 hyv ⟨s4, hli4, v3, rfl⟩
      obtain ⟨v, rfl, hv⟩ : ∃ v, yv = V.int v ∧ (v = -1 ∨ v = 0 ∨ v = 1) := by
        match i, hyv with
        | 0, hy => exact ⟨-1, (Option.some.inj hy).symm, .inl rfl⟩
        | 1, hy => exact ⟨0, (Option.some.inj hy).symm, .inr (.inl rfl)⟩
        | 2, hy => exact ⟨1, (Option.some.inj hy).symm, .inr (.inr rfl)⟩
        | i + 3, hy => simp at hy
      have bg := won_bd (k := k) ok hv
      refine ⟨_, rfl, x, dx, _, rfl, s4 _ _ hx, gf_no _ _ _ (by decide +kernel) (by decide +kernel) (by decide +kernel), _, rfl, _, rfl, rfl, rfl, x, f, s, c, k, v, rfl, ⟨dx, s4 _ _ hx⟩, ok.ok, wide8 bc (by decide), fun h => absurd hv h, fun _ r H5 s5 hr5 => ?_⟩
      have ht5 := s5 _ _ (s4 _ _ ht)
      refine ⟨_, rfl, _, rfl, _, rfl, t, f, s, c, k, v, rfl, ht5, ok, hv, ?_⟩
      refine ⟨_, rfl, _, _, _, _, rfl, rfl, SqT.of ht5, rfl, ?_⟩
      refine ⟨(by show 2 ≤ sizeLine; decide), fun tt htt => ?_⟩
      have s6 := same_upd (o := .tup [.int (wonV f s c k v), .int c]) htt
      refine ⟨r, tt, _, _, _, _, rfl, hr5.same s6, nU_pos cn, upd_same, Nat.lt_of_le_of_lt (nT_le cn) bg, Nat.lt_of_le_of_lt (nU_le cn) (wide4 bc (by decide)), bg, wide4 bc (by decide), n_cross _ _, _, rfl, iteF ?_⟩
      exact ⟨(s4.trans s5).trans s6, s6 _ _ (s5 _ _ hli4), _, rfl⟩
    rintro σ' H4 ⟨s4, hli4, v3, rfl⟩
    have h0 : (0 : Int) = -1 ∨ (0 : Int) = 0 ∨ (0 : Int) = 1 := .inr (.inl rfl)
    have bg := won_bd (k := k) ok h0
    refine ⟨_, rfl, x, dx, _, rfl, s4 _ _ hx, gf_no _ _ _ (by decide +kernel) (by decide +kernel) (by decide +kernel), _, rfl, x, f, s, c, k, 0, rfl, ⟨dx, s4 _ _ hx⟩, ok.ok, wide8 bc (by decide), fun h => absurd h0 h, fun _ r H5 s5 hr5 => ?_⟩
    have ht5 := s5 _ _ (s4 _ _ ht)
    refine ⟨_, rfl, _, rfl, t, f, s, c, k, 0, rfl, ht5, ok, h0, ?_⟩
    refine ⟨_, rfl, _, _, _, _, rfl, rfl, SqT.of ht5, rfl, ?_⟩
    refine ⟨(by show 2 ≤ sizeLine; decide), fun tt htt => ?_⟩
    have s6 := same_upd (o := .tup [.int (wonV f s c k 0), .int c]) htt
    exact ⟨r, tt, _, _, _, _, rfl, hr5.same s6, nU_pos cn, upd_same, Nat.lt_of_le_of_lt (nT_le cn) bg, Nat.lt_of_le_of_lt (nU_le cn) (wide4 bc (by decide)), bg, wide4 bc (by decide), n_cross _ _, q _ ((s4.trans s5).trans s6)⟩
end
end L

set_option Elab.async false
set_option linter.all false
set_option maxRecDepth 100000
set_option maxHeartbeats 4000000
set_option pp.maxSteps 160
set_option pp.deepTerms false
namespace L
open PySem PySem.Spec PyProof.Rows L2 Fl
local macro_rules | `(tactic| walk_at "side") => `(tactic| first | (exact .inl ⟨by omega, by omega⟩) | (exact .inr ⟨by omega, by omega⟩) | (exact .inr ⟨by decide, by decide⟩) | (show (_ : Int) ≠ _; omega) | (exact ⟨by omega, by decide⟩) | (exact ⟨by decide, by decide, by decide⟩))
local macro_rules | `(tactic| walk_at "go") => `(tactic| repeat (first | refine ⟨_, rfl, ?_⟩ | refine ⟨_, _, rfl, rfl, ?_⟩ | refine .inl ⟨_, rfl, ?_⟩ | refine ⟨rfl, ?_⟩ | refine ⟨(by walk_at "side"), ?_⟩))
local macro_rules | `(tactic| walk_at "see") => `(tactic| (set_option pp.maxSteps 110 in set_option pp.deepTerms false in trace_state))
local macro_rules | `(tactic| walk_at "if") => `(tactic| first | refine ifE ?_ ?_ | refine ifNE ?_ ?_ | refine ifD ?_ ?_ | refine ifN ?_ ?_ | refine ifB ?_ ?_)
section
variable {P : Program} {w : World} {K : PySem.W.Frag} {mg : Str → Option Value} {base : Heap}

theorem same_late {H0 H : Hp} {D : Addr} {o : HO} (s : Same H0 H) (h : H0 D = none) : Same H0 (upd H D o) := fun b u e => by
  rw [upd_ne (ne_of_none e h)]
  exact s b u e
theorem RowOk.st {f s c : Int} (h : RowOk f s c) : (if c > 1 then s else 1) = s := by
  split
  · rfl
  · have := h.ok.c1
    exact (h.one (by omega)).symm
def spLaw (K : PySem.W.Frag) : Sp := fun vs H Q _ => ∃ (a : Addr) (ns : List Int), vs = [.ref a] ∧ SqL K H a (ns.map V.int) ∧ ns.length ≤ 63 ∧ ∀ H', Q (.bl true) H'
structure Wd (D : Addr) (H : Hp) (lr L t1 t2 x1 x2 : Addr) (f s c f' s' c' : Int) : Prop where
  lr : H lr = some (.lst [.ref t1, .ref t2])
  L : H L = some (.lst [.ref x1, .ref x2])
  r1 : Row H t1 f s c
  r2 : Row H t2 f' s' c'
  x1 : RunAt D H x1 f s c
  x2 : RunAt D H x2 f' s' c'
theorem Wd.same {D : Addr} {H H' : Hp} {lr L t1 t2 x1 x2 : Addr} {f s c f' s' c' : Int} (h : Wd D H lr L t1 t2 x1 x2 f s c f' s' c') (k : Same H H') : Wd D H' lr L t1 t2 x1 x2 f s c f' s' c' :=
  ⟨k _ _ h.lr, k _ _ h.L, k _ _ h.r1, k _ _ h.r2, h.x1.same k, h.x2.same k⟩
theorem Wd.keep {D : Addr} {p : Pla} {H H' : Hp} {lr L t1 t2 x1 x2 : Addr} {f s c f' s' c' : Int} (h : Wd D H lr L t1 t2 x1 x2 f s c f' s' c') (hP : Pool H p) (k : Keeps H H' p) (n1 : lr ≠ p) (n2 : L ≠ p) : Wd D H' lr L t1 t2 x1 x2 f s c f' s' c' :=
  ⟨k _ _ h.lr n1, k _ _ h.L n2, h.r1.keep k (h.r1.ne_pool hP), h.r2.keep k (h.r2.ne_pool hP), h.x1.keep k (h.x1.ne_pool hP), h.x2.keep k (h.x2.ne_pool hP)⟩
def tiesD (v : Int) : PyData := .tuple [.str "ties", .int v, .bool true, .bool true, .bool false]
theorem ties_shaped (v : Int) : SeqAt.shaped (tiesD v) = true := by
  have h' : PyData.strOk ("ties" : Str) = true := by decide +kernel
  simp [tiesD, SeqAt.shaped, PyData.canLay0, PyData.canLayAll0, PyData.depth, PyData.depthAll, h']
theorem ok_law {D BN fA : Addr} {fd : FuncData} (B : Blt mg) (TD : RunC K mg D) (F : Fun K "law" "law" s_law fA fd) (MR : CalRun P w K mg base D BN) (C_pool : CalPool P w K mg base) (C_draw : CalDraw P w K mg base) (C_wide : CalWide P w K mg base) (C_great_run : CalGR P w K mg base) (C_beside : CalBeside P w K mg base)
    (C_rule_refused : CalRef P w K mg base D) (C_gains : CalGains P w K mg base D) (C_held : CalHeld P w K mg base D) : FnOk P w K mg base CX0 8 fA fd ["_law_script"] (spLaw K) := by
  refine F.ok sc_law (fun vs H Q E h => ?_) (fun cdv A outer st H vs Q E hr h => ?_)
  · obtain ⟨a, ns, rfl, _⟩ := h
    rfl
  · obtain ⟨a, ns, rfl, hS, hl, k⟩ := h
    refine ⟨_, (pss_cons (ps_set (i := 1) sc_law.nd rfl (Or.inl rfl) (pe_cal C_pool (hr.mono (by decide)) (pa_cons (pv 0) pa_nil)))
      (pss_cons (ps_set (i := 2) sc_law.nd rfl (Or.inl rfl) (pe_lst (pa_cons (pe_cal C_great_run (hr.mono (by decide)) (pa_cons (pv 1) pa_nil)) (pa_cons (pe_cal C_great_run (hr.mono (by decide)) (pa_cons (pv 1) pa_nil)) pa_nil))))
      (pss_cons (ps_setLc (i := 3) (own := [("_law_row", 4)]) (g := gName 4) rfl sc_law.nd rfl rfl (sw_true rfl rfl rfl (by decide +kernel)) (pi_list (pv 2)) (blkOk_by (N := ["_law_script", "_law_pool_here", "_law_rows", "_law_runs", "_law_row", "_law_low", "_law_high", "_law_bad", "_law_run", "_law_k", "_law_index"]) (sc := defScope s_law) (by decide +kernel)) (fun _ _ _ _ _ => pg_name (i := 4) sc_law.nd rfl (Or.inl rfl)) (fun _ _ _ _ _ => pts_nil) (fun _ _ _ _ _ => (pe_mk MR (hr.mono (by decide)) (pa_cons (pe_ix (show IxR _ (rIxT K) from ix_tup) (pv 4) (pe_int) (fun _ _ => rfl)) (pa_cons (pe_ix (show IxR _ (rIxT K) from ix_tup) (pv 4) (pe_int) (fun _ _ => rfl)) (pa_cons (pe_ix (show IxR _ (rIxT K) from ix_tup) (pv 4) (pe_int) (fun _ _ => rfl)) pa_nil))))))
      (pss_cons (ps_set (i := 5) sc_law.nd rfl (Or.inl rfl) (pe_cal C_beside (hr.mono (by decide)) (pa_cons (pv 1) (pa_cons (pe_ix ix_list (pv 2) (pe_int) (fun _ _ => rfl)) pa_nil))))
      (pss_cons (ps_set (i := 6) sc_law.nd rfl (Or.inl rfl) (pe_cal C_beside (hr.mono (by decide)) (pa_cons (pv 1) (pa_cons (pe_ix ix_list (pv 2) (pe_int) (fun _ _ => rfl)) pa_nil))))
      (pss_cons (ps_set (i := 7) sc_law.nd rfl (Or.inl rfl) (pe_op op_add (pe_int) (pe_cal C_wide (hr.mono (by decide)) (pa_cons (pv 1) pa_nil))))
      (Evl.pss_cut (ps_if (pt_cmpR op_eq (pe_cal C_draw (hr.mono (by decide)) (pa_cons (pv 1) (pa_cons (pe_int) pa_nil))) (pe_int) (nomark _)) (pss_one (ps_set (i := 7) sc_law.nd rfl (Or.inl rfl) (pe_un un_neg (pv 7)))) pss_nil)
      (pss_cons (ps_for PassesOwn.never rfl (pi_list (pv 3)) (pg_name (i := 8) sc_law.nd rfl (Or.inl rfl)) (pss_one (ps_if (pt_cmpR (op_neD hr.units) (pe_cal C_rule_refused (hr.mono (by decide)) (pa_cons (pv 8) (pa_cons (pv 7) pa_nil))) (pe_tup (pa_cons (pe_str) (pa_cons (pv 7) (pa_cons (pe_bl) (pa_cons (pe_bl) (pa_cons (pe_bl) pa_nil)))))) (nomark _)) (pss_one (ps_ret (pe_bl))) pss_nil)))
      (pss_cons (ps_for PassesOwn.never rfl (pi_list (pe_lst (pa_cons (pv 5) (pa_cons (pe_op op_add (pv 5) (pe_int)) (pa_cons (pv 6) (pa_cons (pv 5) pa_nil)))))) (pg_name (i := 9) sc_law.nd rfl (Or.inl rfl)) (pss_one (ps_for PassesOwn.never rfl (pi_range1 (by rfl) B.range (pa_cons (pe_int) pa_nil)) (pg_name (i := 10) sc_law.nd rfl (Or.inl rfl)) (pss_one (ps_if (pt_not (pt_val (pe_cal C_gains (hr.mono (by decide)) (pa_cons (pe_ix ix_list (pv 3) (pv 10) (fun _ _ => rfl)) (pa_cons (pe_ix ix_list (pv 2) (pv 10) (fun _ _ => rfl)) (pa_cons (pv 9) pa_nil)))))) (pss_one (ps_ret (pe_bl))) pss_nil)))))
      (pss_cons (ps_if (pt_cmpR (op_neD hr.units) (pe_cal C_rule_refused (hr.mono (by decide)) (pa_cons (pe_ix ix_list (pv 3) (pe_int) (fun _ _ => rfl)) (pa_cons (pv 7) pa_nil))) (pe_tup (pa_cons (pe_str) (pa_cons (pv 7) (pa_cons (pe_bl) (pa_cons (pe_bl) (pa_cons (pe_bl) pa_nil)))))) (nomark _)) (pss_one (ps_ret (pe_bl))) pss_nil)
      (pss_one (ps_ret ((pe_and (pe_cal C_held (hr.mono (by decide)) (pa_cons (pe_ix ix_list (pv 3) (pe_int) (fun _ _ => rfl)) (pa_cons (pe_ix ix_list (pv 2) (pe_int) (fun _ _ => rfl)) pa_nil))) (pe_one (pe_cal C_held (hr.mono (by decide)) (pa_cons (pe_ix ix_list (pv 3) (pe_int) (fun _ _ => rfl)) (pa_cons (pe_ix ix_list (pv 2) (pe_int) (fun _ _ => rfl)) pa_nil)))))))))))))))))), ?_⟩
    refine ⟨_, rfl, a, ns, rfl, hS, hl, fun p H1 s1 np nq hP1 => ?_⟩
    refine ⟨_, rfl, p, rfl, hP1, fun t1 f1 d1 c1 H2 hP2 k2 nt1 R1 o1 => ?_⟩
    refine ⟨_, rfl, p, rfl, hP2, fun t2 f2 d2 c2 H3 hP3 k3 nt2 R2 o2 => ?_⟩
    have R1 := R1.keep k3 (R1.ne_pool hP2)
    refine ⟨(by show 2 ≤ sizeLine; decide), fun lr hlr => ?_⟩
    have R1 : Row _ t1 f1 d1 c1 := same_upd (o := .lst [.ref t1, .ref t2]) hlr _ _ R1
    have R2 : Row _ t2 f2 d2 c2 := same_upd (o := .lst [.ref t1, .ref t2]) hlr _ _ R2
    have lrp := (hP3.apart hlr).1
    have hP8 : Pool _ p := hP3.upd (o := .lst [.ref t1, .ref t2]) hlr
    have hlr8 : upd H3 lr (.lst [.ref t1, .ref t2]) lr = some (.lst [.ref t1, .ref t2]) := upd_same
    generalize upd H3 lr (.lst [.ref t1, .ref t2]) = H8 at *
    refine ⟨_, rfl, lr, rfl, ⟨_, SqL.of hlr8⟩, fun L hL => lc_list (K := K) (a := lr) (xs := [V.ref t1, V.ref t2]) (fun i H' => Same H8 H' ∧ ∃ xs : List Addr, xs.length = i ∧ H' L = some (.lst (xs.map V.ref)) ∧ ∀ (j : Nat) (x : Addr), xs[j]? = some x → ∃ r, [(f1, d1, c1), (f2, d2, c2)][j]? = some r ∧ RunAt D H' x r.1 r.2.1 r.2.2)
      ⟨same_upd hL, [], rfl, upd_same, fun j x h => by simp at h⟩ (fun i H' _ h => SqL.of (h.1 _ _ hlr8)) ?_ ?_⟩
    · rintro i y H' hy ⟨sm, xs, hlen, hLx, hxs⟩
      obtain ⟨t, f, d, c, rfl, hR, hO, hri⟩ : ∃ t f d c, y = V.ref t ∧ Row H' t f d c ∧ RowOk f d c ∧ [(f1, d1, c1), (f2, d2, c2)][i]? = some (f, d, c) := by
        match i, hy with
        | 0, hy => exact ⟨t1, f1, d1, c1, (Option.some.inj hy).symm, sm _ _ R1, o1, rfl⟩
        | 1, hy => exact ⟨t2, f2, d2, c2, (Option.some.inj hy).symm, sm _ _ R2, o2, rfl⟩
        | i + 2, hy => simp at hy
      refine ⟨rfl, ?_⟩
      refine ⟨_, rfl, _, _, _, _, rfl, rfl, SqT.of hR, rfl, ?_⟩
      refine ⟨_, rfl, _, _, _, _, rfl, rfl, SqT.of hR, rfl, ?_⟩
      refine ⟨_, rfl, _, _, _, _, rfl, rfl, SqT.of hR, rfl, ?_⟩
      refine fun x dx nx ndx ne => ⟨x, dx, f, d, c, rfl, upd_same, fun h => absurd h (by have := hO.ok.f0; omega), fun _ h => absurd h (by have := hO.ok.s1; have := hO.ok.s4; omega), fun _ _ _ h => absurd h (by have := hO.ok.c1; omega), fun _ _ _ _ H4 hx hk => ⟨rfl, ?_⟩⟩
      rw [hO.st] at hx
      have s4 : Same H' H4 := made nx ndx hk
      have hL4 := s4 _ _ hLx
      have xL : x ≠ L := ne_of hx hL4 (by intro z; cases z)
      refine ⟨xs.map V.ref, hL4, ?_, same_late (sm.trans s4) hL, xs ++ [x], by rw [List.length_append, hlen]; rfl, by rw [upd_same, List.map_append]; rfl, fun j z hz => ?_⟩
      · rw [List.length_map, hlen]
        have : i < 2 := by
          match i, hy with
          | 0, _ => decide
          | 1, _ => decide
          | i + 2, hy => simp at hy
        exact small1000 (by omega)
      · by_cases hj : j < xs.length
        · rw [List.getElem?_append_left hj] at hz
          obtain ⟨r, hr1, ⟨dz, hr2⟩⟩ := hxs j z hz
          have h4 := s4 _ _ hr2
          exact ⟨r, hr1, dz, by rw [upd_ne (ne_of h4 hL4 (by intro q; cases q))]; exact h4⟩
        · rw [List.getElem?_append_right (by omega)] at hz
          have hj0 : j = xs.length := by
            rcases Nat.lt_or_ge (j - xs.length) 1 with h | h
            · omega
            · rw [List.getElem?_eq_none (by simpa using h)] at hz
              cases hz
          subst hj0
          rw [Nat.sub_self] at hz
          cases hz
          exact ⟨(f, d, c), by rw [hlen]; exact hri, dx, by rw [upd_ne xL]; exact hx⟩
    rintro H9 ⟨sm, xs, hlen, hLx, hxs⟩
    obtain ⟨x1, x2, rfl⟩ : ∃ x1 x2, xs = [x1, x2] := by
      match xs, hlen with
      | [u, v], _ => exact ⟨u, v, rfl⟩
    obtain ⟨r1, e1, X1⟩ := hxs 0 x1 rfl
    obtain ⟨r2, e2, X2⟩ := hxs 1 x2 rfl
    cases e1
    cases e2
    have W : Wd D H9 lr L t1 t2 x1 x2 f1 d1 c1 f2 d2 c2 := ⟨sm _ _ hlr8, hLx, sm _ _ R1, sm _ _ R2, X1, X2⟩
    have hP9 : Pool H9 p := hP8.same sm
    have Lp : L ≠ p := (hP8.apart hL).1
    clear hxs X1 X2 hLx R1 R2
    refine ⟨_, rfl, _, rfl, _, _, _, _, rfl, rfl, SqL.of W.lr, rfl, p, t1, f1, d1, c1, rfl, hP9, W.r1, o1, fun low Ha lb hPa ka => ?_⟩
    have W := W.keep hP9 ka lrp Lp
    refine ⟨_, rfl, _, rfl, _, _, _, _, rfl, rfl, SqL.of W.lr, rfl, p, t2, f2, d2, c2, rfl, hPa, W.r2, o2, fun high Hb hb hPb kb => ?_⟩
    have W := W.keep hPa kb lrp Lp
    refine ⟨_, rfl, p, rfl, hPb, fun w0 Hc w1 w2 hPc kc => ⟨_, _, rfl, rfl, ?_⟩⟩
    have W := W.keep hPb kc lrp Lp
    refine ⟨fun σ' H' => ∃ v : Int, σ' = [some (.ref a), some (.ref (p : Addr)), some (.ref lr), some (.ref L), none, some (.int low), some (.int high), some (.int v), none, none, none] ∧ ¬ (v = -1 ∨ v = 0 ∨ v = 1) ∧ Wd D H' lr L t1 t2 x1 x2 f1 d1 c1 f2 d2 c2, ?_, ?_⟩
    · refine ⟨_, rfl, p, 2, rfl, hPc, by decide, by decide, fun r Hd r0 r1 hPd kd => ?_⟩
      have W := W.keep hPc kd lrp Lp
      walk_at "go"
      walk_at "if"
      · intro _
        exact ⟨_, rfl, _, rfl, -(2 + w0), rfl, by omega, W⟩
      · intro _
        exact ⟨2 + w0, rfl, by omega, W⟩
    rintro σ' Hd ⟨v, rfl, hv, W⟩
    refine ⟨_, rfl, L, rfl, ⟨_, SqL.of W.L⟩, for_list (K := K) (a := L) (xs := [V.ref x1, V.ref x2]) (fun _ σ' H' => Same Hd H' ∧ ∃ v8 : Option V, σ' = [some (.ref a), some (.ref (p : Addr)), some (.ref lr), some (.ref L), none, some (.int low), some (.int high), some (.int v), v8, none, none])
      ⟨Same.refl _, none, rfl⟩ (fun i σ' H' _ h => SqL.of (h.1 _ _ W.L)) ?_ ?_⟩
    · rintro i y σ' He hy ⟨se, v8, rfl⟩
      have W := W.same se
      obtain ⟨x, f, d, c, rfl, hx, ho⟩ : ∃ (x : Addr) (f d c : Int), y = V.ref x ∧ RunAt D He x f d c ∧ RowOk f d c := by
        match i, hy with
        | 0, hy => exact ⟨x1, f1, d1, c1, (Option.some.inj hy).symm, W.x1, o1⟩
        | 1, hy => exact ⟨x2, f2, d2, c2, (Option.some.inj hy).symm, W.x2, o2⟩
        | i + 2, hy => simp at hy
      refine ⟨_, rfl, _, rfl, x, f, d, c, v, rfl, hx, ho, hv, fun tr Hf sf htr => ?_⟩
      refine ⟨_, rfl, (by show 5 ≤ sizeLine; decide), fun tq htq => ?_⟩
      refine ⟨tiesD v, tiesD v, .tup (SqT.of (same_upd htq _ _ htr)) (.cons (.str _) (.cons (.int _) (.cons (.bl _) (.cons (.bl _) (.cons (.bl _) .nil))))), .tup (SqT.of upd_same) (.cons (.str _) (.cons (.int _) (.cons (.bl _) (.cons (.bl _) (.cons (.bl _) .nil))))), ties_shaped v, ties_shaped v, ?_⟩
      rw [SeqAt.eqv_refl _ (SeqAt.canLay_of_shaped (ties_shaped v))]
      exact ⟨_, rfl, iteF ⟨(se.trans sf).trans (same_upd htq), _, rfl⟩⟩
    rintro σ' He ⟨se, v8, rfl⟩
    have W := W.same se
    refine ⟨_, rfl, _, rfl, _, _, rfl, rfl, _, rfl, _, rfl, (by show 4 ≤ sizeLine; decide), fun lk hlk => ?_⟩
    have W := W.same (same_upd (o := .lst [.int low, .int (low + 1), .int high, .int low]) hlk)
    have lk7 : upd He lk (.lst [.int low, .int (low + 1), .int high, .int low]) lk = some (.lst [.int low, .int (low + 1), .int high, .int low]) := upd_same
    generalize upd He lk (.lst [.int low, .int (low + 1), .int high, .int low]) = H7 at *
    refine ⟨lk, rfl, ⟨_, SqL.of lk7⟩, for_list (K := K) (a := lk) (xs := [V.int low, V.int (low + 1), V.int high, V.int low]) (fun _ σ' H' => Same H7 H' ∧ ∃ v9 v10 : Option V, σ' = [some (.ref a), some (.ref (p : Addr)), some (.ref lr), some (.ref L), none, some (.int low), some (.int high), some (.int v), v8, v9, v10])
      ⟨Same.refl _, none, none, rfl⟩ (fun i σ' H' _ h => SqL.of (h.1 _ _ lk7)) ?_ ?_⟩
    · rintro i y σ' Hg hy ⟨sg, v9, v10, rfl⟩
      obtain ⟨kk, rfl⟩ : ∃ kk, y = V.int kk := by
        match i, hy with
        | 0, hy => exact ⟨low, (Option.some.inj hy).symm⟩
        | 1, hy => exact ⟨low + 1, (Option.some.inj hy).symm⟩
        | 2, hy => exact ⟨high, (Option.some.inj hy).symm⟩
        | 3, hy => exact ⟨low, (Option.some.inj hy).symm⟩
        | i + 4, hy => simp at hy
      refine ⟨2, rfl, by decide, by decide, for_range (n := 2) (fun _ σ' H' => Same H7 H' ∧ ∃ v10 : Option V, σ' = [some (.ref a), some (.ref (p : Addr)), some (.ref lr), some (.ref L), none, some (.int low), some (.int high), some (.int v), v8, some (.int kk), v10])
        ⟨sg, v10, rfl⟩ ?_ ?_⟩
      · rintro j σ' Hh hj ⟨sh, v10, rfl⟩
        have W := W.same sh
        obtain ⟨x, t, f, d, c, g1, g2, hx, ht, ho⟩ : ∃ (x t : Addr) (f d c : Int), [V.ref x1, V.ref x2][j]? = some (V.ref x) ∧ [V.ref t1, V.ref t2][j]? = some (V.ref t) ∧ RunAt D Hh x f d c ∧ Row Hh t f d c ∧ RowOk f d c := by
          match j, hj with
          | 0, _ => exact ⟨x1, t1, f1, d1, c1, rfl, rfl, W.x1, W.r1, o1⟩
          | 1, _ => exact ⟨x2, t2, f2, d2, c2, rfl, rfl, W.x2, W.r2, o2⟩
        refine ⟨_, rfl, _, rfl, _, _, _, _, rfl, rfl, SqL.of W.L, at_of (j := j) (by omega) g1, ?_⟩
        refine ⟨_, rfl, _, rfl, _, _, _, _, rfl, rfl, SqL.of W.lr, at_of (j := j) (by omega) g2, ?_⟩
        exact ⟨_, rfl, x, t, f, d, c, kk, rfl, hx, ht, ho, fun Hi si => ⟨_, rfl, iteF ⟨sh.trans si, _, rfl⟩⟩⟩
      · rintro σ' Hh ⟨sh, v10, rfl⟩
        exact ⟨sh, _, _, rfl⟩
    rintro σ' Hg ⟨sg, v9, v10, rfl⟩
    have W := W.same sg
    refine ⟨_, rfl, _, _, _, _, rfl, rfl, SqL.of W.L, rfl, _, rfl, x1, f1, d1, c1, v, rfl, W.x1, o1, hv, fun tr Hf sf htr => ?_⟩
    have W := W.same sf
    refine ⟨_, rfl, (by show 5 ≤ sizeLine; decide), fun tq htq => ?_⟩
    refine ⟨tiesD v, tiesD v, .tup (SqT.of (same_upd htq _ _ htr)) (.cons (.str _) (.cons (.int _) (.cons (.bl _) (.cons (.bl _) (.cons (.bl _) .nil))))), .tup (SqT.of upd_same) (.cons (.str _) (.cons (.int _) (.cons (.bl _) (.cons (.bl _) (.cons (.bl _) .nil))))), ties_shaped v, ties_shaped v, ?_⟩
    rw [SeqAt.eqv_refl _ (SeqAt.canLay_of_shaped (ties_shaped v))]
    refine ⟨_, rfl, iteF ?_⟩
    have W := W.same (same_upd (o := .tup [.str "ties", .int v, .bl true, .bl true, .bl false]) htq)
    refine ⟨_, rfl, _, _, _, _, rfl, rfl, SqL.of W.L, rfl, ?_⟩
    refine ⟨_, rfl, _, _, _, _, rfl, rfl, SqL.of W.lr, rfl, x1, t1, f1, d1, c1, rfl, W.x1, W.r1, fun H13 s13 => ⟨_, rfl, iteT ?_⟩⟩
    have W := W.same s13
    refine ⟨_, rfl, _, _, _, _, rfl, rfl, SqL.of W.L, rfl, ?_⟩
    exact ⟨_, rfl, _, _, _, _, rfl, rfl, SqL.of W.lr, rfl, x2, t2, f2, d2, c2, rfl, W.x2, W.r2, fun Ha _ => k Ha⟩
end
end L

set_option Elab.async false
set_option linter.all false
set_option maxRecDepth 100000
set_option maxHeartbeats 4000000
set_option pp.maxSteps 160
set_option pp.deepTerms false
namespace L
open PySem PySem.Spec PyProof.Rows L2 Fl
local macro_rules | `(tactic| walk_at "side") => `(tactic| first | (exact .inl ⟨by omega, by omega⟩) | (exact .inr ⟨by omega, by omega⟩) | (exact .inr ⟨by decide, by decide⟩) | (show (_ : Int) ≠ _; omega) | (exact ⟨by omega, by decide⟩) | (exact ⟨by decide, by decide, by decide⟩))
local macro_rules | `(tactic| walk_at "go") => `(tactic| repeat (first | refine ⟨_, rfl, ?_⟩ | refine ⟨_, _, rfl, rfl, ?_⟩ | refine .inl ⟨_, rfl, ?_⟩ | refine ⟨rfl, ?_⟩ | refine ⟨(by walk_at "side"), ?_⟩))
local macro_rules | `(tactic| walk_at "see") => `(tactic| (set_option pp.maxSteps 110 in set_option pp.deepTerms false in trace_state))
local macro_rules | `(tactic| walk_at "if") => `(tactic| first | refine ifE ?_ ?_ | refine ifNE ?_ ?_ | refine ifD ?_ ?_ | refine ifN ?_ ?_ | refine ifB ?_ ?_)
section
variable {P : Program} {w : World} {K : PySem.W.Frag} {mg : Str → Option Value} {base : Heap}
end

theorem kit_type {K : PySem.W.Frag} {t : Addr} {n : String} {b : Bool} (hk : PySem.W.kitMeta n = true) (hs : PySem.W.subIn K (.ref t) (.type n) = some b) : PySem.W.kitOne K (.ref t) (.type n) = some b := by
  unfold PySem.W.kitOne
  rw [if_neg (by intro h; cases beq_iff_eq.mp h)]
  show (if PySem.W.kitMeta n = true then PySem.W.subIn K (.ref t) (.type n) else none) = some b
  rw [if_pos hk]
  exact hs
theorem all_mk {l : PySem.W.OpenLaw} {w : World} {K : PySem.W.Frag} {h : Heap} {mg : Str → Option Value} {fa : Addr} (X : K.In h) (G : h.Ns mainGlobals mg) (hfa : mg "law" = some (.ref fa))
    {C : Addr} {fRatio_init tD : Addr} {ocRatio_init kVRatio_init dcRatio_init pmRatio_init cdRatio_init ctRatio_init : Value} {odRatio_init anRatio_init : Option Addr} {slRatio_init : Array (Option Value)} {ocD : Value} {odD : Option Addr} {tkD : Tok} {nD : Nat} {slD : Array (Option Value)} {LE : Addr} {BN : Addr} {nmE qE : Str} {NE : Addr} {bsE subE : List Value} {snE : List Str} {abE : Bool} {colE : Option Bool} {ddE : Option Addr} {mE0 mE1 mE2 mE3 mE5 : Option Value} {fBadNumber_init : Addr} {ocBadNumber_init kVBadNumber_init dcBadNumber_init pmBadNumber_init cdBadNumber_init ctBadNumber_init : Value} {odBadNumber_init anBadNumber_init : Option Addr} {slBadNumber_init : Array (Option Value)} {NP : Addr} {ZU : Addr} {D : Addr} {tkM : Tok} {fRun_init : Addr} {ocRun_init kVRun_init dcRun_init pmRun_init cdRun_init ctRun_init : Value} {odRun_init anRun_init : Option Addr} {slRun_init : Array (Option Value)} {fRun_below : Addr} {ocRun_below kVRun_below dcRun_below pmRun_below cdRun_below ctRun_below : Value} {odRun_below anRun_below : Option Addr} {slRun_below : Array (Option Value)} {fRun_above : Addr} {ocRun_above kVRun_above dcRun_above pmRun_above cdRun_above ctRun_above : Value} {odRun_above anRun_above : Option Addr} {slRun_above : Array (Option Value)} {pRun_last gRun_last : Addr} {rRun_last : List Value} {ocRun_last kVRun_last dcRun_last pmRun_last cdRun_last ctRun_last : Value} {odRun_last anRun_last : Option Addr} {slRun_last : Array (Option Value)} {fRun_gain kdRun_gain : Addr} {tkkRun_gain : Tok} {ocRun_gain dcRun_gain pmRun_gain cdRun_gain ctRun_gain : Value} {odRun_gain anRun_gain : Option Addr} {slRun_gain : Array (Option Value)} {fpool : Addr} {ocpool kVpool dcpool pmpool cdpool ctpool : Value} {odpool anpool : Option Addr} {slpool : Array (Option Value)} {fmix : Addr} {ocmix kVmix dcmix pmmix cdmix ctmix : Value} {odmix anmix : Option Addr} {slmix : Array (Option Value)} {fdraw : Addr} {ocdraw kVdraw dcdraw pmdraw cddraw ctdraw : Value} {oddraw andraw : Option Addr} {sldraw : Array (Option Value)} {fwide : Addr} {ocwide kVwide dcwide pmwide cdwide ctwide : Value} {odwide anwide : Option Addr} {slwide : Array (Option Value)} {fany : Addr} {ocany kVany dcany pmany cdany ctany : Value} {odany anany : Option Addr} {slany : Array (Option Value)} {fwhole : Addr} {ocwhole kVwhole dcwhole pmwhole cdwhole ctwhole : Value} {odwhole anwhole : Option Addr} {slwhole : Array (Option Value)} {fratio : Addr} {ocratio kVratio dcratio pmratio cdratio ctratio : Value} {odratio anratio : Option Addr} {slratio : Array (Option Value)} {fsame : Addr} {ocsame kVsame dcsame pmsame cdsame ctsame : Value} {odsame ansame : Option Addr} {slsame : Array (Option Value)} {fgreat_run : Addr} {ocgreat_run kVgreat_run dcgreat_run pmgreat_run cdgreat_run ctgreat_run : Value} {odgreat_run angreat_run : Option Addr} {slgreat_run : Array (Option Value)} {flast : Addr} {oclast kVlast dclast pmlast cdlast ctlast : Value} {odlast anlast : Option Addr} {sllast : Array (Option Value)} {fbeside : Addr} {ocbeside kVbeside dcbeside pmbeside cdbeside ctbeside : Value} {odbeside anbeside : Option Addr} {slbeside : Array (Option Value)} {fheld : Addr} {ocheld kVheld dcheld pmheld cdheld ctheld : Value} {odheld anheld : Option Addr} {slheld : Array (Option Value)} {fupto : Addr} {ocupto kVupto dcupto pmupto cdupto ctupto : Value} {odupto anupto : Option Addr} {slupto : Array (Option Value)} {fwon : Addr} {ocwon kVwon dcwon pmwon cdwon ctwon : Value} {odwon anwon : Option Addr} {slwon : Array (Option Value)} {frule_refused : Addr} {ocrule_refused kVrule_refused dcrule_refused pmrule_refused cdrule_refused ctrule_refused : Value} {odrule_refused anrule_refused : Option Addr} {slrule_refused : Array (Option Value)} {fgains : Addr} {ocgains kVgains dcgains pmgains cdgains ctgains : Value} {odgains angains : Option Addr} {slgains : Array (Option Value)} {fcheck_ties : Addr} {occheck_ties kVcheck_ties dccheck_ties pmcheck_ties cdcheck_ties ctcheck_ties : Value} {odcheck_ties ancheck_ties : Option Addr} {slcheck_ties : Array (Option Value)} {flead : Addr} {oclead kVlead dclead pmlead cdlead ctlead : Value} {odlead anlead : Option Addr} {sllead : Array (Option Value)} {flaw : Addr} {oclaw kVlaw dclaw pmlaw cdlaw ctlaw : Value} {odlaw anlaw : Option Addr} {sllaw : Array (Option Value)}
    (zlen : PySem.W.nsIn K mainGlobals "len" = some none)
    (zint : PySem.W.nsIn K mainGlobals "int" = some none)
    (zabs : PySem.W.nsIn K mainGlobals "abs" = some none)
    (zrange : PySem.W.nsIn K mainGlobals "range" = some none)
    (zisinstance : PySem.W.nsIn K mainGlobals "isinstance" = some none)
    (zmax : PySem.W.nsIn K mainGlobals "max" = some none)
    (zmin : PySem.W.nsIn K mainGlobals "min" = some none)
    (zsum : PySem.W.nsIn K mainGlobals "sum" = some none)
    (zstr : PySem.W.nsIn K mainGlobals "str" = some none)
    (zbool : PySem.W.nsIn K mainGlobals "bool" = some none)
    (zlist : PySem.W.nsIn K mainGlobals "list" = some none)
    (zValueError : PySem.W.nsIn K mainGlobals "ValueError" = some none)
    (aC : PySem.W.nsIn K mainGlobals "Ratio" = some (some (.ref C)))
    (pgC : PySem.W.plainGet K C Str.empty = true)
    (hdC : PySem.W.hasDictIn K C = true)
    (poC : PySem.W.plainOver K C = true)
    (saC : PySem.W.findIn K (.ref C) "__setattr__" = some (some (.builtin "object.__setattr__")))
    (mkC : PySem.W.makesIn K C = true)
    (kcC : PySem.W.keepIn K (.ref C) = true)
    (nTC : PySem.W.findIn K (.ref C) "top" = some none)
    (nUC : PySem.W.findIn K (.ref C) "under" = some none)
    (haC : PySem.W.findIn K (.ref C) "__class__" = some (some (.builtin "object.__class__")))
    (hnO : PySem.W.specialIn K (.builtin "object.__class__") "__get__" = some (some (.builtin "getset_descriptor.__get__")))
    (htO : PySem.W.takesIn K (.builtin "object.__class__") = some true)
    (hmC : PySem.W.mroIn K C (.type "object") = some true)
    (siC : PySem.W.subIn K (.type "int") (.ref C) = some false)
    (tyC : PySem.W.typeIn K (.ref C) = some (.type "type"))
    (aRatio_init : PySem.W.findIn K (.ref C) "__init__" = some (some (.ref fRatio_init)))
    (iRatio_init : PySem.W.isFn K (.ref fRatio_init) = true)
    (lRatio_init : K.lookup fRatio_init = some ⟨ocRatio_init, odRatio_init, .func (PySem.W.fnOf "__init__" "Ratio.__init__" (defArgs s_Ratio_init) (defBody s_Ratio_init) (defScope s_Ratio_init) (.ref tD) kVRatio_init dcRatio_init pmRatio_init anRatio_init cdRatio_init ctRatio_init), slRatio_init⟩)
    (cRatio_init : PySem.W.codeIn K cdRatio_init "Ratio.__init__" = true)
    (kRatio_init : PySem.W.keepIn K (.ref fRatio_init) = true)
    (lD : K.lookup tD = some ⟨ocD, odD, .seq #[.int 1 tkD] nD, slD⟩)
    (aGcd : PySem.W.nsIn K mainGlobals "gcd" = some (some (.builtin "math.gcd")))
    (aLE : PySem.W.nsIn K mainGlobals "LotError" = some (some (.ref LE)))
    (hdLE : PySem.W.hasDictIn K LE = true)
    (teLE : PySem.W.typeIn K (.ref LE) = some (.type "type"))
    (aBN : PySem.W.nsIn K mainGlobals "BadNumber" = some (some (.ref BN)))
    (xBN : K.lookup BN = some (excClassObj nmE qE BN NE bsE [.ref LE, .type "ValueError", .type "Exception", .type "BaseException", .type "object"] true snE subE abE colE ddE mE0 mE1 mE2 mE3 mE5 "ValueError.__new__"))
    (saBN : PySem.W.findIn K (.ref BN) "__setattr__" = some (some (.builtin "object.__setattr__")))
    (keBN : PySem.W.keepIn K (.ref BN) = true)
    (beBN : PySem.W.subIn K (.ref BN) (.type "BaseException") = some true)
    (teBN : PySem.W.typeIn K (.ref BN) = some (.type "type"))
    (seBN : PySem.W.subIn K (.ref BN) (.ref BN) = some true)
    (geBN : PySem.W.findIn K (.ref BN) "__getattribute__" = some (some (.builtin "BaseException.__getattribute__")))
    (ggBN : PySem.W.findIn K (.ref BN) "__getattr__" = some none)
    (hdBN : PySem.W.hasDictIn K BN = true)
    (hcBN : PySem.W.findIn K (.ref BN) "__class__" = some (some (.builtin "object.__class__")))
    (hoBN : PySem.W.mroIn K BN (.type "object") = some true)
    (veBN : PySem.W.subIn K (.ref BN) (.type "ValueError") = some true)
    (fnBN : PySem.W.findIn K (.ref BN) "name" = some none)
    (fvBN : PySem.W.findIn K (.ref BN) "value" = some none)
    (aBadNumber_init : PySem.W.findIn K (.ref BN) "__init__" = some (some (.ref fBadNumber_init)))
    (tBadNumber_init : PySem.W.typeIn K (.ref fBadNumber_init) = some (.type "function"))
    (lBadNumber_init : K.lookup fBadNumber_init = some ⟨ocBadNumber_init, odBadNumber_init, .func (PySem.W.fnOf "__init__" "BadNumber.__init__" (defArgs s_BadNumber_init) (defBody s_BadNumber_init) (defScope s_BadNumber_init) .none kVBadNumber_init dcBadNumber_init pmBadNumber_init anBadNumber_init cdBadNumber_init ctBadNumber_init), slBadNumber_init⟩)
    (cBadNumber_init : PySem.W.codeIn K cdBadNumber_init "BadNumber.__init__" = true)
    (kBadNumber_init : PySem.W.keepIn K (.ref fBadNumber_init) = true)
    (sBNLE : PySem.W.subIn K (.ref BN) (.ref LE) = some true)
    (kmV : PySem.W.kitMeta "ValueError" = true)
    (aNP : PySem.W.nsIn K mainGlobals "NoPlace" = some (some (.ref NP)))
    (hdNP : PySem.W.hasDictIn K NP = true)
    (teNP : PySem.W.typeIn K (.ref NP) = some (.type "type"))
    (sBNNP : PySem.W.subIn K (.ref BN) (.ref NP) = some false)
    (aZU : PySem.W.nsIn K mainGlobals "ZeroUnder" = some (some (.ref ZU)))
    (xZU : PySem.W.excIn K ZU [.type "ValueError", .type "Exception", .type "BaseException", .type "object"] "ValueError.__new__" = true)
    (keZU : PySem.W.keepIn K (.ref ZU) = true)
    (beZU : PySem.W.subIn K (.ref ZU) (.type "BaseException") = some true)
    (teZU : PySem.W.typeIn K (.ref ZU) = some (.type "type"))
    (seZU : PySem.W.subIn K (.ref ZU) (.ref ZU) = some true)
    (geZU : PySem.W.findIn K (.ref ZU) "__getattribute__" = some (some (.builtin "BaseException.__getattribute__")))
    (ggZU : PySem.W.findIn K (.ref ZU) "__getattr__" = some none)
    (hdZU : PySem.W.hasDictIn K ZU = true)
    (hcZU : PySem.W.findIn K (.ref ZU) "__class__" = some (some (.builtin "object.__class__")))
    (hoZU : PySem.W.mroIn K ZU (.type "object") = some true)
    (veZU : PySem.W.subIn K (.ref ZU) (.type "ValueError") = some true)
    (aD : PySem.W.nsIn K mainGlobals "Run" = some (some (.ref D)))
    (pgD : PySem.W.plainGet K D Str.empty = true)
    (hdD : PySem.W.hasDictIn K D = true)
    (poD : PySem.W.plainOver K D = true)
    (saD : PySem.W.findIn K (.ref D) "__setattr__" = some (some (.builtin "object.__setattr__")))
    (mkD : PySem.W.makesIn K D = true)
    (kcD : PySem.W.keepIn K (.ref D) = true)
    (n1D : PySem.W.findIn K (.ref D) "first" = some none)
    (n2D : PySem.W.findIn K (.ref D) "step" = some none)
    (n3D : PySem.W.findIn K (.ref D) "count" = some none)
    (haD : PySem.W.findIn K (.ref D) "__class__" = some (some (.builtin "object.__class__")))
    (hmD : PySem.W.mroIn K D (.type "object") = some true)
    (aMS : PySem.W.nsIn K mainGlobals "MOST_STEP" = some (some (.int 4 tkM)))
    (aRun_init : PySem.W.findIn K (.ref D) "__init__" = some (some (.ref fRun_init)))
    (iRun_init : PySem.W.isFn K (.ref fRun_init) = true)
    (lRun_init : K.lookup fRun_init = some ⟨ocRun_init, odRun_init, .func (PySem.W.fnOf "__init__" "Run.__init__" (defArgs s_Run_init) (defBody s_Run_init) (defScope s_Run_init) .none kVRun_init dcRun_init pmRun_init anRun_init cdRun_init ctRun_init), slRun_init⟩)
    (cRun_init : PySem.W.codeIn K cdRun_init "Run.__init__" = true)
    (kRun_init : PySem.W.keepIn K (.ref fRun_init) = true)
    (aRun_below : PySem.W.findIn K (.ref D) "below" = some (some (.ref fRun_below)))
    (iRun_below : PySem.W.isFn K (.ref fRun_below) = true)
    (lRun_below : K.lookup fRun_below = some ⟨ocRun_below, odRun_below, .func (PySem.W.fnOf "below" "Run.below" (defArgs s_Run_below) (defBody s_Run_below) (defScope s_Run_below) .none kVRun_below dcRun_below pmRun_below anRun_below cdRun_below ctRun_below), slRun_below⟩)
    (cRun_below : PySem.W.codeIn K cdRun_below "Run.below" = true)
    (kRun_below : PySem.W.keepIn K (.ref fRun_below) = true)
    (aRun_above : PySem.W.findIn K (.ref D) "above" = some (some (.ref fRun_above)))
    (iRun_above : PySem.W.isFn K (.ref fRun_above) = true)
    (lRun_above : K.lookup fRun_above = some ⟨ocRun_above, odRun_above, .func (PySem.W.fnOf "above" "Run.above" (defArgs s_Run_above) (defBody s_Run_above) (defScope s_Run_above) .none kVRun_above dcRun_above pmRun_above anRun_above cdRun_above ctRun_above), slRun_above⟩)
    (cRun_above : PySem.W.codeIn K cdRun_above "Run.above" = true)
    (kRun_above : PySem.W.keepIn K (.ref fRun_above) = true)
    (q1Run_last : PySem.W.findIn K (.ref D) "last" = some (some (.ref pRun_last)))
    (q2Run_last : PySem.W.specialIn K (.ref pRun_last) "__get__" = some (some (.builtin "property.__get__")))
    (q3Run_last : PySem.W.takesIn K (.ref pRun_last) = some true)
    (q4Run_last : PySem.W.recIn K pRun_last "property" = some (.ref gRun_last :: rRun_last))
    (lRun_last : K.lookup gRun_last = some ⟨ocRun_last, odRun_last, .func (PySem.W.fnOf "last" "Run.last" (defArgs s_Run_last) (defBody s_Run_last) (defScope s_Run_last) .none kVRun_last dcRun_last pmRun_last anRun_last cdRun_last ctRun_last), slRun_last⟩)
    (cRun_last : PySem.W.codeIn K cdRun_last "Run.last" = true)
    (kRun_last : PySem.W.keepIn K (.ref gRun_last) = true)
    (aRun_gain : PySem.W.findIn K (.ref D) "gain" = some (some (.ref fRun_gain)))
    (iRun_gain : PySem.W.isFn K (.ref fRun_gain) = true)
    (lRun_gain : K.lookup fRun_gain = some ⟨ocRun_gain, odRun_gain, .func (PySem.W.fnOf "gain" "Run.gain" (defArgs s_Run_gain) (defBody s_Run_gain) (defScope s_Run_gain) .none (.ref kdRun_gain) dcRun_gain pmRun_gain anRun_gain cdRun_gain ctRun_gain), slRun_gain⟩)
    (cRun_gain : PySem.W.codeIn K cdRun_gain "Run.gain" = true)
    (kRun_gain : PySem.W.keepIn K (.ref fRun_gain) = true)
    (nRun_gain : PySem.W.nsIn K kdRun_gain "ties" = some (some (.int 0 tkkRun_gain)))
    (apool : PySem.W.nsIn K mainGlobals "_law_pool" = some (some (.ref fpool)))
    (lpool : K.lookup fpool = some ⟨ocpool, odpool, .func (PySem.W.fnOf "_law_pool" "_law_pool" (defArgs s_pool) (defBody s_pool) (defScope s_pool) .none kVpool dcpool pmpool anpool cdpool ctpool), slpool⟩)
    (cpool : PySem.W.codeIn K cdpool "_law_pool" = true)
    (kpool : PySem.W.keepIn K (.ref fpool) = true)
    (amix : PySem.W.nsIn K mainGlobals "_law_mix" = some (some (.ref fmix)))
    (lmix : K.lookup fmix = some ⟨ocmix, odmix, .func (PySem.W.fnOf "_law_mix" "_law_mix" (defArgs s_mix) (defBody s_mix) (defScope s_mix) .none kVmix dcmix pmmix anmix cdmix ctmix), slmix⟩)
    (cmix : PySem.W.codeIn K cdmix "_law_mix" = true)
    (kmix : PySem.W.keepIn K (.ref fmix) = true)
    (adraw : PySem.W.nsIn K mainGlobals "_law_draw" = some (some (.ref fdraw)))
    (ldraw : K.lookup fdraw = some ⟨ocdraw, oddraw, .func (PySem.W.fnOf "_law_draw" "_law_draw" (defArgs s_draw) (defBody s_draw) (defScope s_draw) .none kVdraw dcdraw pmdraw andraw cddraw ctdraw), sldraw⟩)
    (cdraw : PySem.W.codeIn K cddraw "_law_draw" = true)
    (kdraw : PySem.W.keepIn K (.ref fdraw) = true)
    (awide : PySem.W.nsIn K mainGlobals "_law_wide" = some (some (.ref fwide)))
    (lwide : K.lookup fwide = some ⟨ocwide, odwide, .func (PySem.W.fnOf "_law_wide" "_law_wide" (defArgs s_wide) (defBody s_wide) (defScope s_wide) .none kVwide dcwide pmwide anwide cdwide ctwide), slwide⟩)
    (cwide : PySem.W.codeIn K cdwide "_law_wide" = true)
    (kwide : PySem.W.keepIn K (.ref fwide) = true)
    (aany : PySem.W.nsIn K mainGlobals "_law_any" = some (some (.ref fany)))
    (lany : K.lookup fany = some ⟨ocany, odany, .func (PySem.W.fnOf "_law_any" "_law_any" (defArgs s_any) (defBody s_any) (defScope s_any) .none kVany dcany pmany anany cdany ctany), slany⟩)
    (cany : PySem.W.codeIn K cdany "_law_any" = true)
    (kany : PySem.W.keepIn K (.ref fany) = true)
    (awhole : PySem.W.nsIn K mainGlobals "_law_whole" = some (some (.ref fwhole)))
    (lwhole : K.lookup fwhole = some ⟨ocwhole, odwhole, .func (PySem.W.fnOf "_law_whole" "_law_whole" (defArgs s_whole) (defBody s_whole) (defScope s_whole) .none kVwhole dcwhole pmwhole anwhole cdwhole ctwhole), slwhole⟩)
    (cwhole : PySem.W.codeIn K cdwhole "_law_whole" = true)
    (kwhole : PySem.W.keepIn K (.ref fwhole) = true)
    (aratio : PySem.W.nsIn K mainGlobals "_law_ratio" = some (some (.ref fratio)))
    (lratio : K.lookup fratio = some ⟨ocratio, odratio, .func (PySem.W.fnOf "_law_ratio" "_law_ratio" (defArgs s_ratio) (defBody s_ratio) (defScope s_ratio) .none kVratio dcratio pmratio anratio cdratio ctratio), slratio⟩)
    (cratio : PySem.W.codeIn K cdratio "_law_ratio" = true)
    (kratio : PySem.W.keepIn K (.ref fratio) = true)
    (asame : PySem.W.nsIn K mainGlobals "_law_same" = some (some (.ref fsame)))
    (lsame : K.lookup fsame = some ⟨ocsame, odsame, .func (PySem.W.fnOf "_law_same" "_law_same" (defArgs s_same) (defBody s_same) (defScope s_same) .none kVsame dcsame pmsame ansame cdsame ctsame), slsame⟩)
    (csame : PySem.W.codeIn K cdsame "_law_same" = true)
    (ksame : PySem.W.keepIn K (.ref fsame) = true)
    (agreat_run : PySem.W.nsIn K mainGlobals "_law_great_run" = some (some (.ref fgreat_run)))
    (lgreat_run : K.lookup fgreat_run = some ⟨ocgreat_run, odgreat_run, .func (PySem.W.fnOf "_law_great_run" "_law_great_run" (defArgs s_great_run) (defBody s_great_run) (defScope s_great_run) .none kVgreat_run dcgreat_run pmgreat_run angreat_run cdgreat_run ctgreat_run), slgreat_run⟩)
    (cgreat_run : PySem.W.codeIn K cdgreat_run "_law_great_run" = true)
    (kgreat_run : PySem.W.keepIn K (.ref fgreat_run) = true)
    (alast : PySem.W.nsIn K mainGlobals "_law_last" = some (some (.ref flast)))
    (llast : K.lookup flast = some ⟨oclast, odlast, .func (PySem.W.fnOf "_law_last" "_law_last" (defArgs s_last) (defBody s_last) (defScope s_last) .none kVlast dclast pmlast anlast cdlast ctlast), sllast⟩)
    (clast : PySem.W.codeIn K cdlast "_law_last" = true)
    (klast : PySem.W.keepIn K (.ref flast) = true)
    (abeside : PySem.W.nsIn K mainGlobals "_law_beside" = some (some (.ref fbeside)))
    (lbeside : K.lookup fbeside = some ⟨ocbeside, odbeside, .func (PySem.W.fnOf "_law_beside" "_law_beside" (defArgs s_beside) (defBody s_beside) (defScope s_beside) .none kVbeside dcbeside pmbeside anbeside cdbeside ctbeside), slbeside⟩)
    (cbeside : PySem.W.codeIn K cdbeside "_law_beside" = true)
    (kbeside : PySem.W.keepIn K (.ref fbeside) = true)
    (aheld : PySem.W.nsIn K mainGlobals "_law_held" = some (some (.ref fheld)))
    (lheld : K.lookup fheld = some ⟨ocheld, odheld, .func (PySem.W.fnOf "_law_held" "_law_held" (defArgs s_held) (defBody s_held) (defScope s_held) .none kVheld dcheld pmheld anheld cdheld ctheld), slheld⟩)
    (cheld : PySem.W.codeIn K cdheld "_law_held" = true)
    (kheld : PySem.W.keepIn K (.ref fheld) = true)
    (aupto : PySem.W.nsIn K mainGlobals "_law_upto" = some (some (.ref fupto)))
    (lupto : K.lookup fupto = some ⟨ocupto, odupto, .func (PySem.W.fnOf "_law_upto" "_law_upto" (defArgs s_upto) (defBody s_upto) (defScope s_upto) .none kVupto dcupto pmupto anupto cdupto ctupto), slupto⟩)
    (cupto : PySem.W.codeIn K cdupto "_law_upto" = true)
    (kupto : PySem.W.keepIn K (.ref fupto) = true)
    (awon : PySem.W.nsIn K mainGlobals "_law_won" = some (some (.ref fwon)))
    (lwon : K.lookup fwon = some ⟨ocwon, odwon, .func (PySem.W.fnOf "_law_won" "_law_won" (defArgs s_won) (defBody s_won) (defScope s_won) .none kVwon dcwon pmwon anwon cdwon ctwon), slwon⟩)
    (cwon : PySem.W.codeIn K cdwon "_law_won" = true)
    (kwon : PySem.W.keepIn K (.ref fwon) = true)
    (arule_refused : PySem.W.nsIn K mainGlobals "_law_rule_refused" = some (some (.ref frule_refused)))
    (lrule_refused : K.lookup frule_refused = some ⟨ocrule_refused, odrule_refused, .func (PySem.W.fnOf "_law_rule_refused" "_law_rule_refused" (defArgs s_rule_refused) (defBody s_rule_refused) (defScope s_rule_refused) .none kVrule_refused dcrule_refused pmrule_refused anrule_refused cdrule_refused ctrule_refused), slrule_refused⟩)
    (crule_refused : PySem.W.codeIn K cdrule_refused "_law_rule_refused" = true)
    (krule_refused : PySem.W.keepIn K (.ref frule_refused) = true)
    (agains : PySem.W.nsIn K mainGlobals "_law_gains" = some (some (.ref fgains)))
    (lgains : K.lookup fgains = some ⟨ocgains, odgains, .func (PySem.W.fnOf "_law_gains" "_law_gains" (defArgs s_gains) (defBody s_gains) (defScope s_gains) .none kVgains dcgains pmgains angains cdgains ctgains), slgains⟩)
    (cgains : PySem.W.codeIn K cdgains "_law_gains" = true)
    (kgains : PySem.W.keepIn K (.ref fgains) = true)
    (acheck_ties : PySem.W.nsIn K mainGlobals "check_ties" = some (some (.ref fcheck_ties)))
    (lcheck_ties : K.lookup fcheck_ties = some ⟨occheck_ties, odcheck_ties, .func (PySem.W.fnOf "check_ties" "check_ties" (defArgs s_check_ties) (defBody s_check_ties) (defScope s_check_ties) .none kVcheck_ties dccheck_ties pmcheck_ties ancheck_ties cdcheck_ties ctcheck_ties), slcheck_ties⟩)
    (ccheck_ties : PySem.W.codeIn K cdcheck_ties "check_ties" = true)
    (kcheck_ties : PySem.W.keepIn K (.ref fcheck_ties) = true)
    (alead : PySem.W.nsIn K mainGlobals "lead" = some (some (.ref flead)))
    (llead : K.lookup flead = some ⟨oclead, odlead, .func (PySem.W.fnOf "lead" "lead" (defArgs s_lead) (defBody s_lead) (defScope s_lead) .none kVlead dclead pmlead anlead cdlead ctlead), sllead⟩)
    (clead : PySem.W.codeIn K cdlead "lead" = true)
    (klead : PySem.W.keepIn K (.ref flead) = true)
    (alaw : PySem.W.nsIn K mainGlobals "law" = some (some (.ref flaw)))
    (llaw : K.lookup flaw = some ⟨oclaw, odlaw, .func (PySem.W.fnOf "law" "law" (defArgs s_law) (defBody s_law) (defScope s_law) .none kVlaw dclaw pmlaw anlaw cdlaw ctlaw), sllaw⟩)
    (claw : PySem.W.codeIn K cdlaw "law" = true)
    (klaw : PySem.W.keepIn K (.ref flaw) = true) :
    ∃ fd : FuncData, (∀ (s : Shared) (v : Value), BindsTo s fd ⟨[v], []⟩ [("_law_script", v)]) ∧ ∀ base : Heap, K.In base → base.Ns mainGlobals mg → FnOk l.prog w K mg base CX0 8 fa fd ["_law_script"] (spLaw K) := by
  have e := hfa.symm.trans (PySem.W.mg_of X G alaw)
  cases e
  have B : Blt mg := ⟨PySem.W.mg_none_of X G zlen, PySem.W.mg_none_of X G zint, PySem.W.mg_none_of X G zabs, PySem.W.mg_none_of X G zrange, PySem.W.mg_none_of X G zisinstance, PySem.W.mg_none_of X G zmax, PySem.W.mg_none_of X G zmin, PySem.W.mg_none_of X G zsum, PySem.W.mg_none_of X G zstr, PySem.W.mg_none_of X G zbool, PySem.W.mg_none_of X G zlist, PySem.W.mg_none_of X G zValueError⟩
  have gRatio := PySem.W.mg_of X G aC
  have T : RatC K mg C := ⟨⟨pgC, hdC, poC, saC⟩, nTC, nUC, gRatio, haC, hnO, htO, hmC, kit_int hdC tyC siC⟩
  have FI : FunD K "__init__" "Ratio.__init__" (defArgs s_Ratio_init) (defBody s_Ratio_init) (defScope s_Ratio_init) [.int 1] [] fRatio_init _ := ⟨⟨_, _, _, _, _, _, _, _, _, _, rfl, lRatio_init, cRatio_init, .inr ⟨(by intro e; cases e), tD, _, [Value.int 1 tkD], nD, rfl, lD, rfl, .cons ⟨_, rfl⟩ .nil⟩, .inl rfl⟩, kRatio_init⟩
  have hgcd := PySem.W.mg_of X G aGcd
  have gLotError := PySem.W.mg_of X G aLE
  have gBadNumber := PySem.W.mg_of X G aBN
  have rBN : PySem.HandSPX.refsVE [.ref LE, .type "ValueError", .type "Exception", .type "BaseException", .type "object"] = true := (show PySem.HandSPX.refsVE [.type "ValueError", .type "Exception", .type "BaseException", .type "object"] = true by decide +kernel)
  have TB : BnC K mg BN := ⟨⟨⟨nmE, qE, NE, bsE, _, snE, subE, abE, colE, ddE, mE0, mE1, mE2, mE3, mE5, xBN, rBN⟩, saBN, beBN, teBN, keBN⟩, gBadNumber, fnBN, fvBN, ⟨geBN, ggBN, beBN, hdBN, hcBN, hnO, htO, hoBN⟩, seBN⟩
  have FB := fun_mk (st := s_BadNumber_init) lBadNumber_init cBadNumber_init kBadNumber_init
  have bB := FB.binds (ps := ["self", "name", "value"]) fun _ _ _ _ _ _ us hl => match us, hl with | [_, _, _], _ => rfl
  have gNoPlace := PySem.W.mg_of X G aNP
  have gZeroUnder := PySem.W.mg_of X G aZU
  have TZU : ExC K mg "ZeroUnder" ZU := ⟨xZU, gZeroUnder, keZU, beZU, teZU, seZU, ⟨geZU, ggZU, beZU, hdZU, hcZU, hnO, htO, hoZU⟩⟩
  have gRun := PySem.W.mg_of X G aD
  have TD : RunC K mg D := ⟨⟨pgD, hdD, poD, saD⟩, n1D, n2D, n3D, gRun, haD, hnO, htO, hmD⟩
  have gMS := PySem.W.mg_of X G aMS
  have FRun_init := fun_mk (st := s_Run_init) lRun_init cRun_init kRun_init
  have bRun_init := FRun_init.binds (ps := ["self", "first", "step", "count"]) fun _ _ _ _ _ _ us hl => match us, hl with | [_, _, _, _], _ => rfl
  have FRun_below := fun_mk (st := s_Run_below) lRun_below cRun_below kRun_below
  have bRun_below := FRun_below.binds (ps := ["self", "k"]) fun _ _ _ _ _ _ us hl => match us, hl with | [_, _], _ => rfl
  have mRun_below : Meth K D "below" fRun_below := ⟨aRun_below, iRun_below, kRun_below⟩
  have FRun_above := fun_mk (st := s_Run_above) lRun_above cRun_above kRun_above
  have bRun_above := FRun_above.binds (ps := ["self", "k"]) fun _ _ _ _ _ _ us hl => match us, hl with | [_, _], _ => rfl
  have mRun_above : Meth K D "above" fRun_above := ⟨aRun_above, iRun_above, kRun_above⟩
  have FRun_last := fun_mk (st := s_Run_last) lRun_last cRun_last kRun_last
  have bRun_last := FRun_last.binds (ps := ["self"]) fun _ _ _ _ _ _ us hl => match us, hl with | [_], _ => rfl
  have PRun_last : PropOf K D "last" pRun_last gRun_last := ⟨q1Run_last, q2Run_last, q3Run_last, _, q4Run_last⟩
  have FRun_gain : FunD K "gain" "Run.gain" (defArgs s_Run_gain) (defBody s_Run_gain) (defScope s_Run_gain) [] [("ties", .int 0)] fRun_gain _ := ⟨⟨_, _, _, _, _, _, _, _, _, _, rfl, lRun_gain, cRun_gain, .inl ⟨rfl, rfl⟩, .inr ⟨kdRun_gain, rfl, fun q hq => by cases (List.mem_singleton.mp hq); exact ⟨_, nRun_gain, ⟨_, rfl⟩⟩⟩⟩, kRun_gain⟩
  have ⟨dsRun_gain, rdsRun_gain, bdRun_gain⟩ := FRun_gain.binds0 (ps := ["self", "k", "ties"]) 2 (by intro e; cases e) rfl (fun D doc pm an cdv ct us ks h1 h2 => match us, ks, h1, h2 with | [_, _], [_], _, _ => ⟨_, _, _, _, _, _, rfl, rfl, rfl⟩)
  have mRun_gain : Meth K D "gain" fRun_gain := ⟨aRun_gain, iRun_gain, kRun_gain⟩
  have Fpool := fun_mk (st := s_pool) lpool cpool kpool
  have Dpool : Dfn K mg "_law_pool" "_law_pool" s_pool ["_law_script"] := ⟨fpool, _, Fpool, PySem.W.mg_of X G apool, Fpool.binds (ps := ["_law_script"]) fun _ _ _ _ _ _ us hl => match us, hl with | [_], _ => rfl⟩
  have Fmix := fun_mk (st := s_mix) lmix cmix kmix
  have Dmix : Dfn K mg "_law_mix" "_law_mix" s_mix ["_law_state", "_law_turn", "_law_many"] := ⟨fmix, _, Fmix, PySem.W.mg_of X G amix, Fmix.binds (ps := ["_law_state", "_law_turn", "_law_many"]) fun _ _ _ _ _ _ us hl => match us, hl with | [_, _, _], _ => rfl⟩
  have Fdraw := fun_mk (st := s_draw) ldraw cdraw kdraw
  have Ddraw : Dfn K mg "_law_draw" "_law_draw" s_draw ["_law_pool_here", "_law_many"] := ⟨fdraw, _, Fdraw, PySem.W.mg_of X G adraw, Fdraw.binds (ps := ["_law_pool_here", "_law_many"]) fun _ _ _ _ _ _ us hl => match us, hl with | [_, _], _ => rfl⟩
  have Fwide := fun_mk (st := s_wide) lwide cwide kwide
  have Dwide : Dfn K mg "_law_wide" "_law_wide" s_wide ["_law_pool_here"] := ⟨fwide, _, Fwide, PySem.W.mg_of X G awide, Fwide.binds (ps := ["_law_pool_here"]) fun _ _ _ _ _ _ us hl => match us, hl with | [_], _ => rfl⟩
  have Fany := fun_mk (st := s_any) lany cany kany
  have Dany : Dfn K mg "_law_any" "_law_any" s_any ["_law_pool_here"] := ⟨fany, _, Fany, PySem.W.mg_of X G aany, Fany.binds (ps := ["_law_pool_here"]) fun _ _ _ _ _ _ us hl => match us, hl with | [_], _ => rfl⟩
  have Fwhole := fun_mk (st := s_whole) lwhole cwhole kwhole
  have Dwhole : Dfn K mg "_law_whole" "_law_whole" s_whole ["_law_actual"] := ⟨fwhole, _, Fwhole, PySem.W.mg_of X G awhole, Fwhole.binds (ps := ["_law_actual"]) fun _ _ _ _ _ _ us hl => match us, hl with | [_], _ => rfl⟩
  have Fratio := fun_mk (st := s_ratio) lratio cratio kratio
  have Dratio : Dfn K mg "_law_ratio" "_law_ratio" s_ratio ["_law_actual"] := ⟨fratio, _, Fratio, PySem.W.mg_of X G aratio, Fratio.binds (ps := ["_law_actual"]) fun _ _ _ _ _ _ us hl => match us, hl with | [_], _ => rfl⟩
  have Fsame := fun_mk (st := s_same) lsame csame ksame
  have Dsame : Dfn K mg "_law_same" "_law_same" s_same ["_law_actual", "_law_due"] := ⟨fsame, _, Fsame, PySem.W.mg_of X G asame, Fsame.binds (ps := ["_law_actual", "_law_due"]) fun _ _ _ _ _ _ us hl => match us, hl with | [_, _], _ => rfl⟩
  have Fgreat_run := fun_mk (st := s_great_run) lgreat_run cgreat_run kgreat_run
  have Dgreat_run : Dfn K mg "_law_great_run" "_law_great_run" s_great_run ["_law_pool_here"] := ⟨fgreat_run, _, Fgreat_run, PySem.W.mg_of X G agreat_run, Fgreat_run.binds (ps := ["_law_pool_here"]) fun _ _ _ _ _ _ us hl => match us, hl with | [_], _ => rfl⟩
  have Flast := fun_mk (st := s_last) llast clast klast
  have Dlast : Dfn K mg "_law_last" "_law_last" s_last ["_law_row"] := ⟨flast, _, Flast, PySem.W.mg_of X G alast, Flast.binds (ps := ["_law_row"]) fun _ _ _ _ _ _ us hl => match us, hl with | [_], _ => rfl⟩
  have Fbeside := fun_mk (st := s_beside) lbeside cbeside kbeside
  have Dbeside : Dfn K mg "_law_beside" "_law_beside" s_beside ["_law_pool_here", "_law_row"] := ⟨fbeside, _, Fbeside, PySem.W.mg_of X G abeside, Fbeside.binds (ps := ["_law_pool_here", "_law_row"]) fun _ _ _ _ _ _ us hl => match us, hl with | [_, _], _ => rfl⟩
  have Fheld := fun_mk (st := s_held) lheld cheld kheld
  have Dheld : Dfn K mg "_law_held" "_law_held" s_held ["_law_run", "_law_row"] := ⟨fheld, _, Fheld, PySem.W.mg_of X G aheld, Fheld.binds (ps := ["_law_run", "_law_row"]) fun _ _ _ _ _ _ us hl => match us, hl with | [_, _], _ => rfl⟩
  have Fupto := fun_mk (st := s_upto) lupto cupto kupto
  have Dupto : Dfn K mg "_law_upto" "_law_upto" s_upto ["_law_row", "_law_y"] := ⟨fupto, _, Fupto, PySem.W.mg_of X G aupto, Fupto.binds (ps := ["_law_row", "_law_y"]) fun _ _ _ _ _ _ us hl => match us, hl with | [_, _], _ => rfl⟩
  have Fwon := fun_mk (st := s_won) lwon cwon kwon
  have Dwon : Dfn K mg "_law_won" "_law_won" s_won ["_law_row", "_law_y", "_law_rule"] := ⟨fwon, _, Fwon, PySem.W.mg_of X G awon, Fwon.binds (ps := ["_law_row", "_law_y", "_law_rule"]) fun _ _ _ _ _ _ us hl => match us, hl with | [_, _, _], _ => rfl⟩
  have Frule_refused := fun_mk (st := s_rule_refused) lrule_refused crule_refused krule_refused
  have Drule_refused : Dfn K mg "_law_rule_refused" "_law_rule_refused" s_rule_refused ["_law_run", "_law_rule"] := ⟨frule_refused, _, Frule_refused, PySem.W.mg_of X G arule_refused, Frule_refused.binds (ps := ["_law_run", "_law_rule"]) fun _ _ _ _ _ _ us hl => match us, hl with | [_, _], _ => rfl⟩
  have Fgains := fun_mk (st := s_gains) lgains cgains kgains
  have Dgains : Dfn K mg "_law_gains" "_law_gains" s_gains ["_law_run", "_law_row", "_law_k"] := ⟨fgains, _, Fgains, PySem.W.mg_of X G agains, Fgains.binds (ps := ["_law_run", "_law_row", "_law_k"]) fun _ _ _ _ _ _ us hl => match us, hl with | [_, _, _], _ => rfl⟩
  have Fcheck_ties := fun_mk (st := s_check_ties) lcheck_ties ccheck_ties kcheck_ties
  have Dcheck_ties : Dfn K mg "check_ties" "check_ties" s_check_ties ["ties"] := ⟨fcheck_ties, _, Fcheck_ties, PySem.W.mg_of X G acheck_ties, Fcheck_ties.binds (ps := ["ties"]) fun _ _ _ _ _ _ us hl => match us, hl with | [_], _ => rfl⟩
  have Flead := fun_mk (st := s_lead) llead clead klead
  have Dlead : Dfn K mg "lead" "lead" s_lead ["run", "k", "ties"] := ⟨flead, _, Flead, PySem.W.mg_of X G alead, Flead.binds (ps := ["run", "k", "ties"]) fun _ _ _ _ _ _ us hl => match us, hl with | [_, _, _], _ => rfl⟩
  have Flaw := fun_mk (st := s_law) llaw claw klaw
  refine ⟨PySem.W.fnOf "law" "law" (defArgs s_law) (defBody s_law) (defScope s_law) .none kVlaw dclaw pmlaw anlaw cdlaw ctlaw, fun s v => .of_eq rfl, fun base _ _ => ?_⟩
  have CE : CalE l.prog w K mg base 1 BN := ⟨_, _, aBadNumber_init, tBadNumber_init, ok_bn TB FB, bB⟩
  have ⟨M2, M1⟩ := mk_ratio (P := l.prog) (w := w) (base := base) B hgcd T TZU ⟨mkC, aRatio_init, iRatio_init, kcC⟩ FI
  have MR : CalRun l.prog w K mg base D BN := ⟨_, _, [], ⟨mkD, aRun_init, iRun_init, kcD⟩, ok_run_init B TD TB CE gMS FRun_init, gRun, bRun_init, .nil⟩
  have CL : CalP l.prog w K mg base 1 D "last" (spLast D) := ⟨_, _, _, PRun_last, ok_last TD FRun_last, bRun_last⟩
  have MB : CalM l.prog w K mg base 3 D "below" ["self", "k"] (spBelow D) := ⟨_, _, mRun_below, ok_below TD CL FRun_below, bRun_below⟩
  have MA : CalM l.prog w K mg base 4 D "above" ["self", "k"] (spAbove D) := ⟨_, _, mRun_above, ok_above TD MB FRun_above, bRun_above⟩
  have cmix := ok_mix (P := l.prog) (w := w) (base := base) B Dmix
  have cdraw := ok_draw B Ddraw cmix
  have cwide := ok_wide B Dwide cdraw
  have cany := ok_any B Dany cdraw cwide
  have cpool := ok_pool (P := l.prog) (w := w) (base := base) B Dpool
  have cwhole := ok_whole (P := l.prog) (w := w) (base := base) B Dwhole
  have cties := ok_ties TB CE Dcheck_ties
  have clead := ok_lead TD MB MA Dlead
  have MG : CalMKW l.prog w K mg base 6 D "gain" ["self", "k", "ties"] (spGain C D BN) := ⟨_, _, _, mRun_gain, ok_gain TD cties clead M2 FRun_gain, rdsRun_gain, bdRun_gain, ⟨fun s us ws _ h1 h2 => match us, ws, h1, h2 with | [_, _], [_], _, _ => .of_eq rfl, fun h1 h2 => h1.append h2⟩⟩
  have cratio := ok_ratio B T Dratio cwhole
  have csame := ok_same B T Dsame cratio
  have cgr := ok_great_run B Dgreat_run cdraw cany
  have clast := ok_last_row (P := l.prog) (w := w) (base := base) Dlast
  have cbes := ok_beside B Dbeside cdraw cany clast
  have cheld := ok_held B TD Dheld cwhole
  have cup := ok_upto (P := l.prog) (w := w) (base := base) B Dupto
  have cwon := ok_won Dwon cup
  have cref := ok_ref B TD TB gLotError gNoPlace (kit_own hdLE teLE sBNLE seBN) (kit_type kmV veBN) (kit_own hdNP teNP sBNNP seBN) Drule_refused MG
  have cgs := ok_gains TD Dgains MG csame cwon
  exact ok_law B TD Flaw MR cpool cdraw cwide cgr cbes cref cgs cheld
end L

set_option Elab.async false

open PySem PySem.W PyProof.Rows
set_option maxRecDepth 100000 in
set_option maxHeartbeats 0 in
theorem PySem.Challenge.cw_fieldlots_k07_run_gain_and_ties_holds : PySem.Challenge.rw_fieldlots_k07_run_gain_and_ties.Holds := by
  w_on; o_law; k_head; (case hw => w_witness2)
  k_fill
  refine L2.walk_of (l := PySem.Challenge.rw_fieldlots_k07_run_gain_and_ties) (n := 63) (k := 8) (x := "_law_script") (CX := fun _ => L2.CX0) (sp := fun w => L.spLaw _) rfl (by decide) rfl ⟨rfl, by decide, by decide⟩ (fun w h Y => PySem.W.kIn_of Y) ?F (fun _ _ a ns hl _ hS => ⟨a, ns, rfl, hS, hl, fun _ => rfl⟩) (fun _ _ _ _ _ h => h)
  case F =>
    intro w mg fa h KX G hmg
    refine' L.all_mk KX G hmg ?zlen ?zint ?zabs ?zrange ?zisinstance ?zmax ?zmin ?zsum ?zstr ?zbool ?zlist ?zValueError ?aC ?pgC ?hdC ?poC ?saC ?mkC ?kcC ?nTC ?nUC ?haC ?hnO ?htO ?hmC ?siC ?tyC ?aRatio_init ?iRatio_init ?lRatio_init ?cRatio_init ?kRatio_init ?lD ?aGcd ?aLE ?hdLE ?teLE ?aBN ?xBN ?saBN ?keBN ?beBN ?teBN ?seBN ?geBN ?ggBN ?hdBN ?hcBN ?hoBN ?veBN ?fnBN ?fvBN ?aBadNumber_init ?tBadNumber_init ?lBadNumber_init ?cBadNumber_init ?kBadNumber_init ?sBNLE ?kmV ?aNP ?hdNP ?teNP ?sBNNP ?aZU ?xZU ?keZU ?beZU ?teZU ?seZU ?geZU ?ggZU ?hdZU ?hcZU ?hoZU ?veZU ?aD ?pgD ?hdD ?poD ?saD ?mkD ?kcD ?n1D ?n2D ?n3D ?haD ?hmD ?aMS ?aRun_init ?iRun_init ?lRun_init ?cRun_init ?kRun_init ?aRun_below ?iRun_below ?lRun_below ?cRun_below ?kRun_below ?aRun_above ?iRun_above ?lRun_above ?cRun_above ?kRun_above ?q1Run_last ?q2Run_last ?q3Run_last ?q4Run_last ?lRun_last ?cRun_last ?kRun_last ?aRun_gain ?iRun_gain ?lRun_gain ?cRun_gain ?kRun_gain ?nRun_gain ?apool ?lpool ?cpool ?kpool ?amix ?lmix ?cmix ?kmix ?adraw ?ldraw ?cdraw ?kdraw ?awide ?lwide ?cwide ?kwide ?aany ?lany ?cany ?kany ?awhole ?lwhole ?cwhole ?kwhole ?aratio ?lratio ?cratio ?kratio ?asame ?lsame ?csame ?ksame ?agreat_run ?lgreat_run ?cgreat_run ?kgreat_run ?alast ?llast ?clast ?klast ?abeside ?lbeside ?cbeside ?kbeside ?aheld ?lheld ?cheld ?kheld ?aupto ?lupto ?cupto ?kupto ?awon ?lwon ?cwon ?kwon ?arule_refused ?lrule_refused ?crule_refused ?krule_refused ?agains ?lgains ?cgains ?kgains ?acheck_ties ?lcheck_ties ?ccheck_ties ?kcheck_ties ?alead ?llead ?clead ?klead ?alaw ?llaw ?claw ?klaw
    (case zlen => k_is)
    (case zint => k_is)
    (case zabs => k_is)
    (case zrange => k_is)
    (case zisinstance => k_is)
    (case zmax => k_is)
    (case zmin => k_is)
    (case zsum => k_is)
    (case zstr => k_is)
    (case zbool => k_is)
    (case zlist => k_is)
    (case zValueError => k_is)
    (case aC => k_is)
    (case pgC => k_is)
    (case hdC => k_is)
    (case poC => k_is)
    (case saC => k_is)
    (case mkC => k_is)
    (case kcC => k_is)
    (case nTC => k_is)
    (case nUC => k_is)
    (case haC => k_is)
    (case hnO => k_is)
    (case htO => k_is)
    (case hmC => k_is)
    (case siC => k_is)
    (case tyC => k_is)
    (case aRatio_init => k_is)
    (case iRatio_init => k_is)
    (case lRatio_init => k_is)
    (case cRatio_init => k_is)
    (case kRatio_init => k_is)
    (case lD => k_is)
    (case aGcd => k_is)
    (case aLE => k_is)
    (case hdLE => k_is)
    (case teLE => k_is)
    (case aBN => k_is)
    (case xBN => k_is)
    (case saBN => k_is)
    (case keBN => k_is)
    (case beBN => k_is)
    (case teBN => k_is)
    (case seBN => k_is)
    (case geBN => k_is)
    (case ggBN => k_is)
    (case hdBN => k_is)
    (case hcBN => k_is)
    (case hoBN => k_is)
    (case veBN => k_is)
    (case fnBN => k_is)
    (case fvBN => k_is)
    (case aBadNumber_init => k_is)
    (case tBadNumber_init => k_is)
    (case lBadNumber_init => k_is)
    (case cBadNumber_init => k_is)
    (case kBadNumber_init => k_is)
    (case sBNLE => k_is)
    (case kmV => decide +kernel)
    (case aNP => k_is)
    (case hdNP => k_is)
    (case teNP => k_is)
    (case sBNNP => k_is)
    (case aZU => k_is)
    (case xZU => k_exc)
    (case keZU => k_is)
    (case beZU => k_is)
    (case teZU => k_is)
    (case seZU => k_is)
    (case geZU => k_is)
    (case ggZU => k_is)
    (case hdZU => k_is)
    (case hcZU => k_is)
    (case hoZU => k_is)
    (case veZU => k_is)
    (case aD => k_is)
    (case pgD => k_is)
    (case hdD => k_is)
    (case poD => k_is)
    (case saD => k_is)
    (case mkD => k_is)
    (case kcD => k_is)
    (case n1D => k_is)
    (case n2D => k_is)
    (case n3D => k_is)
    (case haD => k_is)
    (case hmD => k_is)
    (case aMS => k_is)
    (case aRun_init => k_is)
    (case iRun_init => k_is)
    (case lRun_init => k_is)
    (case cRun_init => k_is)
    (case kRun_init => k_is)
    (case aRun_below => k_is)
    (case iRun_below => k_is)
    (case lRun_below => k_is)
    (case cRun_below => k_is)
    (case kRun_below => k_is)
    (case aRun_above => k_is)
    (case iRun_above => k_is)
    (case lRun_above => k_is)
    (case cRun_above => k_is)
    (case kRun_above => k_is)
    (case q1Run_last => k_is)
    (case q2Run_last => k_is)
    (case q3Run_last => k_is)
    (case q4Run_last => k_is)
    (case lRun_last => k_is)
    (case cRun_last => k_is)
    (case kRun_last => k_is)
    (case aRun_gain => k_is)
    (case iRun_gain => k_is)
    (case lRun_gain => k_is)
    (case cRun_gain => k_is)
    (case kRun_gain => k_is)
    (case nRun_gain => k_is)
    (case apool => k_is)
    (case lpool => k_is)
    (case cpool => k_is)
    (case kpool => k_is)
    (case amix => k_is)
    (case lmix => k_is)
    (case cmix => k_is)
    (case kmix => k_is)
    (case adraw => k_is)
    (case ldraw => k_is)
    (case cdraw => k_is)
    (case kdraw => k_is)
    (case awide => k_is)
    (case lwide => k_is)
    (case cwide => k_is)
    (case kwide => k_is)
    (case aany => k_is)
    (case lany => k_is)
    (case cany => k_is)
    (case kany => k_is)
    (case awhole => k_is)
    (case lwhole => k_is)
    (case cwhole => k_is)
    (case kwhole => k_is)
    (case aratio => k_is)
    (case lratio => k_is)
    (case cratio => k_is)
    (case kratio => k_is)
    (case asame => k_is)
    (case lsame => k_is)
    (case csame => k_is)
    (case ksame => k_is)
    (case agreat_run => k_is)
    (case lgreat_run => k_is)
    (case cgreat_run => k_is)
    (case kgreat_run => k_is)
    (case alast => k_is)
    (case llast => k_is)
    (case clast => k_is)
    (case klast => k_is)
    (case abeside => k_is)
    (case lbeside => k_is)
    (case cbeside => k_is)
    (case kbeside => k_is)
    (case aheld => k_is)
    (case lheld => k_is)
    (case cheld => k_is)
    (case kheld => k_is)
    (case aupto => k_is)
    (case lupto => k_is)
    (case cupto => k_is)
    (case kupto => k_is)
    (case awon => k_is)
    (case lwon => k_is)
    (case cwon => k_is)
    (case kwon => k_is)
    (case arule_refused => k_is)
    (case lrule_refused => k_is)
    (case crule_refused => k_is)
    (case krule_refused => k_is)
    (case agains => k_is)
    (case lgains => k_is)
    (case cgains => k_is)
    (case kgains => k_is)
    (case acheck_ties => k_is)
    (case lcheck_ties => k_is)
    (case ccheck_ties => k_is)
    (case kcheck_ties => k_is)
    (case alead => k_is)
    (case llead => k_is)
    (case clead => k_is)
    (case klead => k_is)
    (case alaw => k_is)
    (case llaw => k_is)
    (case claw => k_is)
    (case klaw => k_is)
