import PyProof.Rows.All
import Wide.All
import OpenK.AllK
import Wide.FinOn
import PyProof.NoPylong
import HandS.ForMost
import HandS.ForExc
import HandS.Wide
import HandS.Gcd
import HandS.IsInst
import HandS.ExcIs
import HandS.Property
import HandS.Defaults
import HandS.CallSlots
import HandS.ExcInit
import HandS.ExcField
import KE.KOpsOwn
import HandS.ClsMeth
import HandS.Evl
import KE.KCallOwn
import KE.KFmtOwn
import HandS.FStr
import PyProof.Rows.Range3
import PySem.Challenge.RW_fieldlots_k04_ratio_order
set_option Elab.async false
set_option linter.all false
set_option maxRecDepth 100000
namespace Fl
open PySem PySem.Spec PyProof.Rows L2
/-! ### calls by a promise that names no address -/
structure Cal (P : Program) (w : World) (K : PySem.W.Frag) (mg : Str → Option Value) (base : Heap) (k : Nat) (x : Str) (ps : List Str) (sp : Sp) : Prop where
  ex : ∃ (f : Addr) (fd : FuncData), FnOk P w K mg base CX0 k f fd ps sp ∧ mg x = some (.ref f) ∧ PySem.W.keepIn K (.ref f) = true ∧ Binds K fd ps []
structure Dfn (K : PySem.W.Frag) (mg : Str → Option Value) (x qual : Str) (st : Stmt) (ps : List Str) : Prop where
  ex : ∃ (f : Addr) (fd : FuncData), Fun K x qual st f fd ∧ mg x = some (.ref f) ∧ Binds K fd ps []
section
variable {P : Program} {w : World} {K : PySem.W.Frag} {mg : Str → Option Value} {base : Heap}
theorem Dfn.cal {x qual : Str} {st : Stmt} {N ps : List Str} {k : Nat} {sp : Sp} (D : Dfn K mg x qual st ps) (S : FnScope N ps (defScope st)) (len : ∀ vs H Q E, sp vs H Q E → vs.length = ps.length)
    (hbody : ∀ (f : Addr) (cdv : Value) (A : Around) (outer : List Env) (s : Shared) (H : Hp) (vs : List V) (Q : VK) (E : XK), Room k (A.deeper (envOfC qual (defScope st) s.heap.objs.size f cdv)) → sp vs H Q E →
      ∃ t, PSs (cxOf CX0 P w K mg base N qual (defScope st) f cdv A outer s H E).nox (defBody st) t ∧ t { nx := fun _ H' => Q .non H', rt := Q } (start N vs) H) : Cal P w K mg base (k + 1) x ps sp := by
  obtain ⟨f, fd, F, m, b⟩ := D.ex
  exact ⟨f, fd, F.ok S len (hbody f), m, F.kp, b⟩
theorem Cal.mono {j k : Nat} {x : Str} {ps : List Str} {sp : Sp} (C : Cal P w K mg base j x ps sp) (h : j ≤ k) : Cal P w K mg base k x ps sp := by
  obtain ⟨f, fd, F, m, kp, b⟩ := C.ex
  exact ⟨f, fd, F.mono h, m, kp, b⟩
end
theorem pe_cal {X : Cx} {k : Nat} {x : Str} {ps : List Str} {sp : Sp} {p pos : Pos} {e : Expr} {es : List Expr} {t : TA} (C : Cal X.prog X.w X.K X.mg X.base k x ps sp) (hr : Room k X.A) (ha : PA X (e :: es) t) (hg : Gl X x := by rfl)
    (hdb : (x == ("__debug__" : Str)) = false := by decide) (he : starEach (e :: es) X.env = (false, eval e X.env) :: starEach es X.env := by rfl) (hpl : (backTo pos (starEach es X.env)).any (·.1) = false := by rfl) :
    PE X (.Call (.Name x p) (e :: es) [] pos) (tCall sp [] E0 t) := by
  obtain ⟨f, fd, F, m, kp, b⟩ := C.ex
  exact pe_call F hr hg m kp b .nil pass0 ha hdb he hpl
/-- the built-in names that the text leaves alone -/
structure Blt (mg : Str → Option Value) : Prop where
  len : mg "len" = none
  int : mg "int" = none
  abs : mg "abs" = none
  range : mg "range" = none
  isinstance : mg "isinstance" = none
  max : mg "max" = none
  min : mg "min" = none
  sum : mg "sum" = none
  str : mg "str" = none
  bool : mg "bool" = none
  list : mg "list" = none
  ve : mg "ValueError" = none
/-! ### great numbers -/
def CDivA (_ j : Int) : Prop := j ≠ 0 ∧ j.natAbs.log2 < 9000
theorem op_fdivA {X : Cx} : OpR X (binaryOp .FloorDiv) (rI CDivA fun i j => .int (i.fdiv j)) := opI fun i j _ _ _ _ _ hc q => floordiv_int hc.1 q (.inl (PyProof.noPylong_of_log2 hc.2))
theorem divA {i j : Int} {b : Nat} (h : j ≠ 0) (hb : j.natAbs < 2 ^ b) (h0 : 0 < b) (h9 : b ≤ 9000) : CDivA i j := ⟨h, Nat.lt_of_lt_of_le (PySem.Flt.log2_lt_of h0 hb) h9⟩
/-! ### heaps -/
/-- all that was tracked is as it was, but for p -/
def Keeps (H H' : Hp) (p : Addr) : Prop := ∀ b o, H b = some o → b ≠ p → H' b = some o
theorem Keeps.refl (H : Hp) (p : Addr) : Keeps H H p := fun _ _ h _ => h
theorem Keeps.trans {H H1 H2 : Hp} {p : Addr} (a : Keeps H H1 p) (b : Keeps H1 H2 p) : Keeps H H2 p := fun c o h n => b c o (a c o h n) n
theorem Keeps.upd {H : Hp} {p : Addr} {o : HO} : Keeps H (upd H p o) p := fun b u h n => by rw [upd_ne n]; exact h
theorem same_keeps {H H' : Hp} {p : Addr} (h : Same H H') : Keeps H H' p := fun b o e _ => h b o e
theorem same_upd {H : Hp} {p : Addr} {o : HO} (h : H p = none) : Same H (upd H p o) := fun b u e => by rw [upd_ne (ne_of_none e h)]; exact e
theorem Keeps.free {H H' : Hp} {p l : Addr} (k : Keeps H H' p) (h : H' l = none) (n : l ≠ p) : H l = none := by
  cases q : H l with
  | none => rfl
  | some o =>
    rw [k l o q n] at h
    cases h
theorem ints_at {ns : List Int} {j : Nat} (h : j < ns.length) : (ns.map V.int)[j]? = some (V.int ns[j]) := by
  rw [List.getElem?_map, List.getElem?_eq_getElem h]
  rfl
theorem int_of_map {ns : List Int} {i : Nat} {y : V} (h : (ns.map V.int)[i]? = some y) : ∃ z, ns[i]? = some z ∧ y = V.int z := by
  rw [List.getElem?_map] at h
  cases e : ns[i]? with
  | none => rw [e] at h; cases h
  | some z => rw [e] at h; exact ⟨z, rfl, (Option.some.inj h).symm⟩
/-- where the pool stands: its own list, the script's numbers -/
structure Pla where
  p : Addr
  q : Addr
instance : Coe Pla Addr := ⟨Pla.p⟩
/-- the pool: the script's numbers, how many are taken, what is left of one, a state, the draws -/
def Pool (H : Hp) (p : Pla) : Prop := ∃ (ns : List Int) (i b c d : Int), H p = some (.lst [.ref p.q, .int i, .int b, .int c, .int d]) ∧ H p.q = some (.lst (ns.map V.int)) ∧ 0 ≤ i ∧ p.q ≠ p
theorem Pool.same {H H' : Hp} {p : Pla} (h : Pool H p) (s : Same H H') : Pool H' p := by
  obtain ⟨ns, i, b, c, d, h1, h2, h3, h4⟩ := h
  exact ⟨ns, i, b, c, d, s _ _ h1, s _ _ h2, h3, h4⟩
theorem Pool.upd {H : Hp} {p : Pla} {x : Addr} {o : HO} (h : Pool H p) (hx : H x = none) : Pool (upd H x o) p := h.same (same_upd hx)
theorem Pool.store {H : Hp} {p : Pla} {x : Addr} {o : HO} (h : Pool H p) (hp : x ≠ p) (hq : x ≠ p.q) : Pool (L2.upd H x o) p := by
  obtain ⟨ns, i, b, c, d, h1, h2, h3, h4⟩ := h
  exact ⟨ns, i, b, c, d, by rw [upd_ne (Ne.symm hp)]; exact h1, by rw [upd_ne (Ne.symm hq)]; exact h2, h3, h4⟩
theorem Pool.apart {H : Hp} {p : Pla} {x : Addr} (h : Pool H p) (hx : H x = none) : x ≠ p ∧ x ≠ p.q := by
  obtain ⟨ns, i, b, c, d, h1, h2, _⟩ := h
  exact ⟨Ne.symm (ne_of_none h1 hx), Ne.symm (ne_of_none h2 hx)⟩
/-! ### tests -/
theorem ifD {p : Prop} [Decidable p] {A B : Prop} (h1 : p → A) (h2 : ¬ p → B) : if decide p = true then A else B := by
  by_cases h : p
  · rw [decide_eq_true h]; exact iteT (h1 h)
  · rw [decide_eq_false h]; exact iteF (h2 h)
theorem ifE {a b : Int} {A B : Prop} (h1 : a = b → A) (h2 : a ≠ b → B) : if decide (V.int a = V.int b) = true then A else B :=
  ifD (fun h => h1 (V.int.inj h)) fun h => h2 fun e => h (by rw [e])
theorem ifNE {a b : Int} {A B : Prop} (h1 : a ≠ b → A) (h2 : a = b → B) : if (!decide (V.int a = V.int b)) = true then A else B := by
  by_cases h : a = b
  · rw [decide_eq_true (show V.int a = V.int b by rw [h])]; exact iteF (h2 h)
  · rw [decide_eq_false (show ¬ V.int a = V.int b from fun e => h (V.int.inj e))]; exact iteT (h1 h)
theorem ifN {p : Prop} [Decidable p] {A B : Prop} (h1 : ¬ p → A) (h2 : p → B) : if (!decide p) = true then A else B := by
  by_cases h : p
  · rw [decide_eq_true h]; exact iteF (h2 h)
  · rw [decide_eq_false h]; exact iteT (h1 h)
theorem ifB {c : Bool} {A B : Prop} (h1 : c = true → A) (h2 : c = false → B) : if c = true then A else B := by
  cases c
  · exact iteF (h2 rfl)
  · exact iteT (h1 rfl)
theorem fm (a : Int) {b : Int} (h : 0 < b) : 0 ≤ a.fmod b ∧ a.fmod b < b := ⟨Int.fmod_nonneg_of_pos a h, Int.fmod_lt_of_pos a h⟩
/-! ### Euclid's steps -/
def fibp : Nat → Nat × Nat
  | 0 => (0, 1)
  | n + 1 => match fibp n with | (a, b) => (b, a + b)
def Eu : Nat → Nat → Nat → Prop
  | 0, _, y => y = 0
  | n + 1, x, y => y = 0 ∨ Eu n y (x % y)
theorem eu_mono : ∀ {n x y : Nat}, Eu n x y → Eu (n + 1) x y
  | 0, _, _, h => .inl h
  | _ + 1, _, _, .inl h => .inl h
  | n + 1, _, _, .inr h => .inr (eu_mono (n := n) h)
theorem fibp_step (n : Nat) : (fibp (n + 1)).1 = (fibp n).2 ∧ (fibp (n + 1)).2 = (fibp n).1 + (fibp n).2 := by
  show (match fibp n with | (a, b) => (b, a + b)).1 = _ ∧ (match fibp n with | (a, b) => (b, a + b)).2 = _
  cases fibp n
  exact ⟨rfl, rfl⟩
theorem eu_fib : ∀ (n x y : Nat), (y < (fibp n).2 → Eu n x y) ∧ (y < (fibp (n + 1)).2 → Eu (n + 1) x y) := by
  intro n
  induction n with
  | zero =>
    intro x y
    refine ⟨fun h => ?_, fun h => .inl ?_⟩
    · have h' : y < 1 := h
      show y = 0
      omega
    · have h' : y < 1 := h
      omega
  | succ n ih =>
    intro x y
    refine ⟨(ih x y).2, fun h => ?_⟩
    rw [(fibp_step (n + 1)).2, (fibp_step n).1] at h
    by_cases hy : y = 0
    · exact .inl hy
    refine .inr ?_
    have hr : x % y < y := Nat.mod_lt _ (by omega)
    by_cases hc : x % y < (fibp (n + 1)).2
    · exact (ih y (x % y)).2 hc
    · by_cases h0 : x % y = 0
      · exact .inl h0
      refine .inr ?_
      refine (ih (x % y) (y % (x % y))).1 ?_
      have e : y % (x % y) ≤ y - x % y := by
        rw [Nat.mod_eq_sub_mod (Nat.le_of_lt hr)]
        exact Nat.mod_le _ _
      omega
theorem fib_big : 10 ^ 124 ≤ (fibp 599).2 := by decide +kernel
theorem eu_all {x y : Nat} (h : y < 10 ^ 124) : Eu 599 x y := (eu_fib 599 x y).1 (Nat.lt_of_lt_of_le h fib_big)
end Fl

set_option Elab.async false
set_option linter.all false
set_option maxRecDepth 100000
set_option maxHeartbeats 4000000
namespace Fl
section
open PySem PySem.W PySem.Spec PySem.Calls PyProof.Rows
variable {prog : Program} {w : World} {A : Around} {E : Value → Shared → Prop} {s : Shared} {K : Frag} {x D : Addr} {ox : Obj} {od : Option Obj}
theorem findObj_dataE {C : Addr} {name : Str} {a g : Value} (hc : (clsIn K C).isSome = true) (ha : findIn K (.ref C) name = some (some a)) (hg : specialIn K a "__get__" = some (some g)) (ht : takesIn K a = some true) : findObj K C od name = some (.bind g a) := by
  obtain ⟨cd, hc⟩ := Option.isSome_iff_exists.mp hc
  unfold findObj
  rw [hc, Option.bind_some, ha, Option.bind_some]
  simp [hg, ht]
/-- __class__ of an exception of an own class, with or without a dict of its own -/
theorem kin_classX {Q : Option Value → Shared → Prop} (gAt : findIn K (.ref D) "__getattribute__" = some (some (.builtin "BaseException.__getattribute__"))) (gGt : findIn K (.ref D) "__getattr__" = some none) (sBe : subIn K (.ref D) (.type "BaseException") = some true)
    (dDc : hasDictIn K D = true) (ha : findIn K (.ref D) "__class__" = some (some (.builtin "object.__class__")))
    (hn : specialIn K (.builtin "object.__class__") "__get__" = some (some (.builtin "getset_descriptor.__get__"))) (tTk : takesIn K (.builtin "object.__class__") = some true) (hm : mroIn K D (.type "object") = some true)
    (X : K.In s.heap) (I : InstAt s.heap x ox D od) (h : Q (some (.ref D)) { s with toks := s.toks + 1 }) : wpAny (model prog w) A (getAttr? (.ref x) "__class__") Q E s := by
  have fnd : findObj K D od "__class__" = some (.bind (.builtin "getset_descriptor.__get__") (.builtin "object.__class__")) := findObj_dataE (by obtain ⟨cd, hc, _⟩ := any_some dDc; rw [hc]; rfl) ha hn tTk
  obtain ⟨heap0, g, d, t, os⟩ := s
  have lkT := I.type (M := model prog w)
  have lkG := looks_findIn (M := model prog w) X gAt
  have lkA := looks_findIn (M := model prog w) X gGt
  have lkF := looks_find (M := model prog w) X I fnd
  have isBe : Looks (model prog w) heap0 (isInstance (.ref x) (.type "BaseException")) true := lkT.andThen (looks_subIn X sBe)
  have nb0 : (false && onTheHeap (Value.builtin "BaseException.__getattribute__")) = false := rfl
  have nb2 : (Value.builtin "BaseException.__getattribute__" == Value.builtin "object.__getattribute__") = false := by decide +kernel
  have nb1 : (onTheHeap (Value.ref D) && Value.builtin "BaseException.__getattribute__" == Value.builtin "object.__getattribute__") = false := by rw [nb2]; rfl
  unfold getAttr? getAttrBy? getAttrBy
  refine wpAny_bind (wpAny_mkText (wpAny_bind (wpAny_attempt (wpAny_holding (wpAny_bind (lkT.at (wpAny_bind (lkG.at ?_))))))))
  show wpAny _ _ (if (onTheHeap (Value.ref D) && Value.builtin "BaseException.__getattribute__" == Value.builtin "object.__getattribute__") = true then _ else _) _ _ _
  rw [nb1, if_neg Bool.false_ne_true]
  unfold getAttrByItsOwn hookBefore
  refine wpAny_bind ?_
  rw [if_pos (show onTheHeap (Value.ref D) = true from rfl)]
  refine lkA.at ?_
  refine wpAny_bind (wpAny_attempt (wpAny_holding ?_))
  unfold callGetattribute
  rw [nb0, if_neg Bool.false_ne_true]
  unfold boundAndCalled
  rw [PySem.F.excAttr_ValueError.ga.bind (.ref x)]
  refine wpAny_bind (wpAny_pure ?_)
  show wpAny _ _ (call (.builtin "BaseException.__getattribute__") [.ref x, .str "__class__" t]) _ _ _
  refine wpAny_call (codeAny_call_builtin PySem.F.excAttr_ValueError.ga.plain PySem.F.entry_bexc_ga ?_)
  refine @check_slot (model prog w) _ _ ⟨heap0, g, d, t + 1, os⟩ "BaseException.__getattribute__" "BaseException" "__getattribute__" (.ref x) [.str "__class__" t] [] _ (by decide +kernel) (by decide +kernel) isBe (PySem.F.args_bexc_ga (.ref x) (.str "__class__" t)) ?_
  unfold Builtin.«object.__getattribute__»
  refine wpAny_bind (wpAny_of_eq (a := ((Value.ref x : Value), [Value.str "__class__" t])) (by first | rfl | (simp only [slotArgs]; rfl)) ?_)
  refine wpAny_bind (wpAny_pure (wpAny_bind (lkT.at (wpAny_bind (lkF.at ?_)))))
  show wpAny _ _ (holding [Value.builtin "object.__class__"] (call (.builtin "getset_descriptor.__get__") [.builtin "object.__class__", .ref x, .ref D]) >>= ret) _ _ _
  refine wpAny_bind (wpAny_holding (wpAny_call (class_get (s := ⟨heap0, g, d, t + 1, os⟩) (ox := ox) (od := od) X I hm ?_)))
  refine wpAny_pure ?_
  show wpAny _ _ (handedOut (.ref D)) _ _ _
  rw [handedOut_of (v := .ref D) rfl]
  first
    | exact wpAny_pure (wpAny_pure h)
    | exact wpAny_pure h
    | exact wpAny_pure (wpAny_bind (wpAny_pure (wpAny_pure h)))
theorem kitx_excX (gAt : findIn K (.ref D) "__getattribute__" = some (some (.builtin "BaseException.__getattribute__"))) (gGt : findIn K (.ref D) "__getattr__" = some none) (sBe : subIn K (.ref D) (.type "BaseException") = some true) (dDc : hasDictIn K D = true) (ha : findIn K (.ref D) "__class__" = some (some (.builtin "object.__class__")))
    (hn : specialIn K (.builtin "object.__class__") "__get__" = some (some (.builtin "getset_descriptor.__get__"))) (tTk : takesIn K (.builtin "object.__class__") = some true) (hm : mroIn K D (.type "object") = some true) :
    KitX K (.ref x) (.ref D) (fun h => InstAt h x ox D od) where
  ty := fun _ _ _ I => I.type
  it := fun _ _ X _ => by
    obtain ⟨cdE, hcE, _⟩ := any_some dDc
    unfold clsIn at hcE
    split at hcE
    · rename_i c' d' cd' sl' ho
      intro A' Q' E' s' k q
      unfold isType loadHead
      exact wpAny_bind (wpAny_loadPart (k _ _ (X _ _ ho)) (wpAny_pure q))
    · cases hcE
  ne := fun h tp dd its n sl X htp => by
    obtain ⟨cdE, hcE, _⟩ := any_some dDc
    refine Bool.eq_false_iff.mpr fun q => ?_
    have e : D = tp := Value.ref.inj (beq_iff_eq.mp q)
    subst e
    unfold clsIn at hcE
    split at hcE
    · rename_i c' d' cd' sl' ho
      have z := (X _ _ ho).symm.trans htp
      cases z
    · cases hcE
  ca := fun X I k => kin_classX gAt gGt sBe dDc ha hn tTk hm X I k
end
section
open PySem PySem.Spec PyProof.Rows L2
/-- the caught error at a: of the class D, its dict d -/
def Err (H : Hp) (d : Option Addr) : Prop := d = none ∨ ∃ dd fs, d = some dd ∧ H dd = some (.xd fs)
theorem exc_inst {X : Cx} {a D : Addr} {oe : Obj} {pn pins : List (Addr × Obj)} {d : Option Addr} {σ : L2.St} {H : Hp} {s : Shared} (hz : Zc (.ref D) d oe) (hf : ∃ vs, oe.data = .fields vs) (I : Inv (X.suite a ((a, oe) :: pn)) pins σ H s) (he : Err H d) :
    ∃ od, PySem.W.InstAt s.heap a oe D od := by
  obtain ⟨hget, _⟩ := I.pin (a, oe) (List.mem_append.mpr (.inl List.mem_cons_self))
  obtain ⟨vs, hv⟩ := hf
  obtain ⟨oc, oda, odt, osl⟩ := oe
  obtain ⟨h1, h2⟩ := hz
  dsimp only at h1 h2 hv
  subst h1 h2 hv
  rcases he with rfl | ⟨dd, fs, rfl, hd⟩
  · exact ⟨none, hget, rfl, rfl, trivial⟩
  · have hx : ObjOk X.prog X.w H s.heap dd (.xd fs) := I.hok dd _ hd
    obtain ⟨mA, hns, hr⟩ := hx
    obtain ⟨od, ho, hl⟩ := lookIn_ns hns
    exact ⟨some od, hget, rfl, rfl, ho⟩
def rIsX (K : PySem.W.Frag) (D a : Addr) (cls : Value) (d : Option Addr) : List V → Hp → VK → Prop := fun xs H Q => cls = .ref D ∧ Err H d ∧ ∃ (c : V) (cv : Value) (b : Bool), xs = [.ref a, c] ∧ ClsV c cv ∧ PySem.W.kitOne K (.ref D) cv = some b ∧ Q (.bl b) H
def rIsXT (K : PySem.W.Frag) (D a : Addr) (cls : Value) (d : Option Addr) : List V → Hp → VK → Prop := fun xs H Q => cls = .ref D ∧ Err H d ∧ ∃ (tp : Addr) (cs : List V) (us : List Value) (b : Bool), xs = [.ref a, .ref tp] ∧ H tp = some (.tup cs) ∧ Paired ClsV cs us ∧ PySem.W.kitAny K (.ref D) us = some b ∧ Q (.bl b) H
theorem call_isX {X : Cx} {a D : Addr} {cls : Value} {d : Option Addr} {oe : Obj} {pn : List (Addr × Obj)} (C : ExcC X.K D) (hz : Zc cls d oe) (hf : ∃ vs, oe.data = .fields vs) : CallR (X.suite a ((a, oe) :: pn)) (.builtin "isinstance") (rIsX X.K D a cls d) := by
  intro pins s σ H xs us Q I r h
  obtain ⟨rfl, he, c, cv, b, rfl, hcv, e, q⟩ := h
  obtain ⟨od, J⟩ := exc_inst hz hf I he
  obtain ⟨u1, u2, rfl, r1, r2⟩ := vals2 r
  have ec := hcv.eq r2
  subst ec
  cases (show u1 = Value.ref a from r1)
  exact PySem.W.kia_one (kitx_excX C.hg C.hk C.hs C.hd C.ha C.hn C.ht C.hm) I.kIn J e (fun z => nomatch z) fun tk => ⟨.bl b, H, I.kept (t' := tk) fun _ _ z => z, rfl, q⟩
theorem call_isXT {X : Cx} {a D : Addr} {cls : Value} {d : Option Addr} {oe : Obj} {pn : List (Addr × Obj)} (C : ExcC X.K D) (hz : Zc cls d oe) (hf : ∃ vs, oe.data = .fields vs) : CallR (X.suite a ((a, oe) :: pn)) (.builtin "isinstance") (rIsXT X.K D a cls d) := by
  intro pins s σ H xs us Q I r h
  obtain ⟨rfl, he, tp, cs, ws, b, rfl, hT, k, e, q⟩ := h
  obtain ⟨od, J⟩ := exc_inst hz hf I he
  obtain ⟨u1, u2, rfl, r1, r2⟩ := vals2 r
  cases (show u1 = Value.ref a from r1)
  cases (show u2 = Value.ref tp from r2)
  obtain ⟨_, its, rv, o, h1, h2, n, h3⟩ := (show ObjOk X.prog X.w H s.heap tp (.tup cs) from I.hok tp _ hT)
  have e3 := ClsV.all k rv
  subst e3
  obtain ⟨oc, od', dt, sl⟩ := o
  simp only at h2 h3
  subst h2 h3
  exact PySem.W.kia_tup (kitx_excX C.hg C.hk C.hs C.hd C.ha C.hn C.ht C.hm) I.kIn J h1 e (fun z => nomatch z) fun tk => ⟨.bl b, H, I.kept (t' := tk) fun _ _ z => z, rfl, q⟩
/-! ### making an instance where what is raised is wished for at the caller's slots -/
def tMakeS (C : Addr) (sp : Sp) (dvs : List V) (E : L2.St → XK) (t : TA) : TE := fun σ H Q => t σ H fun vs H1 => ∀ x dx, H1 x = none → H1 dx = none → dx ≠ x →
  sp (.ref x :: (vs ++ dvs)) (upd (upd H1 dx (.own x)) x (.ins C dx [])) (fun v H2 => v = .non ∧ Q (.ref x) H2) (E σ)
section
variable {X : Cx} {CX : CXT} {k : Nat} {f C : Addr} {fd : FuncData} {ps : List Str} {sp : Sp} {dvs : List V} {ds : List Value} {E : L2.St → XK} {x m : Str} {p pos apos : Pos} {e o : Expr} {es : List Expr} {ta : TE} {t : TA}
theorem run_makeS {pins : List (Addr × Obj)} {σ : L2.St} {H : Hp} {s : Shared} {Q : VK} {us : List Value} {vs : List V} (M : Mk X.K C f) (F : FnOk X.prog X.w X.K X.mg X.base CX k f fd ps sp) (hr : Room (k + 1) X.A) (hb : Binds X.K fd ps ds) (hd : Vals dvs ds)
    (hx : PassesAt CX X σ (E σ)) (I : Inv X pins σ H s) (r : Vals vs us)
    (h : ∀ x dx, H x = none → H dx = none → dx ≠ x → sp (.ref x :: (vs ++ dvs)) (upd (upd H dx (.own x)) x (.ins C dx [])) (fun v H2 => v = .non ∧ Q (.ref x) H2) (E σ)) :
    wpAny (model X.prog X.w) X.A (call (.ref C) us) (EP X pins σ Q) X.xe s := by
  have hnew := h (s.heap.objs.size + 1) s.heap.objs.size (I.hok.fresh (Nat.le_succ _)) (I.hok.fresh (Nat.le_refl _)) (Nat.ne_of_lt (Nat.lt_succ_self _))
  have Inew := Inv.made (C := C) I
  have rAll : Vals (V.ref (s.heap.objs.size + 1) :: (vs ++ dvs)) (Value.ref (s.heap.objs.size + 1) :: (us ++ ds)) := .cons rfl (r.append hd)
  have hlen : (Value.ref (s.heap.objs.size + 1) :: us ++ ds).length = ps.length := by
    have e := rAll.length
    rw [F.len _ _ _ _ hnew] at e
    exact e.symm
  refine wpAny_call (make_map (f := f) I.kIn M.makes M.init (beq_iff_eq.mp M.fn) (codeAny_mono (F.run _ X.stack _ _ ⟨Value.ref (s.heap.objs.size + 1) :: us, []⟩ (Value.ref (s.heap.objs.size + 1) :: (us ++ ds)) _ _ (E σ) (hr.make C us [])
    (Inew.env0.make C us []) (hb _ (Value.ref (s.heap.objs.size + 1) :: us) Inew.kIn hlen) rAll hnew) fun r s' hend => ?_))
  cases r with
  | error e => exact hx pins _ _ e s' Inew hend
  | ok fl =>
    cases fl with
    | ret u =>
      obtain ⟨v, H', Iend, rVal, ev, qEnd⟩ := Inew.after hend
      subst ev
      exact ⟨rVal, ⟨V.ref (s.heap.objs.size + 1), H', Iend, rfl, qEnd⟩⟩
    | next => exact False.elim hend
    | brk => exact False.elim hend
    | cont => exact False.elim hend
theorem pe_makeS (M : Mk X.K C f) (F : FnOk X.prog X.w X.K X.mg X.base CX k f fd ps sp) (hr : Room (k + 1) X.A) (hg : Gl X x) (hm : X.mg x = some (.ref C)) (hb : Binds X.K fd ps ds) (hd : Vals dvs ds) (hx : ∀ σ, PassesAt CX X σ (E σ))
    (ha : PA X (e :: es) t) (hdb : (x == ("__debug__" : Str)) = false := by decide) (he : starEach (e :: es) X.env = (false, eval e X.env) :: starEach es X.env := by rfl) (hpl : (backTo pos (starEach es X.env)).any (·.1) = false := by rfl) :
    PE X (.Call (.Name x p) (e :: es) [] pos) (tMakeS C sp dvs E t) := by
  refine ⟨fun pins s σ H Q I h => ?_⟩
  refine wpAny_Call_Name_kw (ld_glob I hg hm ?_ hdb)
  refine PySem.W.callWith_K (h₀ := X.base) I.ok.mod.kin M.kp (thn (ha.run pos pins s σ H _ I h) fun us s1 ⟨vs, H1, I1, r, q⟩ => ⟨I1.kIn, ?_⟩) he hpl
  exact run_makeS M F hr hb hd (hx σ) I1 r q
end
/-- a class that is called: C(..), the promise of its __init__; dvs the defaults that fill up -/
structure CalC (P : Program) (w : World) (K : PySem.W.Frag) (mg : Str → Option Value) (base : Heap) (CX : CXT) (k : Nat) (C : Addr) (x : Str) (ps : List Str) (dvs : List V) (sp : Sp) : Prop where
  ex : ∃ (f : Addr) (fd : FuncData) (ds : List Value), Mk K C f ∧ FnOk P w K mg base CX k f fd ps sp ∧ mg x = some (.ref C) ∧ Binds K fd ps ds ∧ Vals dvs ds
theorem pe_mk {X : Cx} {k : Nat} {C : Addr} {x : Str} {ps : List Str} {dvs : List V} {sp : Sp} {p pos : Pos} {e : Expr} {es : List Expr} {t : TA} (M : CalC X.prog X.w X.K X.mg X.base (L2.CX X.prog X.w) k C x ps dvs sp) (hr : Room (k + 1) X.A) (ha : PA X (e :: es) t) (hg : Gl X x := by rfl)
    (hdb : (x == ("__debug__" : Str)) = false := by decide) (he : starEach (e :: es) X.env = (false, eval e X.env) :: starEach es X.env := by rfl) (hpl : (backTo pos (starEach es X.env)).any (·.1) = false := by rfl) :
    PE X (.Call (.Name x p) (e :: es) [] pos) (tMake C sp dvs E0 t) := by
  obtain ⟨f, fd, ds, M, F, m, b, d⟩ := M.ex
  exact pe_make M F hr hg m b d passL ha hdb he hpl
theorem pe_mkS {X : Cx} {W : WX} {k : Nat} {C : Addr} {x : Str} {ps : List Str} {dvs : List V} {sp : Sp} {p pos : Pos} {e : Expr} {es : List Expr} {t : TA} (M : CalC X.prog X.w X.K X.mg X.base (L2.CX X.prog X.w) k C x ps dvs sp) (tk : Takes X W) (hr : Room (k + 1) X.A) (ha : PA X (e :: es) t) (hg : Gl X x := by rfl)
    (hdb : (x == ("__debug__" : Str)) = false := by decide) (he : starEach (e :: es) X.env = (false, eval e X.env) :: starEach es X.env := by rfl) (hpl : (backTo pos (starEach es X.env)).any (·.1) = false := by rfl) :
    PE X (.Call (.Name x p) (e :: es) [] pos) (tMakeS C sp dvs (WE W) t) := by
  obtain ⟨f, fd, ds, M, F, m, b, d⟩ := M.ex
  exact pe_makeS M F hr hg m b d (fun σ => passAt tk σ) ha hdb he hpl
/-! ### a def that may raise -/
structure CalX (P : Program) (w : World) (K : PySem.W.Frag) (mg : Str → Option Value) (base : Heap) (k : Nat) (x : Str) (ps : List Str) (sp : Sp) : Prop where
  ex : ∃ (f : Addr) (fd : FuncData), FnOk P w K mg base (L2.CX P w) k f fd ps sp ∧ mg x = some (.ref f) ∧ PySem.W.keepIn K (.ref f) = true ∧ Binds K fd ps []
theorem Dfn.calX {P : Program} {w : World} {K : PySem.W.Frag} {mg : Str → Option Value} {base : Heap} {x qual : Str} {st : Stmt} {N ps : List Str} {k : Nat} {sp : Sp} (D : Dfn K mg x qual st ps) (S : FnScope N ps (defScope st)) (len : ∀ vs H Q E, sp vs H Q E → vs.length = ps.length)
    (hbody : ∀ (f : Addr) (cdv : Value) (A : Around) (outer : List Env) (s : Shared) (H : Hp) (vs : List V) (Q : VK) (E : XK), Room k (A.deeper (envOfC qual (defScope st) s.heap.objs.size f cdv)) → sp vs H Q E →
      ∃ t, PSs (cxOf (L2.CX P w) P w K mg base N qual (defScope st) f cdv A outer s H E) (defBody st) t ∧ t { nx := fun _ H' => Q .non H', rt := Q } (start N vs) H) : CalX P w K mg base (k + 1) x ps sp := by
  obtain ⟨f, fd, F, m, b⟩ := D.ex
  exact ⟨f, fd, F.okX S len (hbody f), m, F.kp, b⟩
theorem pe_calX {X : Cx} {k : Nat} {x : Str} {ps : List Str} {sp : Sp} {p pos : Pos} {e : Expr} {es : List Expr} {t : TA} (C : CalX X.prog X.w X.K X.mg X.base k x ps sp) (hr : Room k X.A) (ha : PA X (e :: es) t) (hg : Gl X x := by rfl)
    (hdb : (x == ("__debug__" : Str)) = false := by decide) (he : starEach (e :: es) X.env = (false, eval e X.env) :: starEach es X.env := by rfl) (hpl : (backTo pos (starEach es X.env)).any (·.1) = false := by rfl) :
    PE X (.Call (.Name x p) (e :: es) [] pos) (tCall sp [] E0 t) := by
  obtain ⟨f, fd, F, m, kp, b⟩ := C.ex
  exact pe_call F hr hg m kp b .nil passL ha hdb he hpl
theorem pe_calS {X : Cx} {W : WX} {k : Nat} {x : Str} {ps : List Str} {sp : Sp} {p pos : Pos} {e : Expr} {es : List Expr} {t : TA} (C : CalX X.prog X.w X.K X.mg X.base k x ps sp) (tk : Takes X W) (hr : Room k X.A) (ha : PA X (e :: es) t) (hg : Gl X x := by rfl)
    (hdb : (x == ("__debug__" : Str)) = false := by decide) (he : starEach (e :: es) X.env = (false, eval e X.env) :: starEach es X.env := by rfl) (hpl : (backTo pos (starEach es X.env)).any (·.1) = false := by rfl) :
    PE X (.Call (.Name x p) (e :: es) [] pos) (tCallS sp (WE W) t) := by
  obtain ⟨f, fd, F, m, kp, b⟩ := C.ex
  exact pe_callS F hr hg m kp b (fun σ => passAt tk σ) ha hdb he hpl
theorem exm_self {K : PySem.W.Frag} {S : Addr} (h1 : PySem.W.subIn K (.ref S) (.type "BaseException") = some true) (h2 : PySem.W.hasDictIn K S = true) (h3 : PySem.W.typeIn K (.ref S) = some (.type "type")) (h4 : PySem.W.subIn K (.ref S) (.ref S) = some true) :
    PySem.W.exmOne K (.ref S) (.ref S) = some true := PySem.W.exm_ref h1 h2 h3 h4
end
end Fl

set_option Elab.async false
set_option linter.all false
set_option maxRecDepth 100000
set_option maxHeartbeats 4000000
namespace Fl
open PySem PySem.Spec PyProof.Rows L2
/-! ### lowest terms -/
def sh (t u : Int) : Int := if u < 0 then -(Nat.gcd t.natAbs u.natAbs : Nat) else (Nat.gcd t.natAbs u.natAbs : Nat)
def nT (t u : Int) : Int := t.fdiv (sh t u)
def nU (t u : Int) : Int := u.fdiv (sh t u)
theorem sh_abs (t u : Int) : (sh t u).natAbs = Nat.gcd t.natAbs u.natAbs := by
  unfold sh
  split <;> omega
theorem sh_ne {t u : Int} (h : u ≠ 0) : sh t u ≠ 0 := by
  have h1 : 0 < Nat.gcd t.natAbs u.natAbs := Nat.gcd_pos_of_pos_right _ (by omega)
  have := sh_abs t u
  omega
theorem sh_dvd_t (t u : Int) : sh t u ∣ t := Int.natAbs_dvd_natAbs.mp (by rw [sh_abs]; exact Nat.gcd_dvd_left _ _)
theorem sh_dvd_u (t u : Int) : sh t u ∣ u := Int.natAbs_dvd_natAbs.mp (by rw [sh_abs]; exact Nat.gcd_dvd_right _ _)
theorem nT_mul (t u : Int) : nT t u * sh t u = t := by
  unfold nT
  exact Int.fdiv_mul_cancel (sh_dvd_t t u)
theorem nU_mul (t u : Int) : nU t u * sh t u = u := by
  unfold nU
  exact Int.fdiv_mul_cancel (sh_dvd_u t u)
theorem nU_pos {t u : Int} (h : u ≠ 0) : 0 < nU t u := by
  have h1 : 0 < Nat.gcd t.natAbs u.natAbs := Nat.gcd_pos_of_pos_right _ (by omega)
  have e := nU_mul t u
  by_cases hn : u < 0
  · have hs : sh t u < 0 := by
      unfold sh
      rw [if_pos hn]
      omega
    rcases Int.lt_trichotomy (nU t u) 0 with hc | hc | hc
    · have := Int.mul_pos_of_neg_of_neg hc hs
      omega
    · rw [hc] at e
      omega
    · exact hc
  · have hs : 0 < sh t u := by
      unfold sh
      rw [if_neg hn]
      omega
    rcases Int.lt_trichotomy (nU t u) 0 with hc | hc | hc
    · have := Int.mul_neg_of_neg_of_pos hc hs
      omega
    · rw [hc] at e
      omega
    · exact hc
theorem n_cross (t u : Int) : nT t u * u = t * nU t u := by
  have e1 := nT_mul t u
  have e2 := nU_mul t u
  calc nT t u * u = nT t u * (nU t u * sh t u) := by rw [e2]
    _ = nT t u * sh t u * nU t u := by rw [Int.mul_comm (nU t u), Int.mul_assoc]
    _ = t * nU t u := by rw [e1]
theorem n_gcd {t u : Int} (h : u ≠ 0) : Nat.gcd (nT t u).natAbs (nU t u).natAbs = 1 := by
  have h1 : 0 < Nat.gcd t.natAbs u.natAbs := Nat.gcd_pos_of_pos_right _ (by omega)
  have e1 : (nT t u).natAbs * Nat.gcd t.natAbs u.natAbs = t.natAbs := by rw [← sh_abs, ← Int.natAbs_mul, nT_mul]
  have e2 : (nU t u).natAbs * Nat.gcd t.natAbs u.natAbs = u.natAbs := by rw [← sh_abs, ← Int.natAbs_mul, nU_mul]
  have e3 : Nat.gcd ((nT t u).natAbs * Nat.gcd t.natAbs u.natAbs) ((nU t u).natAbs * Nat.gcd t.natAbs u.natAbs) = Nat.gcd t.natAbs u.natAbs := by
    rw [e1, e2]
  rw [Nat.gcd_mul_right] at e3
  exact Nat.eq_of_mul_eq_mul_right h1 (by rw [e3, Nat.one_mul])
theorem nU_le {t u : Int} (h : u ≠ 0) : (nU t u).natAbs ≤ u.natAbs := by
  have h1 : 0 < Nat.gcd t.natAbs u.natAbs := Nat.gcd_pos_of_pos_right _ (by omega)
  have e2 : (nU t u).natAbs * Nat.gcd t.natAbs u.natAbs = u.natAbs := by rw [← sh_abs, ← Int.natAbs_mul, nU_mul]
  rw [← e2]
  exact Nat.le_mul_of_pos_right _ h1
theorem nT_le {t u : Int} (h : u ≠ 0) : (nT t u).natAbs ≤ t.natAbs := by
  have h1 : 0 < Nat.gcd t.natAbs u.natAbs := Nat.gcd_pos_of_pos_right _ (by omega)
  have e2 : (nT t u).natAbs * Nat.gcd t.natAbs u.natAbs = t.natAbs := by rw [← sh_abs, ← Int.natAbs_mul, nT_mul]
  rw [← e2]
  exact Nat.le_mul_of_pos_right _ h1
/-- a fraction has one form in lowest terms -/
theorem low_one {a b c d : Int} (hb : 0 < b) (hd : 0 < d) (g1 : Nat.gcd a.natAbs b.natAbs = 1) (g2 : Nat.gcd c.natAbs d.natAbs = 1) (e : a * d = c * b) : a = c ∧ b = d := by
  have en : a.natAbs * d.natAbs = c.natAbs * b.natAbs := by rw [← Int.natAbs_mul, ← Int.natAbs_mul, e]
  have d1 : b.natAbs ∣ d.natAbs := (Nat.Coprime.dvd_of_dvd_mul_left (k := b.natAbs) (m := a.natAbs) (n := d.natAbs) (by rw [Nat.Coprime, Nat.gcd_comm]; exact g1) (by rw [en]; exact Nat.dvd_mul_left _ _))
  have d2 : d.natAbs ∣ b.natAbs := (Nat.Coprime.dvd_of_dvd_mul_left (k := d.natAbs) (m := c.natAbs) (n := b.natAbs) (by rw [Nat.Coprime, Nat.gcd_comm]; exact g2) (by rw [← en]; exact Nat.dvd_mul_left _ _))
  have e3 : b.natAbs = d.natAbs := Nat.dvd_antisymm d1 d2
  have e4 : b = d := by omega
  subst e4
  exact ⟨Int.eq_of_mul_eq_mul_right (by omega) e, rfl⟩
theorem n_uniq {a b t u : Int} (hu : u ≠ 0) (hb : 0 < b) (g : Nat.gcd a.natAbs b.natAbs = 1) (e : a * u = t * b) : a = nT t u ∧ b = nU t u := by
  refine low_one hb (nU_pos hu) g (n_gcd hu) ?_
  have e1 := n_cross t u
  refine Int.eq_of_mul_eq_mul_right hu ?_
  calc a * nU t u * u = a * u * nU t u := by rw [Int.mul_assoc, Int.mul_comm (nU t u), ← Int.mul_assoc]
    _ = t * b * nU t u := by rw [e]
    _ = t * nU t u * b := by rw [Int.mul_assoc, Int.mul_comm b, ← Int.mul_assoc]
    _ = nT t u * u * b := by rw [e1]
    _ = nT t u * b * u := by rw [Int.mul_assoc, Int.mul_comm u, ← Int.mul_assoc]
theorem n_self {a b : Int} (hb : 0 < b) (g : Nat.gcd a.natAbs b.natAbs = 1) : nT a b = a ∧ nU a b = b := by
  obtain ⟨h1, h2⟩ := n_uniq (a := a) (b := b) (t := a) (u := b) (by omega) hb g rfl
  exact ⟨h1.symm, h2.symm⟩
theorem n_one (t : Int) : nT t 1 = t ∧ nU t 1 = 1 := n_self (by decide) (by simp)
theorem n_scale {t u f : Int} (hu : u ≠ 0) (hf : f ≠ 0) : nT (t * f) (u * f) = nT t u ∧ nU (t * f) (u * f) = nU t u := by
  have hne : u * f ≠ 0 := Int.mul_ne_zero hu hf
  obtain ⟨h1, h2⟩ := n_uniq (a := nT t u) (b := nU t u) (t := t * f) (u := u * f) hne (nU_pos hu) (n_gcd hu) (by
    have e1 := n_cross t u
    calc nT t u * (u * f) = nT t u * u * f := by rw [Int.mul_assoc]
      _ = t * nU t u * f := by rw [e1]
      _ = t * f * nU t u := by rw [Int.mul_assoc, Int.mul_comm (nU t u), ← Int.mul_assoc])
  exact ⟨h1.symm, h2.symm⟩
/-! ### instances of Ratio -/
def rf (t u : Int) : List (Str × V) := putF "under" (.int u) (putF "top" (.int t) [])
theorem tu : ¬ (("top" : Str) = "under") := by decide +kernel
theorem ut : ¬ (("under" : Str) = "top") := by decide +kernel
theorem rf_top (t u : Int) : (rf t u).lookup ("top" : Str) = some (.int t) := by
  unfold rf
  rw [lookup_putF, if_neg tu, lookup_putF, if_pos rfl]
theorem rf_under (t u : Int) : (rf t u).lookup ("under" : Str) = some (.int u) := by
  unfold rf
  rw [lookup_putF, if_pos rfl]
theorem rf_no (t u : Int) {m : Str} (h1 : ¬ m = "under") (h2 : ¬ m = "top") : (rf t u).lookup m = none := by
  unfold rf
  rw [lookup_putF, if_neg h1, lookup_putF, if_neg h2]
  rfl
/-- a Ratio t / u stands at x -/
def RatAt (C : Addr) (H : Hp) (x : Addr) (t u : Int) : Prop := ∃ dx, H x = some (.ins C dx (rf t u))
theorem RatAt.keep {C p : Addr} {H H' : Hp} {x : Addr} {t u : Int} (h : RatAt C H x t u) (k : Keeps H H' p) (hp : x ≠ p) : RatAt C H' x t u := by
  obtain ⟨dx, h⟩ := h
  exact ⟨dx, k _ _ h hp⟩
theorem RatAt.same {C : Addr} {H H' : Hp} {x : Addr} {t u : Int} (h : RatAt C H x t u) (k : Same H H') : RatAt C H' x t u := by
  obtain ⟨dx, h⟩ := h
  exact ⟨dx, k _ _ h⟩
theorem RatAt.ne_pool {C : Addr} {p : Pla} {H : Hp} {x : Addr} {t u : Int} (h : RatAt C H x t u) (hp : Pool H p) : x ≠ p := by
  obtain ⟨dx, h⟩ := h
  obtain ⟨ns, i, b, c, d, h1, _⟩ := hp
  exact ne_of h h1 (by intro z; cases z)
/-- the class Ratio as the top has left it -/
structure RatC (K : PySem.W.Frag) (mg : Str → Option Value) (C : Addr) : Prop where
  cl : Cls K C
  nT : NoAttr K C "top"
  nU : NoAttr K C "under"
  g : mg "Ratio" = some (.ref C)
  ha : PySem.W.findIn K (.ref C) "__class__" = some (some (.builtin "object.__class__"))
  hn : PySem.W.specialIn K (.builtin "object.__class__") "__get__" = some (some (.builtin "getset_descriptor.__get__"))
  htk : PySem.W.takesIn K (.builtin "object.__class__") = some true
  hm : PySem.W.mroIn K C (.type "object") = some true
  ki : PySem.W.kitOne K (.type "int") (.ref C) = some false
theorem RatC.tyX {K : PySem.W.Frag} {mg : Str → Option Value} {C : Addr} (T : RatC K mg C) {H : Hp} {x dx : Addr} {fs : List (Str × V)} (h : H x = some (.ins C dx fs)) : TyX K H (.ref x) (.ref C) := .base (.ins h T.cl T.ha T.hn T.htk T.hm)
theorem kit_self {K : PySem.W.Frag} (v : Value) : PySem.W.kitOne K v v = some true := by
  unfold PySem.W.kitOne
  rw [if_pos (beq_self_eq_true v)]
/-- an error class of the program without __init__ -/
structure ExC (K : PySem.W.Frag) (mg : Str → Option Value) (nm : Str) (C : Addr) : Prop where
  x : PySem.W.excIn K C [.type "ValueError", .type "Exception", .type "BaseException", .type "object"] "ValueError.__new__" = true
  g : mg nm = some (.ref C)
  k : PySem.W.keepIn K (.ref C) = true
  b : PySem.W.subIn K (.ref C) (.type "BaseException") = some true
  t : PySem.W.typeIn K (.ref C) = some (.type "type")
  s : PySem.W.subIn K (.ref C) (.ref C) = some true
  e : ExcC K C
theorem ExC.exm {K : PySem.W.Frag} {mg : Str → Option Value} {x : Str} {C : Addr} (T : ExC K mg x C) : PySem.W.exmOne K (.ref C) (.ref C) = some true := exm_self T.b T.e.hd T.t T.s
theorem beq_ref_ne {a b : Addr} (h : a ≠ b) : (Value.ref a == Value.ref b) = false := by
  rw [beq_eq_false_iff_ne]
  intro e
  injection e with e
  exact h e
end Fl

set_option Elab.async false
set_option linter.all false
set_option maxRecDepth 100000
set_option maxHeartbeats 4000000
namespace Fl
open PySem PySem.Spec PyProof.Rows L2
/-! ### the error with a name and a value -/
structure BnC (K : PySem.W.Frag) (mg : Str → Option Value) (C : Addr) : Prop where
  o : OexC K C
  g : mg "BadNumber" = some (.ref C)
  nN : PySem.W.findIn K (.ref C) "name" = some none
  nV : PySem.W.findIn K (.ref C) "value" = some none
  e : ExcC K C
  s : PySem.W.subIn K (.ref C) (.ref C) = some true
theorem BnC.exm {K : PySem.W.Frag} {mg : Str → Option Value} {C : Addr} (T : BnC K mg C) : PySem.W.exmOne K (.ref C) (.ref C) = some true := exm_self T.o.exC T.e.hd T.o.tyC T.s
theorem BnC.xf {K : PySem.W.Frag} {mg : Str → Option Value} {C : Addr} (T : BnC K mg C) : XfC K C := ⟨T.e.hg, T.e.hk, T.e.hs, T.e.hd⟩
def bnf (n v : V) : List (Str × V) := [("value", v), ("name", n)]
theorem nv : ¬ (("name" : Str) = "value") := by decide +kernel
theorem look_ne {f g : Str} {v : V} {fs : List (Str × V)} (h : ¬ f = g) : List.lookup f ((g, v) :: fs) = List.lookup f fs := by
  have e : (f == g) = false := by simpa using h
  rw [List.lookup_cons, e]
theorem look_eq {f : Str} {v : V} {fs : List (Str × V)} : List.lookup f ((f, v) :: fs) = some v := by
  rw [List.lookup_cons, beq_self_eq_true]
theorem bnf_name (n v : V) : (bnf n v).lookup ("name" : Str) = some n := by
  unfold bnf
  rw [look_ne nv, look_eq]
theorem bnf_value (n v : V) : (bnf n v).lookup ("value" : Str) = some v := look_eq
def spBN (C : Addr) : Sp := fun vs H Q _ => ∃ (a : Addr) (n v : V), vs = [.ref a, n, v] ∧ H a = some (exo a C none) ∧ ∀ (dx : Addr), H dx = none → dx ≠ a → Q .non (upd (upd (upd H dx (exd dx [("name", n)])) a (exo a C (some dx))) dx (exd dx (bnf n v)))
structure CalE (P : Program) (w : World) (K : PySem.W.Frag) (mg : Str → Option Value) (base : Heap) (k : Nat) (C : Addr) : Prop where
  ex : ∃ (fI : Addr) (fd : FuncData), PySem.W.findIn K (.ref C) "__init__" = some (some (.ref fI)) ∧ PySem.W.typeIn K (.ref fI) = some (.type "function") ∧ FnOk P w K mg base CX0 k fI fd ["self", "name", "value"] (spBN C) ∧ Binds K fd ["self", "name", "value"] []
theorem pmk_bn {X : Cx} {k : Nat} {C : Addr} {p pos : Pos} {e : Expr} {es : List Expr} {ta : TA} (T : BnC X.K X.mg C) (B : CalE X.prog X.w X.K X.mg X.base k C) (hr : Room (k + 1) X.A) (ha : PA X (e :: es) ta) (hg : Gl X "BadNumber" := by rfl)
    (he : starEach (e :: es) X.env = (false, eval e X.env) :: starEach es X.env := by rfl) (hpl : (backTo pos (starEach es X.env)).any (·.1) = false := by rfl) : PMk X (.Call (.Name "BadNumber" p) (e :: es) [] pos) (tMkO C (spBN C) [] ta) := by
  obtain ⟨fI, fd, iC, tI, F, b⟩ := B.ex
  exact pmk_oex T.o iC tI F hr b .nil (fun _ _ _ _ _ _ _ h => h.elim) hg T.g ha (by decide +kernel) he hpl
/-- what is wished where BadNumber(n, v) leaves -/
def Ref (E : XK) (C : Addr) (H : Hp) (n : Str) (v : Int) : Prop := ∀ (d : Addr) (H' : Hp), Same H H' → H d = none → H' d = some (.xd (bnf (.str n) (.int v))) → E (.ref C) (some d) H'
theorem Ref.same {E : XK} {C : Addr} {H H1 : Hp} {n : Str} {v : Int} (h : Ref E C H n v) (s : Same H H1) : Ref E C H1 n v := fun d H' s' hd he => h d H' (s.trans s') (s.free hd) he
theorem bn_made {C : Addr} {n : Str} {v : Int} {H : Hp} {Q : XK} (k : Ref Q C H n v) : [V.str n, V.int v].length ≤ 1000 ∧ ∀ a, H a = none → spBN C (.ref a :: ([V.str n, V.int v] ++ [])) (upd H a (exo a C none))
    (fun z H2 => z = .non ∧ ∃ (d : Addr) (fs : List (Str × V)), H2 a = some (exo a C (some d)) ∧ H2 d = some (exd d fs) ∧ H d = none ∧ Q (.ref C) (some d) (upd (del H2 a) d (.xd fs))) (fun _ _ _ => False) := by
  refine ⟨(show 2 ≤ 1000 by decide), fun a ha => ⟨a, .str n, .int v, rfl, upd_same, fun dx hdx hne => ⟨rfl, dx, bnf (.str n) (.int v), ?_, upd_same, ?_, ?_⟩⟩⟩
  · rw [upd_ne (Ne.symm hne), upd_same]
  · rw [upd_ne hne] at hdx
    exact hdx
  · rw [upd_ne hne] at hdx
    refine k dx _ (fun b o e => ?_) hdx upd_same
    have h1 : b ≠ a := ne_of_none e ha
    have h2 : b ≠ dx := ne_of_none e hdx
    rw [upd_ne h2, del_ne h1, upd_ne h2, upd_ne h1, upd_ne h2, upd_ne h1]
    exact e
end Fl

set_option Elab.async false
set_option linter.all false
set_option maxRecDepth 100000
set_option maxHeartbeats 4000000
namespace Fl
/-! ### the sum of the whole parts of (a i + b) / m, i below n -/
def fs (m a b : Nat) : Nat → Nat
  | 0 => 0
  | n + 1 => fs m a b n + (a * n + b) / m
theorem tri_succ (n : Nat) : (n + 1) * n / 2 = n * (n - 1) / 2 + n := by
  cases n with
  | zero => rfl
  | succ k =>
    have e : (k + 1 + 1) * (k + 1) = (k + 1) * (k + 1 - 1) + 2 * (k + 1) := by
      rw [Nat.add_sub_cancel, show k + 1 + 1 = k + 2 from rfl, Nat.add_mul, Nat.mul_comm k (k + 1)]
    rw [e, Nat.add_mul_div_left _ _ (by decide)]
theorem fs_split {m : Nat} (hm : 0 < m) (a b : Nat) : ∀ n : Nat, fs m a b n = n * (n - 1) / 2 * (a / m) + n * (b / m) + fs m (a % m) (b % m) n
  | 0 => by simp [fs]
  | n + 1 => by
    have ih := fs_split hm a b n
    have e : (a * n + b) / m = n * (a / m) + b / m + ((a % m) * n + b % m) / m := by
      have e1 : a * n + b = (a % m * n + b % m) + m * (n * (a / m) + b / m) := by
        have h1 := Nat.mod_add_div a m
        have h2 := Nat.mod_add_div b m
        calc a * n + b = (a % m + m * (a / m)) * n + (b % m + m * (b / m)) := by rw [h1, h2]
          _ = (a % m * n + b % m) + m * (n * (a / m) + b / m) := by
            rw [Nat.add_mul, Nat.mul_add, Nat.mul_assoc, Nat.mul_comm (a / m) n]
            omega
      rw [e1, Nat.add_mul_div_left _ _ hm]
      omega
    show fs m a b n + (a * n + b) / m = (n + 1) * (n + 1 - 1) / 2 * (a / m) + (n + 1) * (b / m) + (fs m (a % m) (b % m) n + (a % m * n + b % m) / m)
    rw [Nat.add_sub_cancel, tri_succ, ih, e, Nat.add_mul, Nat.add_mul]
    omega
theorem fs_up {a m r : Nat} (ha : 0 < a) : ∀ k : Nat, fs a m (r + a) k = fs a m r k + k
  | 0 => rfl
  | k + 1 => by
    have ih := fs_up (m := m) (r := r) ha k
    show fs a m (r + a) k + (m * k + (r + a)) / a = fs a m r k + (m * k + r) / a + (k + 1)
    rw [ih, ← Nat.add_assoc, Nat.add_div_right _ ha]
    omega
theorem fs_shift {a m r : Nat} : ∀ k : Nat, fs a m r (k + 1) = r / a + fs a m (r + m) k
  | 0 => by
    show 0 + (m * 0 + r) / a = r / a + 0
    rw [Nat.mul_zero, Nat.zero_add, Nat.zero_add, Nat.add_zero]
  | k + 1 => by
    have ih := fs_shift (a := a) (m := m) (r := r) k
    show fs a m r (k + 1) + (m * (k + 1) + r) / a = r / a + (fs a m (r + m) k + (m * k + (r + m)) / a)
    rw [ih, Nat.mul_add, Nat.mul_one, Nat.add_assoc (m * k), Nat.add_comm m r]
    omega
theorem fs_swap {m a b : Nat} (ham : a < m) (hbm : b < m) (ha : 0 < a) : ∀ n : Nat, fs m a b n = fs a m ((a * n + b) % m) ((a * n + b) / m)
  | 0 => by
    have e : (a * 0 + b) / m = 0 := by
      rw [Nat.mul_zero, Nat.zero_add]
      exact Nat.div_eq_of_lt hbm
    rw [e]
    rfl
  | n + 1 => by
    have hm : 0 < m := by omega
    have ih := fs_swap ham hbm ha n
    show fs m a b n + (a * n + b) / m = _
    rw [ih]
    have hr := Nat.mod_lt (a * n + b) hm
    have hd := Nat.mod_add_div (a * n + b) m
    generalize hR : (a * n + b) % m = r at *
    generalize hK : (a * n + b) / m = K at *
    have e : a * (n + 1) + b = m * K + (r + a) := by
      rw [Nat.mul_add, Nat.mul_one]
      omega
    rw [e, Nat.mul_add_mod, Nat.mul_add_div hm]
    by_cases hc : r + a < m
    · rw [Nat.mod_eq_of_lt hc, Nat.div_eq_of_lt hc, Nat.add_zero, fs_up ha]
    · have h1 : (r + a) / m = 1 := by
        rw [Nat.div_eq_sub_div hm (by omega), Nat.div_eq_of_lt (by omega)]
      have h2 : (r + a) % m = r + a - m := by
        rw [Nat.mod_eq_sub_mod (by omega), Nat.mod_eq_of_lt (by omega)]
      rw [h1, h2, fs_shift, Nat.div_eq_of_lt (by omega : r + a - m < a), show r + a - m + m = r + a by omega, fs_up ha]
      omega
theorem fs_zero {m b : Nat} (hbm : b < m) : ∀ n : Nat, fs m 0 b n = 0
  | 0 => rfl
  | n + 1 => by
    show fs m 0 b n + (0 * n + b) / m = 0
    rw [fs_zero hbm n, Nat.zero_mul, Nat.zero_add, Nat.zero_add, Nat.div_eq_of_lt hbm]
/-- one turn of Euclid's rule -/
theorem fs_turn {m : Nat} (hm : 0 < m) (a b n : Nat) : fs m a b n = n * (n - 1) / 2 * (a / m) + n * (b / m) + fs (a % m) m ((a % m * n + b % m) % m) ((a % m * n + b % m) / m) := by
  rw [fs_split hm]
  have h1 := Nat.mod_lt a hm
  have h2 := Nat.mod_lt b hm
  by_cases h0 : a % m = 0
  · rw [h0, Nat.zero_mul, Nat.zero_add, fs_zero h2, Nat.div_eq_of_lt h2]
    rfl
  · rw [fs_swap h1 h2 (by omega)]
theorem fs_tot {n m a b tot : Nat} (hn : 0 < n) : (tot : Int) + (n : Int) * ((n : Int) - 1) / 2 * ((a : Int) / (m : Int)) + (n : Int) * ((b : Int) / (m : Int)) = ((tot + n * (n - 1) / 2 * (a / m) + n * (b / m) : Nat) : Int) := by
  have e : (n : Int) - 1 = ((n - 1 : Nat) : Int) := by omega
  rw [e]
  simp only [Int.natCast_add, Int.natCast_mul, Int.natCast_ediv]
  rfl
theorem fs_many_le {n m a b : Nat} (hm : 0 < m) (hn : 0 < n) : (a % m * n + b % m) / m ≤ n := by
  have h1 := Nat.mod_lt a hm
  have h2 := Nat.mod_lt b hm
  have h3 : a % m * n ≤ (m - 1) * n := Nat.mul_le_mul_right n (by omega)
  have h4 : (m - 1) * n = m * n - n := by rw [Nat.sub_mul, Nat.one_mul]
  have h5 : n ≤ m * n := Nat.le_mul_of_pos_left n hm
  refine Nat.le_of_lt_succ (Nat.div_lt_of_lt_mul ?_)
  rw [Nat.mul_succ]
  omega
end Fl

set_option Elab.async false
set_option linter.all false
set_option maxRecDepth 100000
set_option maxHeartbeats 4000000
namespace Bx
open PySem PySem.Spec PyProof.Rows L2 Fl
theorem int_add_own (a : Int) (t : Tok) (x C dx : Addr) : Meets (Builtin.«int.__add__» ⟨[.int a t, .ref x], []⟩) (fun _ R s => s.heap.get? x = some (PySem.W.instObj C dx) ∧ R (.ok (.ret Value.notImplemented)) s) :=
  .of_wp fun prog w A R s h => by obtain ⟨hp, g, d, tk, os⟩ := s; obtain ⟨hl, h⟩ := h; unfold PySem.W.instObj at hl; wp_walk; exact ⟨_, rfl, h⟩
theorem int_sub_own (a : Int) (t : Tok) (x C dx : Addr) : Meets (Builtin.«int.__sub__» ⟨[.int a t, .ref x], []⟩) (fun _ R s => s.heap.get? x = some (PySem.W.instObj C dx) ∧ R (.ok (.ret Value.notImplemented)) s) :=
  .of_wp fun prog w A R s h => by obtain ⟨hp, g, d, tk, os⟩ := s; obtain ⟨hl, h⟩ := h; unfold PySem.W.instObj at hl; wp_walk; exact ⟨_, rfl, h⟩
theorem int_mul_own (a : Int) (t : Tok) (x C dx : Addr) : Meets (Builtin.«int.__mul__» ⟨[.int a t, .ref x], []⟩) (fun _ R s => s.heap.get? x = some (PySem.W.instObj C dx) ∧ R (.ok (.ret Value.notImplemented)) s) :=
  .of_wp fun prog w A R s h => by obtain ⟨hp, g, d, tk, os⟩ := s; obtain ⟨hl, h⟩ := h; unfold PySem.W.instObj at hl; wp_walk; exact ⟨_, rfl, h⟩
section
open PySem.W PySem.Calls
variable {prog : Program} {w : World} {A : Around} {E : Value → Shared → Prop} {s : Shared} {K : Frag} {x C L f g dx : Addr} {h₀ : Heap} {m : Str → Option Value} {od : Option Obj}
theorem bin_refl {op : Operator} {n : Int} {t : Tok} {id : String} {B : Builtin} {Q : Value → Shared → Prop} (F : Fr h₀ L s.heap m) (X₀ : K.In h₀) (I : PySem.W.InstAt s.heap x (PySem.W.instObj C dx) C od) (hc : selfFirst K C = true)
    (hs : findIn K (.ref C) (PySem.dunder op.info.2) = some (some (.ref f))) (hr : findIn K (.ref C) (dunderR op.info.2) = some (some (.ref g))) (hg : isFn K (.ref g) = true)
    (hsub : subIn K (.ref C) (.type "int") = some false) (fills : fillsNumberSlot (.type "int") op.info.2 = pure true) (slot : Slot "int" (PySem.dunder op.info.2) id) (entry : entryFor table id = some B) (args : argsOk id ⟨[.int n t, .ref x], []⟩)
    (mt : Meets (B ⟨[.int n t, .ref x], []⟩) (fun _ R s => s.heap.get? x = some (PySem.W.instObj C dx) ∧ R (.ok (.ret Value.notImplemented)) s))
    (h : wpAny (model prog w) A (call (.ref g) [.ref x, .int n t]) (PySem.W.CmpBack Q) E s) : wpAny (model prog w) A (binaryOp op (.int n t) (.ref x)) Q E s := by
  have X := X₀.keeps F.keep
  obtain ⟨cd, rest, hcd, hm⟩ := ksp_first hc
  rcases hi : op.info with ⟨sym, nm'⟩
  rw [hi] at hs hr fills slot
  dsimp only at hs hr fills slot
  have one := ksp_try X I hr hg h
  simp only [binaryOp, hi]
  refine wpAny_holding (wpAny_bind ?_)
  simp only [binaryOp1]
  refine wpAny_bind (wpAny_typeOf (typeIs_int s n t) (wpAny_bind (I.type.here (wpAny_bind (wpAny_of_eq fills ?_)))))
  have hne : (Value.type "int" == Value.ref C) = false := Bool.eq_false_iff.mpr fun q => by cases beq_iff_eq.mp q
  simp only [hne, Bool.false_eq_true, if_false]
  refine wpAny_bind ((fills_K X hcd hm hs).here ?_)
  simp only [Bool.and_self, if_true]
  refine wpAny_bind ((looks_subIn X hsub).here ?_)
  have hpy : numberSlotInPython (.type "int") nm' = pure false := rfl
  simp only [Bool.false_eq_true, if_false, pure_bind, Bool.not_false, Bool.and_self, if_true, hpy]
  refine wpAny_bind (wpAny_tryMethod_declines (typeIs_int s n t) slot (call_meets slot (typeIs_int s n t) entry args mt ⟨I.at_, ?_⟩))
  refine ⟨rfl, ?_⟩
  refine wpAny_bind (wpAny_mono one (fun r s' hr' => ?_) fun _ _ e => e)
  obtain ⟨v, rfl, hq⟩ := hr'
  exact wpAny_bind (wpAny_rule (wpAny_pure (wpAny_pure hq)))
end

section
open PySem.W PySem.Calls
variable {prog : Program} {w : World} {A : Around} {E : Value → Shared → Prop} {s : Shared} {K : Frag} {x C f : Addr} {ox : Obj} {od : Option Obj}
theorem call_abs_own {Q : Value → Shared → Prop} (X : K.In s.heap) (I : PySem.W.InstAt s.heap x ox C od) (hs : findIn K (.ref C) "__abs__" = some (some (.ref f))) (hf : isFn K (.ref f) = true)
    (h : wpAny (model prog w) A.in1 (call (.ref f) [.ref x]) Q E s) : wpAny (model prog w) A (call (.builtin "abs") [.ref x]) Q E s := by
  refine call_function_entry kind_abs plain_abs entry_abs (args_abs _) ?_
  unfold Builtin.«abs»
  refine wpAny_bind (wpAny_pure ?_)
  refine wpAny_bind (m := callSpecial? (.ref x) (Str.ofString "__abs__")) (special_fn X I hs (beq_iff_eq.mp hf) (wpAny_mono h (fun v s' hv => ?_) fun _ _ z => ?_))
  · exact wpAny_pure ⟨_, rfl, hv⟩
  · exact z
end
section
/-- the def that an operator's special name of the class C finds -/
structure OpOwn (P : Program) (w : World) (K : PySem.W.Frag) (mg : Str → Option Value) (base : Heap) (k : Nat) (C : Addr) (nm : Str) (ps : List Str) (sp : Sp) : Prop where
  ex : ∃ (f : Addr) (fd : FuncData), PySem.W.findIn K (.ref C) nm = some (some (.ref f)) ∧ PySem.W.isFn K (.ref f) = true ∧ FnOk P w K mg base CX0 k f fd ps sp ∧ Binds K fd ps []
def oR (Q : VK) : VK := fun v H2 => ∃ z, v = .ref z ∧ Q (.ref z) H2
def rOO (C : Addr) (sp : Sp) : R2 := fun x y H Q => ∃ (a dx : Addr) (gs : List (Str × V)) (b dy : Addr) (hs : List (Str × V)), x = .ref a ∧ H a = some (.ins C dx gs) ∧ y = .ref b ∧ H b = some (.ins C dy hs) ∧ sp [.ref a, .ref b] H (oR Q) E0
def rOI (C : Addr) (sp : Sp) : R2 := fun x y H Q => ∃ (a dx : Addr) (gs : List (Str × V)) (n : Int), x = .ref a ∧ H a = some (.ins C dx gs) ∧ y = .int n ∧ sp [.ref a, .int n] H (oR Q) E0
def rIO (C : Addr) (sp : Sp) : R2 := fun x y H Q => ∃ (a dx : Addr) (gs : List (Str × V)) (n : Int), y = .ref a ∧ H a = some (.ins C dx gs) ∧ x = .int n ∧ sp [.ref a, .int n] H (oR Q) E0
variable {X : Cx} {k : Nat} {C : Addr} {ps : List Str} {sp : Sp} {op : Operator}
theorem op_oo (M : OpOwn X.prog X.w X.K X.mg X.base k C (PySem.dunder op.info.2) ps sp) (hc : PySem.W.selfFirst X.K C = true) (hr : Room k X.A) : OpR X (binaryOp op) (rOO C sp) := by
  obtain ⟨f, fd, hs, hf, F, b⟩ := M.ex
  intro pins s σ H x y v u Q I rx ry h
  obtain ⟨a, dx, gs, b', dy, gs', rfl, ea, rfl, eb, q⟩ := h
  cases rx
  cases ry
  obtain ⟨mA, J, _⟩ := ins_get I.hok ea
  obtain ⟨od, J, _⟩ := J.look
  obtain ⟨mB, J', _⟩ := ins_get I.hok eb
  obtain ⟨od', J', _⟩ := J'.look
  obtain ⟨m, hF⟩ := I.fr
  refine PySem.W.binop_K hF I.ok.mod.kin J J'.type hc hs hf (wpAny_mono (run_fn F hr b (dvs := []) .nil pass0 I (.cons (show RelV (.ref a) (.ref a) from rfl) (.cons (show RelV (.ref b') (.ref b') from rfl) .nil)) q) (fun r s' hr => ?_) fun _ _ z => z)
  obtain ⟨z, H2, I2, rz, c, rfl, q2⟩ := hr
  cases rz
  exact ⟨V.ref c, H2, I2, rfl, q2⟩
theorem op_oi {rc : Option Value} {fo ro : Option Value} (M : OpOwn X.prog X.w X.K X.mg X.base k C (PySem.dunder op.info.2) ps sp) (hc : PySem.W.selfFirst X.K C = true) (hR : PySem.W.findIn X.K (.ref C) (dunderR op.info.2) = some rc) (hp : rc = none ∨ ∃ g : Addr, rc = some (.ref g))
    (h1 : PySem.W.findIn X.K (.type "int") (PySem.dunder op.info.2) = some fo) (h2 : PySem.W.findIn X.K (.type "int") (dunderR op.info.2) = some ro) (hsub : PySem.W.subIn X.K (.type "int") (.ref C) = some false) (hr : Room k X.A) : OpR X (binaryOp op) (rOI C sp) := by
  obtain ⟨f, fd, hs, hf, F, b⟩ := M.ex
  intro pins s σ H x y v u Q I rx ry h
  obtain ⟨a, dx, gs, n, rfl, ea, rfl, q⟩ := h
  cases rx
  obtain ⟨t, rfl⟩ := ry
  obtain ⟨mA, J, _⟩ := ins_get I.hok ea
  obtain ⟨od, J, _⟩ := J.look
  obtain ⟨m, hF⟩ := I.fr
  refine PySem.W.ksp_binT hF I.ok.mod.kin J (T := "int") rfl hc hs hf hR hp h1 h2 hsub (wpAny_mono (run_fn F hr b (dvs := []) .nil pass0 I (.cons (show RelV (.ref a) (.ref a) from rfl) (.cons (show RelV (.int n) (.int n t) from ⟨_, rfl⟩) .nil)) q) (fun r s' hr => ?_) fun _ _ z => z)
  obtain ⟨z, H2, I2, rz, c, rfl, q2⟩ := hr
  cases rz
  exact ⟨V.ref c, H2, I2, rfl, q2⟩
theorem op_io {f0 : Addr} {id : String} {B : Builtin} (M : OpOwn X.prog X.w X.K X.mg X.base k C (dunderR op.info.2) ps sp) (hc : PySem.W.selfFirst X.K C = true) (hs0 : PySem.W.findIn X.K (.ref C) (PySem.dunder op.info.2) = some (some (.ref f0))) (hsub : PySem.W.subIn X.K (.ref C) (.type "int") = some false)
    (fills : fillsNumberSlot (.type "int") op.info.2 = pure true) (slot : Slot "int" (PySem.dunder op.info.2) id) (entry : entryFor table id = some B) (args : ∀ a b, argsOk id ⟨[a, b], []⟩)
    (mt : ∀ (n : Int) (t : Tok) (x C dx : Addr), Meets (B ⟨[.int n t, .ref x], []⟩) (fun _ R s => s.heap.get? x = some (PySem.W.instObj C dx) ∧ R (.ok (.ret Value.notImplemented)) s)) (hr : Room k X.A) : OpR X (binaryOp op) (rIO C sp) := by
  obtain ⟨f, fd, hs, hf, F, b⟩ := M.ex
  intro pins s σ H x y v u Q I rx ry h
  obtain ⟨a, dx, gs, n, rfl, ea, rfl, q⟩ := h
  cases ry
  obtain ⟨t, rfl⟩ := rx
  obtain ⟨mA, J, _⟩ := ins_get I.hok ea
  obtain ⟨od, J, _⟩ := J.look
  obtain ⟨m, hF⟩ := I.fr
  refine bin_refl hF I.ok.mod.kin J hc hs0 hs hf hsub fills slot entry (args _ _) (mt n t a C dx) (wpAny_mono (run_fn F hr b (dvs := []) .nil pass0 I (.cons (show RelV (.ref a) (.ref a) from rfl) (.cons (show RelV (.int n) (.int n t) from ⟨_, rfl⟩) .nil)) q) (fun r s' hr => ?_) fun _ _ z => z)
  obtain ⟨z, H2, I2, rz, c, rfl, q2⟩ := hr
  cases rz
  exact ⟨V.ref c, H2, I2, rfl, q2⟩
def rNegO (C : Addr) (sp : Sp) : V → Hp → VK → Prop := fun x H Q => ∃ (a dx : Addr) (gs : List (Str × V)), x = .ref a ∧ H a = some (.ins C dx gs) ∧ sp [.ref a] H Q E0
theorem un_negO (M : OpOwn X.prog X.w X.K X.mg X.base k C "__neg__" ps sp) (hr : Room k X.A) : UnR X (unaryOp .USub) (rNegO C sp) := by
  obtain ⟨f, fd, hs, hf, F, b⟩ := M.ex
  intro pins s σ H x v Q I rx h
  obtain ⟨a, dx, gs, rfl, ea, q⟩ := h
  cases rx
  obtain ⟨mA, J, _⟩ := ins_get I.hok ea
  obtain ⟨od, J, _⟩ := J.look
  obtain ⟨m, hF⟩ := I.fr
  exact PySem.W.ksp_neg hF I.ok.mod.kin J hs hf (run_fn F hr b (dvs := []) .nil pass0 I (.cons (show RelV (.ref a) (.ref a) from rfl) .nil) q)
def rAbsO (C : Addr) (sp : Sp) : List V → Hp → VK → Prop := fun xs H Q => ∃ (a dx : Addr) (gs : List (Str × V)), xs = [.ref a] ∧ H a = some (.ins C dx gs) ∧ sp [.ref a] H Q E0
theorem call_absO (M : OpOwn X.prog X.w X.K X.mg X.base k C "__abs__" ps sp) (hr : Room (k + 1) X.A) : CallR X (.builtin "abs") (rAbsO C sp) := by
  obtain ⟨f, fd, hs, hf, F, b⟩ := M.ex
  intro pins s σ H xs us Q I r h
  obtain ⟨a, dx, gs, rfl, ea, q⟩ := h
  obtain ⟨u, rfl, rx⟩ := vals1 r
  cases rx
  obtain ⟨mA, J, _⟩ := ins_get I.hok ea
  obtain ⟨od, J, _⟩ := J.look
  have hl := F.len _ _ _ _ q
  have r2 : Vals [V.ref a] [Value.ref a] := .cons (show RelV (.ref a) (.ref a) from rfl) .nil
  have bb := b s [.ref a] I.kIn (by simpa using hl)
  rw [List.append_nil] at bb
  refine call_abs_own I.kIn J hs hf (wpAny_call (codeAny_mono (F.run X.A.in1 X.stack s H ⟨[.ref a], []⟩ [.ref a] [.ref a] Q E0 hr.in1 I.env0.in1 bb r2 q) fun r s' hq => ?_))
  cases r with
  | error e => exact (pass0 pins σ H s e s' I hq)
  | ok fl =>
    cases fl with
    | ret z => exact I.after hq
    | next => exact False.elim hq
    | brk => exact False.elim hq
    | cont => exact False.elim hq
end
end Bx

set_option Elab.async false
set_option linter.all false
set_option maxRecDepth 100000
set_option maxHeartbeats 4000000
namespace Bx
open PySem PySem.Spec PyProof.Rows L2 Fl
section
/-- a def of the class that may raise what its spec says -/
structure OwnX (P : Program) (w : World) (K : PySem.W.Frag) (mg : Str → Option Value) (base : Heap) (k : Nat) (C : Addr) (nm : Str) (ps : List Str) (sp : Sp) : Prop where
  ex : ∃ (f : Addr) (fd : FuncData), PySem.W.findIn K (.ref C) nm = some (some (.ref f)) ∧ PySem.W.isFn K (.ref f) = true ∧ PySem.W.keepIn K (.ref f) = true ∧ FnOk P w K mg base (L2.CX P w) k f fd ps sp ∧ Binds K fd ps []
variable {X : Cx} {k : Nat} {C : Addr} {ps : List Str} {sp : Sp} {op : Operator} {E : L2.St → XK}
def tMethX (C : Addr) (m : Str) (sp : Sp) (E : L2.St → XK) (ta : TE) (t : TA) : TE := fun σ H Q => ta σ H fun x H1 => ∃ a dx fs, x = .ref a ∧ H1 a = some (.ins C dx fs) ∧ fs.lookup m = none ∧ t σ H1 fun vs H2 => sp (x :: vs) H2 Q (E σ)
theorem pe_methX {pl : Sem Bool} {m : Str} {o e : Expr} {es : List Expr} {apos pos : Pos} {ta : TE} {t : TA} (M : OwnX X.prog X.w X.K X.mg X.base k C m ps sp) (c : Cls X.K C) (hx : ∀ σ, PassesAt (L2.CX X.prog X.w) X σ (E σ)) (hr : Room k X.A) (he : PE X o ta) (ha : PA X (e :: es) t)
    (hst : starEach (e :: es) X.env = (false, eval e X.env) :: starEach es X.env := by rfl) (hpl : (backTo pos (starEach es X.env)).any (·.1) = false := by rfl)
    (ht : eval (.Call (.Attribute o m apos) (e :: es) [] pos) X.env = (do
      let ov ← eval o X.env
      standAt apos.atName
      let (f, first) ← holding [ov] (getMethod ov m pl)
      callWith pos f first (backTo pos (starEach (e :: es) X.env)) (backToKw pos (keywordEach [] X.env))) := by rfl) :
    PE X (.Call (.Attribute o m apos) (e :: es) [] pos) (tMethX C m sp E ta t) := by
  obtain ⟨f, fd, h1, h2, h3, F, b⟩ := M.ex
  refine ⟨fun pins s σ H Q I h => ?_⟩
  refine PySem.W.methodCall_KW (pl := pl) (thn (he.run pins s σ H _ I h) fun u s1 ⟨x, H1, I1, rx, a, dx, fs, ex, ea, l, q⟩ => ?_) ht
  subst ex
  obtain rfl : u = Value.ref a := rx
  refine getmeth_ok I1 ea c ⟨h1, h2, h3⟩ l ?_
  refine PySem.W.callWith_K (first := [.ref a]) (h₀ := X.base) I.ok.mod.kin h3 (thn (ha.run pos pins s1 σ H1 _ I1 q) fun us s2 ⟨vs, H2, I2, r, q2⟩ => ⟨I2.kIn, ?_⟩) hst hpl
  exact run_fnS (us := .ref a :: us) (vs := .ref a :: vs) (E := E) F hr b (hx σ) I2 (.cons rfl r) q2
/-- what comes back: a reference or a whole number -/
def oA (Q : VK) : VK := fun v H2 => ((∃ z, v = .ref z) ∨ ∃ i, v = .int i) ∧ Q v H2
def rOwnX (C : Addr) (sp : Sp) (E : L2.St → XK) : L2.St → R2 := fun σ x y H Q => ∃ (a dx : Addr) (gs : List (Str × V)), x = .ref a ∧ H a = some (.ins C dx gs) ∧ ((∃ (b dy : Addr) (hs : List (Str × V)), y = .ref b ∧ H b = some (.ins C dy hs)) ∨ ∃ n : Int, y = .int n) ∧ sp [x, y] H (oA Q) (E σ)
def tOpS (R : L2.St → R2) (ta tb : TE) : TE := fun σ H Q => ta σ H fun x H1 => tb σ H1 fun y H2 => R σ x y H2 Q
theorem back {pins : List (Addr × Obj)} {σ : L2.St} {Q : VK} {r : Value} {s' : Shared} (h : EP X pins σ (oA Q) r s') : PySem.W.CmpBack (EP X pins σ Q) r s' := by
  obtain ⟨z, H2, I2, rz, c, q2⟩ := h
  rcases c with ⟨c, rfl⟩ | ⟨i, rfl⟩
  · cases rz
    exact ⟨V.ref c, H2, I2, rfl, q2⟩
  · obtain ⟨t, rfl⟩ := rz
    exact ⟨V.int i, H2, I2, ⟨t, rfl⟩, q2⟩
theorem pe_ownX {rc fo ro : Option Value} {a b : Expr} {ta tb : TE} {pos : Pos} (M : OwnX X.prog X.w X.K X.mg X.base k C (PySem.dunder op.info.2) ps sp) (hx : ∀ σ, PassesAt (L2.CX X.prog X.w) X σ (E σ)) (hc : PySem.W.selfFirst X.K C = true)
    (hR : PySem.W.findIn X.K (.ref C) (dunderR op.info.2) = some rc) (hp : rc = none ∨ ∃ g : Addr, rc = some (.ref g)) (h1 : PySem.W.findIn X.K (.type "int") (PySem.dunder op.info.2) = some fo) (h2 : PySem.W.findIn X.K (.type "int") (dunderR op.info.2) = some ro)
    (hsub : PySem.W.subIn X.K (.type "int") (.ref C) = some false) (hr : Room k X.A) (ha : PE X a ta) (hb : PE X b tb) : PE X (.BinOp a op b pos) (tOpS (rOwnX C sp E) ta tb) := by
  obtain ⟨f, fd, hs, hf, hk, F, bd⟩ := M.ex
  refine ⟨fun pins s σ H Q I h => ?_⟩
  refine wpAny_BinOp (binT ha hb I h fun v u s2 x y H2 I2 rx ry q => ?_)
  obtain ⟨a', dx, gs, rfl, ea, hy, q⟩ := q
  cases rx
  obtain ⟨mA, J, _⟩ := ins_get I2.hok ea
  obtain ⟨od, J, _⟩ := J.look
  obtain ⟨m, hF⟩ := I2.fr
  have run := run_fnS (E := E) F hr bd (hx σ) I2 (.cons (show RelV (.ref a') (.ref a') from rfl) (.cons ry .nil)) q
  rcases hy with ⟨b', dy, gs', rfl, eb⟩ | ⟨n, rfl⟩
  · cases ry
    obtain ⟨mB, J', _⟩ := ins_get I2.hok eb
    obtain ⟨od', J', _⟩ := J'.look
    exact PySem.W.binop_K hF I2.ok.mod.kin J J'.type hc hs hf (wpAny_mono run (fun r s' hr => back hr) fun _ _ z => z)
  · obtain ⟨t, rfl⟩ := ry
    exact PySem.W.ksp_binT hF I2.ok.mod.kin J (T := "int") rfl hc hs hf hR hp h1 h2 hsub (wpAny_mono run (fun r s' hr => back hr) fun _ _ z => z)
theorem op_or {f : Value → Value → Sem Value} {r1 r2 : R2} (h1 : OpR X f r1) (h2 : OpR X f r2) : OpR X f (fun x y H Q => r1 x y H Q ∨ r2 x y H Q) := fun pins s σ H x y v u Q I rx ry h => h.elim (h1 pins s σ H x y v u Q I rx ry) (h2 pins s σ H x y v u Q I rx ry)
end
end Bx

set_option Elab.async false
set_option linter.all false
set_option maxRecDepth 100000
set_option maxHeartbeats 4000000
namespace Bx
open PySem PySem.Spec PyProof.Rows L2 Fl
theorem int_lt_own (a : Int) (t : Tok) (x C dx : Addr) : Meets (Builtin.«int.__lt__» ⟨[.int a t, .ref x], []⟩) (fun _ R s => s.heap.get? x = some (PySem.W.instObj C dx) ∧ R (.ok (.ret Value.notImplemented)) s) :=
  .of_wp fun prog w A R s h => by obtain ⟨hp, g, d, tk, os⟩ := s; obtain ⟨hl, h⟩ := h; unfold PySem.W.instObj at hl; wp_walk; exact ⟨_, rfl, h⟩
theorem int_le_own (a : Int) (t : Tok) (x C dx : Addr) : Meets (Builtin.«int.__le__» ⟨[.int a t, .ref x], []⟩) (fun _ R s => s.heap.get? x = some (PySem.W.instObj C dx) ∧ R (.ok (.ret Value.notImplemented)) s) :=
  .of_wp fun prog w A R s h => by obtain ⟨hp, g, d, tk, os⟩ := s; obtain ⟨hl, h⟩ := h; unfold PySem.W.instObj at hl; wp_walk; exact ⟨_, rfl, h⟩
theorem int_gt_own (a : Int) (t : Tok) (x C dx : Addr) : Meets (Builtin.«int.__gt__» ⟨[.int a t, .ref x], []⟩) (fun _ R s => s.heap.get? x = some (PySem.W.instObj C dx) ∧ R (.ok (.ret Value.notImplemented)) s) :=
  .of_wp fun prog w A R s h => by obtain ⟨hp, g, d, tk, os⟩ := s; obtain ⟨hl, h⟩ := h; unfold PySem.W.instObj at hl; wp_walk; exact ⟨_, rfl, h⟩
theorem int_ge_own (a : Int) (t : Tok) (x C dx : Addr) : Meets (Builtin.«int.__ge__» ⟨[.int a t, .ref x], []⟩) (fun _ R s => s.heap.get? x = some (PySem.W.instObj C dx) ∧ R (.ok (.ret Value.notImplemented)) s) :=
  .of_wp fun prog w A R s h => by obtain ⟨hp, g, d, tk, os⟩ := s; obtain ⟨hl, h⟩ := h; unfold PySem.W.instObj at hl; wp_walk; exact ⟨_, rfl, h⟩
theorem int_eq_own (a : Int) (t : Tok) (x C dx : Addr) : Meets (Builtin.«int.__eq__» ⟨[.int a t, .ref x], []⟩) (fun _ R s => s.heap.get? x = some (PySem.W.instObj C dx) ∧ R (.ok (.ret Value.notImplemented)) s) :=
  .of_wp fun prog w A R s h => by obtain ⟨hp, g, d, tk, os⟩ := s; obtain ⟨hl, h⟩ := h; unfold PySem.W.instObj at hl; wp_walk; exact ⟨_, rfl, h⟩
theorem int_ne_own (a : Int) (t : Tok) (x C dx : Addr) : Meets (Builtin.«int.__ne__» ⟨[.int a t, .ref x], []⟩) (fun _ R s => s.heap.get? x = some (PySem.W.instObj C dx) ∧ R (.ok (.ret Value.notImplemented)) s) :=
  .of_wp fun prog w A R s h => by obtain ⟨hp, g, d, tk, os⟩ := s; obtain ⟨hl, h⟩ := h; unfold PySem.W.instObj at hl; wp_walk; exact ⟨_, rfl, h⟩
section
open PySem.W PySem.Calls
variable {prog : Program} {w : World} {A : Around} {E : Value → Shared → Prop} {s : Shared} {K : Frag} {x C L f g dx : Addr} {h₀ : Heap} {m : Str → Option Value} {od : Option Obj}
theorem cmp_refl {op : CmpOp} {n : Int} {t : Tok} {id : String} {B : Builtin} {Q : Value → Shared → Prop} (hu : A.units < cLine) (F : Fr h₀ L s.heap m) (X₀ : K.In h₀) (I : PySem.W.InstAt s.heap x (PySem.W.instObj C dx) C od)
    (hr : findIn K (.ref C) (cmpInfo op).2.2 = some (some (.ref g))) (hg : isFn K (.ref g) = true)
    (hsub : subIn K (.ref C) (.type "int") = some false) (slot : Slot "int" (cmpInfo op).2.1 id) (entry : entryFor table id = some B) (args : argsOk id ⟨[.int n t, .ref x], []⟩)
    (mt : Meets (B ⟨[.int n t, .ref x], []⟩) (fun _ R s => s.heap.get? x = some (PySem.W.instObj C dx) ∧ R (.ok (.ret Value.notImplemented)) s))
    (h : wpAny (model prog w) A (call (.ref g) [.ref x, .int n t]) (PySem.W.CmpBack Q) E s) : wpAny (model prog w) A (richCompare op (.int n t) (.ref x)) Q E s := by
  have X := X₀.keeps F.keep
  have one : wpAny (model prog w) A (tryCompare (.ref x) (cmpInfo op).2.2 (.int n t)) (fun r s' => ∃ v, r = some v ∧ Q v s') E s := by
    unfold tryCompare
    refine wpAny_bind (ifBound_K X I hr hg (wpAny_mono h (fun v s' hv => ?_) fun _ _ e => e))
    cases v <;> first | exact hv.elim | exact wpAny_pure ⟨_, rfl, hv⟩
  have ot : oneThing? op (.int n t) (.ref x) = none := rfl
  unfold richCompare
  simp only [ot]
  refine wpAny_holding (wpAny_bind (wpAny_cRoomFor hu ?_))
  refine wpAny_bind (wpAny_typeOf (typeIs_int s n t) (wpAny_bind (I.type.here ?_)))
  have hne : (Value.type "int" != Value.ref C) = true := by
    rw [bne_iff_ne]
    intro q
    cases q
  simp only [hne, if_true]
  refine wpAny_bind ((looks_subIn X hsub).here ?_)
  simp only [Bool.false_eq_true, if_false, Bool.not_false, if_true]
  refine wpAny_bind (wpAny_tryCompare_declines (typeIs_int s n t) slot (call_meets slot (typeIs_int s n t) entry args mt ⟨I.at_, ?_⟩))
  refine ⟨rfl, ?_⟩
  refine wpAny_bind (wpAny_mono one (fun r s' hr' => ?_) fun _ _ e => e)
  obtain ⟨v, rfl, hq⟩ := hr'
  exact wpAny_pure hq
end
section
variable {X : Cx} {k : Nat} {C : Addr} {ps : List Str} {sp : Sp} {op : CmpOp}
def oB (Q : VK) : VK := fun v H2 => ∃ b, v = .bl b ∧ Q (.bl b) H2
/-- own op y: y of the same class -/
def cOO (C : Addr) (sp : Sp) : R2 := fun x y H Q => ∃ (a dx : Addr) (gs : List (Str × V)) (b dy : Addr) (hs : List (Str × V)), x = .ref a ∧ H a = some (.ins C dx gs) ∧ y = .ref b ∧ H b = some (.ins C dy hs) ∧ sp [.ref a, .ref b] H (oB Q) E0
def cOI (C : Addr) (sp : Sp) : R2 := fun x y H Q => ∃ (a dx : Addr) (gs : List (Str × V)) (n : Int), x = .ref a ∧ H a = some (.ins C dx gs) ∧ y = .int n ∧ sp [.ref a, .int n] H (oB Q) E0
def cIO (C : Addr) (sp : Sp) : R2 := fun x y H Q => ∃ (a dx : Addr) (gs : List (Str × V)) (n : Int), y = .ref a ∧ H a = some (.ins C dx gs) ∧ x = .int n ∧ sp [.ref a, .int n] H (oB Q) E0
theorem backB {pins : List (Addr × Obj)} {σ : L2.St} {Q : VK} {r : Value} {s' : Shared} (h : EP X pins σ (oB Q) r s') : PySem.W.CmpBack (EP X pins σ Q) r s' := by
  obtain ⟨z, H2, I2, rz, c, rfl, q2⟩ := h
  cases rz
  exact ⟨V.bl c, H2, I2, rfl, q2⟩
theorem cmp_oo (hop : ∀ a b, compareOp op a b = richCompare op a b) (M : OpOwn X.prog X.w X.K X.mg X.base k C (cmpInfo op).2.1 ps sp) (hu : X.A.units < cLine) (hr : Room k X.A) : OpR X (compareOp op) (cOO C sp) := by
  obtain ⟨f, fd, hs, hf, F, b⟩ := M.ex
  intro pins s σ H x y v u Q I rx ry h
  obtain ⟨a, dx, gs, b', dy, gs', rfl, ea, rfl, eb, q⟩ := h
  cases rx
  cases ry
  obtain ⟨mA, J, _⟩ := ins_get I.hok ea
  obtain ⟨od, J, _⟩ := J.look
  obtain ⟨mB, J', _⟩ := ins_get I.hok eb
  obtain ⟨od', J', _⟩ := J'.look
  obtain ⟨m, hF⟩ := I.fr
  rw [hop]
  refine PySem.W.cmp_K hu hF I.ok.mod.kin J J'.type (by unfold PySem.W.notFirst; simp) hs hf (wpAny_mono (run_fn F hr b (dvs := []) .nil pass0 I (.cons (show RelV (.ref a) (.ref a) from rfl) (.cons (show RelV (.ref b') (.ref b') from rfl) .nil)) q) (fun r s' hr => backB hr) fun _ _ z => z)
theorem cmp_oi (hop : ∀ a b, compareOp op a b = richCompare op a b) (M : OpOwn X.prog X.w X.K X.mg X.base k C (cmpInfo op).2.1 ps sp) (hsub : PySem.W.subIn X.K (.type "int") (.ref C) = some false) (hu : X.A.units < cLine) (hr : Room k X.A) : OpR X (compareOp op) (cOI C sp) := by
  obtain ⟨f, fd, hs, hf, F, b⟩ := M.ex
  intro pins s σ H x y v u Q I rx ry h
  obtain ⟨a, dx, gs, n, rfl, ea, rfl, q⟩ := h
  cases rx
  obtain ⟨t, rfl⟩ := ry
  obtain ⟨mA, J, _⟩ := ins_get I.hok ea
  obtain ⟨od, J, _⟩ := J.look
  obtain ⟨m, hF⟩ := I.fr
  rw [hop]
  refine PySem.W.cmp_K (tb := .type "int") hu hF I.ok.mod.kin J (PySem.W.Looks.of_pure rfl) (by unfold PySem.W.notFirst; rw [hsub]; simp) hs hf (wpAny_mono (run_fn F hr b (dvs := []) .nil pass0 I (.cons (show RelV (.ref a) (.ref a) from rfl) (.cons (show RelV (.int n) (.int n t) from ⟨_, rfl⟩) .nil)) q) (fun r s' hr => backB hr) fun _ _ z => z)
theorem cmp_io {id : String} {B : Builtin} (hop : ∀ a b, compareOp op a b = richCompare op a b) (M : OpOwn X.prog X.w X.K X.mg X.base k C (cmpInfo op).2.2 ps sp) (hsub : PySem.W.subIn X.K (.ref C) (.type "int") = some false) (slot : Slot "int" (cmpInfo op).2.1 id) (entry : entryFor table id = some B) (args : ∀ a b, argsOk id ⟨[a, b], []⟩)
    (mt : ∀ (n : Int) (t : Tok) (x C dx : Addr), Meets (B ⟨[.int n t, .ref x], []⟩) (fun _ R s => s.heap.get? x = some (PySem.W.instObj C dx) ∧ R (.ok (.ret Value.notImplemented)) s)) (hu : X.A.units < cLine) (hr : Room k X.A) : OpR X (compareOp op) (cIO C sp) := by
  obtain ⟨f, fd, hs, hf, F, b⟩ := M.ex
  intro pins s σ H x y v u Q I rx ry h
  obtain ⟨a, dx, gs, n, rfl, ea, rfl, q⟩ := h
  cases ry
  obtain ⟨t, rfl⟩ := rx
  obtain ⟨mA, J, _⟩ := ins_get I.hok ea
  obtain ⟨od, J, _⟩ := J.look
  obtain ⟨m, hF⟩ := I.fr
  rw [hop]
  refine cmp_refl hu hF I.ok.mod.kin J hs hf hsub slot entry (args _ _) (mt n t a C dx) (wpAny_mono (run_fn F hr b (dvs := []) .nil pass0 I (.cons (show RelV (.ref a) (.ref a) from rfl) (.cons (show RelV (.int n) (.int n t) from ⟨_, rfl⟩) .nil)) q) (fun r s' hr => backB hr) fun _ _ z => z)
end
end Bx

set_option Elab.async false
set_option linter.all false
set_option maxRecDepth 100000
set_option maxHeartbeats 4000000
namespace Bx
open PySem PySem.Spec PyProof.Rows L2 Fl
section
variable {X : Cx} {k : Nat} {C : Addr} {x m : Str} {ps : List Str} {dvs : List V} {sp : Sp} {E : L2.St → XK} {p pos apos : Pos} {e o : Expr} {es : List Expr} {t : TA} {tv ta : TE}
/-- v(e, ..), v a local that holds the class at C -/
def tMakeV (C : Addr) (sp : Sp) (dvs : List V) (E : L2.St → XK) (tv : TE) (t : TA) : TE := fun σ H Q => tv σ H fun v H1 => v = .ref C ∧ t σ H1 fun vs H2 => ∀ x dx, H2 x = none → H2 dx = none → dx ≠ x →
  sp (.ref x :: (vs ++ dvs)) (upd (upd H2 dx (.own x)) x (.ins C dx [])) (fun v H2 => v = .non ∧ Q (.ref x) H2) (E σ)
theorem pe_mkV (M : CalC X.prog X.w X.K X.mg X.base (L2.CX X.prog X.w) k C x ps dvs sp) (hx : ∀ σ, PassesAt (L2.CX X.prog X.w) X σ (E σ)) (hr : Room (k + 1) X.A) {y : Str} (hv : PE X (.Name y p) tv) (ha : PA X (e :: es) t)
    (he : starEach (e :: es) X.env = (false, eval e X.env) :: starEach es X.env := by rfl) (hpl : (backTo pos (starEach es X.env)).any (·.1) = false := by rfl) :
    PE X (.Call (.Name y p) (e :: es) [] pos) (tMakeV C sp dvs E tv t) := by
  obtain ⟨f, fd, ds, M, F, hm, hb, hd⟩ := M.ex
  refine ⟨fun pins s σ H Q I h => ?_⟩
  refine wpAny_Call_Name_kw (thn (hv.run pins s σ H _ I h) fun u s1 ⟨v, H1, I1, rv, ev, q⟩ => ?_)
  subst ev
  cases rv
  refine PySem.W.callWith_K (h₀ := X.base) I1.ok.mod.kin M.kp (thn (ha.run pos pins s1 σ H1 _ I1 q) fun us s2 ⟨vs, H2, I2, r, q2⟩ => ⟨I2.kIn, ?_⟩) he hpl
  exact run_makeS (E := E) M F hr hb hd (hx σ) I2 r q2
/-- a classmethod of C by the name m -/
structure CalCM (P : Program) (w : World) (K : PySem.W.Frag) (mg : Str → Option Value) (base : Heap) (k : Nat) (C : Addr) (m : Str) (ps : List Str) (sp : Sp) : Prop where
  ex : ∃ (mc : Value) (p g : Addr) (fd : FuncData), ClX.CRead K C mc ∧ ClX.CMet K C mc m p g ∧ FnOk P w K mg base (L2.CX P w) k g fd ps sp ∧ Binds K fd ps []
def tCMethS (C : Addr) (sp : Sp) (E : L2.St → XK) (ta : TE) (t : TA) : TE := fun σ H Q => ta σ H fun x H1 => x = .ref C ∧ t σ H1 fun vs H2 => sp (.ref C :: vs) H2 Q (E σ)
theorem pe_cm {pl : Sem Bool} (M : CalCM X.prog X.w X.K X.mg X.base k C m ps sp) (hx : ∀ σ, PassesAt (L2.CX X.prog X.w) X σ (E σ)) (hr : Room k X.A) (he : PE X o ta) (ha : PA X (e :: es) t)
    (hst : starEach (e :: es) X.env = (false, eval e X.env) :: starEach es X.env := by rfl) (hpl : (backTo pos (starEach es X.env)).any (·.1) = false := by rfl)
    (ht : eval (.Call (.Attribute o m apos) (e :: es) [] pos) X.env = (do
      let ov ← eval o X.env
      standAt apos.atName
      let (f, first) ← holding [ov] (getMethod ov m pl)
      callWith pos f first (backTo pos (starEach (e :: es) X.env)) (backToKw pos (keywordEach [] X.env))) := by rfl) :
    PE X (.Call (.Attribute o m apos) (e :: es) [] pos) (tCMethS C sp E ta t) := by
  obtain ⟨mc, pp, g, fd, r, c, F, b⟩ := M.ex
  refine ⟨fun pins s σ H Q I h => ?_⟩
  refine PySem.W.methodCall_KW (pl := pl) (thn (he.run pins s σ H _ I h) fun u s1 ⟨x, H1, I1, rx, ex, q⟩ => ?_) ht
  subst ex
  obtain rfl : u = Value.ref C := rx
  refine ClX.getmethcm_ok I1 r c fun s2 I2 => ?_
  refine ClX.callwith_cm I2 (ClX.base_none I1 (Nat.le_refl _)) c.fi (thn (ha.run pos _ s2 σ H1 _ I2 q) fun us s3 ⟨vs, H2, I3, rv, q2⟩ => ⟨⟨ClX.pin_at I3, I3.kIn⟩, ?_⟩) hst hpl
  have hl := F.len _ _ _ _ q2
  have r2 : Vals (V.ref C :: vs) (Value.ref C :: us) := .cons (show RelV (.ref C) (.ref C) from rfl) rv
  have bb := b s3 (Value.ref C :: us) I3.kIn (by rw [List.append_nil, ← r2.length]; exact hl)
  rw [List.append_nil] at bb
  have z : wpAny (model X.prog X.w) X.A (call (.ref s1.heap.objs.size) us) (EP X ((s1.heap.objs.size, PySem.W.methodObj (.ref g) (.ref C)) :: pins) σ Q) X.xe s3 := by
    refine wpAny_call (PySem.W.method_call (ClX.pin_at I3) (codeAny_mono (F.run X.A X.stack s3 H2 ⟨Value.ref C :: us, []⟩ (Value.ref C :: us) (V.ref C :: vs) Q (E σ) hr I3.env0 bb r2 q2) fun r s' hq => ?_))
    cases r with
    | error e => exact hx σ _ H2 s3 e s' I3 hq
    | ok fl =>
      cases fl with
      | ret u => exact I3.after hq
      | next => exact False.elim hq
      | brk => exact False.elim hq
      | cont => exact False.elim hq
  exact thn z fun _ _ y => ClX.unpinE y
end
end Bx

set_option Elab.async false
set_option linter.all false
set_option maxRecDepth 100000
set_option maxHeartbeats 4000000
namespace Fl
open PySem PySem.Spec PyProof.Rows L2
/-! ### what stands in a heap, as a list of places and objects -/
def Al (fs : List (Addr × HO)) (H : Hp) : Prop := ∀ a o, (a, o) ∈ fs → H a = some o
theorem Al.nil {H : Hp} : Al [] H := fun _ _ h => nomatch h
theorem Al.at {fs : List (Addr × HO)} {H : Hp} {a : Addr} {o : HO} (W : Al fs H) (h : (a, o) ∈ fs) : H a = some o := W a o h
theorem Al.same {fs : List (Addr × HO)} {H H' : Hp} (W : Al fs H) (s : Same H H') : Al fs H' := fun a o h => s a o (W a o h)
theorem Al.got {fs : List (Addr × HO)} {H : Hp} {a : Addr} {o : HO} (W : Al fs H) (h : H a = some o) : Al ((a, o) :: fs) H := fun b u hm => by
  rcases List.mem_cons.mp hm with e | e
  · cases e
    exact h
  · exact W b u e
theorem Al.new {fs : List (Addr × HO)} {H : Hp} {a : Addr} {o : HO} (W : Al fs H) (h : H a = none) : Al ((a, o) :: fs) (upd H a o) := (W.same (same_upd h)).got upd_same
structure Wd (p : Pla) (fs : List (Addr × HO)) (H : Hp) : Prop where
  P : Pool H p
  W : Al fs H
  n : ∀ a o, (a, o) ∈ fs → a ≠ p.p
theorem Wd.nil {p : Pla} {H : Hp} (h : Pool H p) : Wd p [] H := ⟨h, Al.nil, fun _ _ h => nomatch h⟩
theorem Wd.at {p : Pla} {fs : List (Addr × HO)} {H : Hp} {a : Addr} {o : HO} (W : Wd p fs H) (h : (a, o) ∈ fs) : H a = some o := W.W a o h
theorem Wd.same {p : Pla} {fs : List (Addr × HO)} {H H' : Hp} (W : Wd p fs H) (s : Same H H') : Wd p fs H' := ⟨W.P.same s, W.W.same s, W.n⟩
theorem Wd.keep {p : Pla} {fs : List (Addr × HO)} {H H' : Hp} (W : Wd p fs H) (hP : Pool H' p) (k : Keeps H H' p.p) : Wd p fs H' := ⟨hP, fun a o h => k a o (W.W a o h) (W.n a o h), W.n⟩
theorem Wd.got {p : Pla} {fs : List (Addr × HO)} {H : Hp} {a : Addr} {o : HO} (W : Wd p fs H) (h : H a = some o) (ne : ∀ xs, o ≠ .lst xs) : Wd p ((a, o) :: fs) H := ⟨W.P, W.W.got h, fun b u hm => by
  rcases List.mem_cons.mp hm with e | e
  · cases e
    obtain ⟨ns, i, b, c, d, h1, _⟩ := W.P
    exact ne_of h h1 (ne _)
  · exact W.n b u e⟩
theorem Wd.new {p : Pla} {fs : List (Addr × HO)} {H : Hp} {a : Addr} {o : HO} (W : Wd p fs H) (h : H a = none) : Wd p ((a, o) :: fs) (upd H a o) := ⟨W.P.upd h, W.W.new h, fun b u hm => by
  rcases List.mem_cons.mp hm with e | e
  · cases e
    exact (W.P.apart h).1
  · exact W.n b u e⟩
/-! ### tests whose answer is known -/
theorem itT {p : Prop} [Decidable p] {A B : Prop} (h : p) (a : A) : if decide p = true then A else B := by rw [decide_eq_true h]; exact iteT a
theorem itF {p : Prop} [Decidable p] {A B : Prop} (h : ¬ p) (b : B) : if decide p = true then A else B := by rw [decide_eq_false h]; exact iteF b
theorem niT {p : Prop} [Decidable p] {A B : Prop} (h : p) (b : B) : if (!decide p) = true then A else B := by rw [decide_eq_true h]; exact iteF b
theorem niF {p : Prop} [Decidable p] {A B : Prop} (h : ¬ p) (a : A) : if (!decide p) = true then A else B := by rw [decide_eq_false h]; exact iteT a
theorem ieT {a b : Int} {A B : Prop} (h : a = b) (x : A) : if decide (V.int a = V.int b) = true then A else B := itT (by rw [h]) x
theorem ieF {a b : Int} {A B : Prop} (h : a ≠ b) (x : B) : if decide (V.int a = V.int b) = true then A else B := itF (fun e => h (V.int.inj e)) x
theorem jeT {a b : Int} {A B : Prop} (h : a = b) (x : B) : if (!decide (V.int a = V.int b)) = true then A else B := niT (by rw [h]) x
theorem jeF {a b : Int} {A B : Prop} (h : a ≠ b) (x : A) : if (!decide (V.int a = V.int b)) = true then A else B := niF (fun e => h (V.int.inj e)) x
/-! ### values that are known -/
theorem vT {Q : VK} {H : Hp} {p : Prop} [Decidable p] (h : p) (q : Q (.bl true) H) : Q (.bl (decide p)) H := by rw [decide_eq_true h]; exact q
theorem vF {Q : VK} {H : Hp} {p : Prop} [Decidable p] (h : ¬ p) (q : Q (.bl false) H) : Q (.bl (decide p)) H := by rw [decide_eq_false h]; exact q
theorem veT {Q : VK} {H : Hp} {a b : Int} (h : a = b) (q : Q (.bl true) H) : Q (.bl (decide (V.int a = V.int b))) H := vT (by rw [h]) q
theorem veF {Q : VK} {H : Hp} {a b : Int} (h : a ≠ b) (q : Q (.bl false) H) : Q (.bl (decide (V.int a = V.int b))) H := vF (fun e => h (V.int.inj e)) q
/-! ### bounds -/
theorem ba {i j : Int} {a : Nat} (h1 : i.natAbs < 2 ^ a) (h2 : j.natAbs < 2 ^ a) : (i + j).natAbs < 2 ^ (a + 1) := by
  rw [Nat.pow_succ]
  generalize 2 ^ a = z at *
  omega
theorem bs {i j : Int} {a : Nat} (h1 : i.natAbs < 2 ^ a) (h2 : j.natAbs < 2 ^ a) : (i - j).natAbs < 2 ^ (a + 1) := by
  rw [Nat.pow_succ]
  generalize 2 ^ a = z at *
  omega
theorem bn {i : Int} {a : Nat} (h1 : i.natAbs < 2 ^ a) : (-i).natAbs < 2 ^ a := by
  rw [Int.natAbs_neg]
  exact h1
theorem ub {n : Int} {a b : Nat} (h : n.natAbs < 2 ^ a) (k : a ≤ b) : n.natAbs < 2 ^ b := Nat.lt_of_lt_of_le h (Nat.pow_le_pow_right (by decide) k)
end Fl
namespace Fl
open PySem PySem.Spec PyProof.Rows L2
theorem Al.drop {x : Addr × HO} {fs : List (Addr × HO)} {H : Hp} (W : Al (x :: fs) H) : Al fs H := fun a o h => W a o (List.mem_cons_of_mem _ h)
theorem Wd.drop {p : Pla} {x : Addr × HO} {fs : List (Addr × HO)} {H : Hp} (W : Wd p (x :: fs) H) : Wd p fs H := ⟨W.P, W.W.drop, fun a o h => W.n a o (List.mem_cons_of_mem _ h)⟩
end Fl

set_option Elab.async false
set_option linter.all false
set_option maxRecDepth 100000
set_option maxHeartbeats 4000000
namespace Bx
open PySem PySem.Spec PyProof.Rows L2 Fl
section
open PySem.W PySem.Calls
variable {prog : Program} {w : World} {A : Around} {E : Value → Shared → Prop} {s : Shared} {K : Frag} {x C L f dx : Addr} {h₀ : Heap} {m : Str → Option Value} {od : Option Obj} {ox : Obj} {b tb : Value}
open Builtin in
theorem obj_ne {Q : Value → Shared → Prop} (hu : A.in1.units < cLine) (X : K.In s.heap) (I : PySem.W.InstAt s.heap x ox C od) (hm : mroIn K C (.type "object") = some true) (hs : findIn K (.ref C) "__eq__" = some (some (.ref f))) (hf : isFn K (.ref f) = true)
    (h : wpAny (model prog w) A.in1 (call (.ref f) [.ref x, b]) (fun v s' => ∃ c, v = .bool c ∧ Q (.bool (!c)) s') E s) : wpAny (model prog w) A (call (.builtin "object.__ne__") [.ref x, b]) Q E s := by
  refine wpAny_call (codeAny_call_builtin PySem.F.slot_object_ne.plain PySem.F.entry_object_ne (check_slot (i := "object.__ne__") (owner := "object") (n := "__ne__") (by decide +kernel) (by decide +kernel) (I.type.andThen (looks_mroIn X hm)) (PySem.F.args_object_ne_2 _ _) ?_))
  unfold Builtin.«object.__ne__»
  refine wpAny_bind (m := slotArgs "__ne__" 1 _) (wpAny_pure ?_)
  refine wpAny_bind (m := cRoomFor _ _) (wpAny_cRoomFor hu ?_)
  refine wpAny_bind (m := callSpecialIfBound? (.ref x) (Str.ofString "__eq__") _) (ifBound_K X I hs hf (wpAny_mono h (fun r s' hq => ?_) fun _ _ y => y))
  obtain ⟨c, rfl, hq⟩ := hq
  exact wpAny_bind (m := truthy (.bool _)) (wpAny_truthy_bool (wpAny_pure hq))
theorem try_ne {Q : Value → Shared → Prop} (hu : A.in1.units < cLine) (X : K.In s.heap) (I : PySem.W.InstAt s.heap x ox C od) (hm : mroIn K C (.type "object") = some true) (hN : findIn K (.ref C) "__ne__" = some (some (.builtin "object.__ne__"))) (hs : findIn K (.ref C) "__eq__" = some (some (.ref f))) (hf : isFn K (.ref f) = true)
    (h : wpAny (model prog w) A.in1 (call (.ref f) [.ref x, b]) (fun v s' => ∃ c, v = .bool c ∧ Q (.bool (!c)) s') E s) : wpAny (model prog w) A (tryCompare (.ref x) "__ne__" b) (fun r s' => ∃ v, r = some v ∧ Q v s') E s := by
  have fin : wpAny (model prog w) A (call (.builtin "object.__ne__") [.ref x, b] >>= fun v => pure (some v)) (fun r s' => ∃ c, r = some (.bool c) ∧ Q (.bool c) s') E s :=
    wpAny_bind (wpAny_mono (obj_ne (Q := fun v s' => ∃ c, v = .bool c ∧ Q (.bool c) s') hu X I hm hs hf (wpAny_mono h (fun v s' ⟨c, e, q⟩ => ⟨c, e, _, rfl, q⟩) fun _ _ e => e)) (fun v s' ⟨c, e, q⟩ => wpAny_pure ⟨c, by rw [e], q⟩) fun _ _ e => e)
  unfold tryCompare
  refine wpAny_bind (wpAny_mono (Q := fun r s' => ∃ c, r = some (.bool c) ∧ Q (.bool c) s') ?_ (fun r s' ⟨c, e, q⟩ => ?_) fun _ _ e => e)
  · simp only [callSpecialIfBound?, bindSpecialIfBound?]
    refine wpAny_holding (wpAny_bind (wpAny_bind (wpAny_bind (I.type.here ((looks_findIn X hN).here ?_)))))
    refine wpAny_bind (wpAny_askSetting (wpAny_ite ?_))
    split
    · exact wpAny_bind ((Looks.of_pure (PySem.F.slot_object_ne.bind _)).here (wpAny_pure (by exact fin)))
    · exact wpAny_tryCatch (wpAny_bind ((Looks.of_pure (PySem.F.slot_object_ne.bind _)).here (wpAny_pure (by exact fin))))
  · subst e
    exact wpAny_pure ⟨_, rfl, q⟩
theorem ne_K {Q : Value → Shared → Prop} (hu : A.in1.units < cLine) (hu0 : A.units < cLine) (F : Fr h₀ L s.heap m) (X₀ : K.In h₀) (I : PySem.W.InstAt s.heap x ox C od) (hb : Looks (model prog w) s.heap (typeOf b) tb) (hn : notFirst K C tb = true) (hm : mroIn K C (.type "object") = some true)
    (hN : findIn K (.ref C) "__ne__" = some (some (.builtin "object.__ne__"))) (hs : findIn K (.ref C) "__eq__" = some (some (.ref f))) (hf : isFn K (.ref f) = true)
    (h : wpAny (model prog w) A.in1 (call (.ref f) [.ref x, b]) (fun v s' => ∃ c, v = .bool c ∧ Q (.bool (!c)) s') E s) : wpAny (model prog w) A (richCompare .NotEq (.ref x) b) Q E s := by
  have X := X₀.keeps F.keep
  have one := try_ne (Q := Q) hu X I hm hN hs hf h
  unfold richCompare
  simp only [oneThing_ref]
  refine wpAny_holding (wpAny_bind (wpAny_cRoomFor hu0 ?_))
  refine wpAny_bind (I.type.here (wpAny_bind (hb.here ?_)))
  unfold notFirst at hn
  by_cases hne : (Value.ref C != tb) = true
  · simp only [hne, if_true]
    by_cases h0 : subIn K tb (.ref C) = some false
    · refine wpAny_bind ((looks_subIn X h0).here ?_)
      simp only [Bool.false_eq_true, if_false]
      refine wpAny_bind (wpAny_mono one (fun r s' hr' => ?_) fun _ _ e => e)
      obtain ⟨v, rfl, hq⟩ := hr'
      exact wpAny_pure hq
    · exfalso
      have e : (tb == Value.ref C) = false := by
        rw [beq_eq_false_iff_ne]
        intro q
        rw [q] at hne
        simp at hne
      simp [e, h0] at hn
  · simp only [hne, Bool.false_eq_true, if_false]
    refine wpAny_bind (wpAny_pure ?_)
    simp only [Bool.false_eq_true, if_false]
    refine wpAny_bind (wpAny_mono one (fun r s' hr' => ?_) fun _ _ e => e)
    obtain ⟨v, rfl, hq⟩ := hr'
    exact wpAny_pure hq
theorem ne_refl {n : Int} {t : Tok} {Q : Value → Shared → Prop} (hu : A.in1.units < cLine) (hu0 : A.units < cLine) (F : Fr h₀ L s.heap m) (X₀ : K.In h₀) (I : PySem.W.InstAt s.heap x (PySem.W.instObj C dx) C od) (hm : mroIn K C (.type "object") = some true)
    (hN : findIn K (.ref C) "__ne__" = some (some (.builtin "object.__ne__"))) (hs : findIn K (.ref C) "__eq__" = some (some (.ref f))) (hf : isFn K (.ref f) = true) (hsub : subIn K (.ref C) (.type "int") = some false)
    (h : wpAny (model prog w) A.in1 (call (.ref f) [.ref x, .int n t]) (fun v s' => ∃ c, v = .bool c ∧ Q (.bool (!c)) s') E s) : wpAny (model prog w) A (richCompare .NotEq (.int n t) (.ref x)) Q E s := by
  have X := X₀.keeps F.keep
  have one := try_ne (Q := Q) hu X I hm hN hs hf h
  have ot : oneThing? .NotEq (.int n t) (.ref x) = none := rfl
  unfold richCompare
  simp only [ot]
  refine wpAny_holding (wpAny_bind (wpAny_cRoomFor hu0 ?_))
  refine wpAny_bind (wpAny_typeOf (typeIs_int s n t) (wpAny_bind (I.type.here ?_)))
  have hne : (Value.type "int" != Value.ref C) = true := by
    rw [bne_iff_ne]
    intro q
    cases q
  simp only [hne, if_true]
  refine wpAny_bind ((looks_subIn X hsub).here ?_)
  simp only [Bool.false_eq_true, if_false, Bool.not_false, if_true]
  refine wpAny_bind (wpAny_tryCompare_declines (typeIs_int s n t) PySem.F.slot_int_ne (call_meets PySem.F.slot_int_ne (typeIs_int s n t) PySem.F.entry_int_ne (PySem.F.args_int_ne_2 _ _) (int_ne_own n t x C dx) ⟨I.at_, ?_⟩))
  refine ⟨rfl, ?_⟩
  refine wpAny_bind (wpAny_mono one (fun r s' hr' => ?_) fun _ _ e => e)
  obtain ⟨v, rfl, hq⟩ := hr'
  exact wpAny_pure hq
end
end Bx

set_option Elab.async false
set_option linter.all false
set_option maxRecDepth 100000
set_option maxHeartbeats 4000000
namespace Bx
open PySem PySem.Spec PyProof.Rows L2 Fl
section
open PySem.W PySem.Calls
variable {prog : Program} {w : World} {A : Around} {E : Value → Shared → Prop} {s : Shared}
theorem bool_in (x : Value) : MeetsIn prog w (Builtin.«bool.__new__» ⟨[.type "bool", x], []⟩) (fun A R s => wpAny (model prog w) A.in1 (truthy x) (fun c s' => R (.ok (.ret (.bool c))) s') (fun e s' => R (.error e) s') s) :=
  .of_wp fun A R s h => by
    have f1 := F.conv_sub_bool
    obtain ⟨hp, g, d, tk, os⟩ := s
    repeat (any_goals (first | assumption | (with_reducible refine wpAny_mono h (fun c s' q => ?_) fun _ _ z => z) | wp_step))
    all_goals first | exact ⟨_, rfl, q⟩ | exact q | skip
theorem call_bool_own {x : Value} {Q : Value → Shared → Prop} (h : wpAny (model prog w) A.in1.in1 (truthy x) (fun c s' => Q (.bool c) s') E s) : wpAny (model prog w) A (call (.type "bool") [x]) Q E s :=
  callType_newIn F.called_bool F.newNe_bool (F.typeCall_bool_1 x) (F.newCall_bool_1 x) (fun obj => F.args_object_init_2 obj x) F.entry_bool_new (bool_in x) (wpAny_mono h (fun c s' q => ⟨rfl, q⟩) fun _ _ z => z)
end
end Bx
namespace Bx
open PySem PySem.Spec PyProof.Rows L2 Fl
section
variable {X : Cx} {k : Nat} {C : Addr} {ps : List Str} {sp : Sp}
/-- a def of one's own run one frame in -/
theorem run_in1 {pins : List (Addr × Obj)} {s : Shared} {σ : L2.St} {H : Hp} {f : Addr} {fd : FuncData} {us : List Value} {vs : List V} {Q : VK} (F : FnOk X.prog X.w X.K X.mg X.base CX0 k f fd ps sp) (bd : Binds X.K fd ps []) (hr : Room (k + 1) X.A) (I : Inv X pins σ H s) (r : Vals vs us) (q : sp vs H Q E0) :
    wpAny (model X.prog X.w) X.A.in1 (call (.ref f) us) (EP X pins σ Q) X.xe s := by
  have hl := F.len _ _ _ _ q
  have bb := bd s us I.kIn (by rw [List.append_nil]; rw [← r.length]; exact hl)
  rw [List.append_nil] at bb
  refine wpAny_call (codeAny_mono (F.run X.A.in1 X.stack s H ⟨us, []⟩ us vs Q E0 hr.in1 I.env0.in1 bb r q) fun r s' hq => ?_)
  cases r with
  | error e => exact pass0 pins σ H s e s' I hq
  | ok fl =>
    cases fl with
    | ret z => exact I.after hq
    | next => exact False.elim hq
    | brk => exact False.elim hq
    | cont => exact False.elim hq
theorem run_in2 {pins : List (Addr × Obj)} {s : Shared} {σ : L2.St} {H : Hp} {f : Addr} {fd : FuncData} {us : List Value} {vs : List V} {Q : VK} (F : FnOk X.prog X.w X.K X.mg X.base CX0 k f fd ps sp) (bd : Binds X.K fd ps []) (hr : Room (k + 2) X.A) (I : Inv X pins σ H s) (r : Vals vs us) (q : sp vs H Q E0) :
    wpAny (model X.prog X.w) X.A.in1.in1 (call (.ref f) us) (EP X pins σ Q) X.xe s := by
  have hl := F.len _ _ _ _ q
  have bb := bd s us I.kIn (by rw [List.append_nil]; rw [← r.length]; exact hl)
  rw [List.append_nil] at bb
  refine wpAny_call (codeAny_mono (F.run X.A.in1.in1 X.stack s H ⟨us, []⟩ us vs Q E0 hr.in1.in1 I.env0.in1.in1 bb r q) fun r s' hq => ?_)
  cases r with
  | error e => exact pass0 pins σ H s e s' I hq
  | ok fl =>
    cases fl with
    | ret z => exact I.after hq
    | next => exact False.elim hq
    | brk => exact False.elim hq
    | cont => exact False.elim hq
def oN (Q : VK) : VK := fun v H2 => ∃ c, v = .bl c ∧ Q (.bl (!c)) H2
theorem backN {pins : List (Addr × Obj)} {σ : L2.St} {Q : VK} {r : Value} {s' : Shared} (h : EP X pins σ (oN Q) r s') : ∃ c, r = .bool c ∧ EP X pins σ Q (.bool (!c)) s' := by
  obtain ⟨z, H2, I2, rz, c, rfl, q2⟩ := h
  cases rz
  exact ⟨c, rfl, V.bl (!c), H2, I2, rfl, q2⟩
structure NeC (K : PySem.W.Frag) (C : Addr) : Prop where
  hm : PySem.W.mroIn K C (.type "object") = some true
  hN : PySem.W.findIn K (.ref C) "__ne__" = some (some (.builtin "object.__ne__"))
  si : PySem.W.subIn K (.type "int") (.ref C) = some false
  sc : PySem.W.subIn K (.ref C) (.type "int") = some false
def nOX (C : Addr) (sp : Sp) : R2 := fun x y H Q => ∃ (a dx : Addr) (gs : List (Str × V)), x = .ref a ∧ H a = some (.ins C dx gs) ∧ ((∃ n : Int, y = .int n) ∨ ∃ (b dy : Addr) (hs : List (Str × V)), y = .ref b ∧ H b = some (.ins C dy hs)) ∧ sp [.ref a, y] H (oN Q) E0
def nIO (C : Addr) (sp : Sp) : R2 := fun x y H Q => ∃ (a dx : Addr) (gs : List (Str × V)) (n : Int), y = .ref a ∧ H a = some (.ins C dx gs) ∧ x = .int n ∧ sp [.ref a, .int n] H (oN Q) E0
theorem op_ne_ox (N : NeC X.K C) (M : OpOwn X.prog X.w X.K X.mg X.base k C "__eq__" ps sp) (hr : Room (k + 1) X.A) : OpR X (compareOp .NotEq) (nOX C sp) := by
  obtain ⟨f, fd, hs, hf, F, b⟩ := M.ex
  intro pins s σ H x y v u Q I rx ry h
  obtain ⟨a, dx, gs, rfl, ea, hy, q⟩ := h
  cases rx
  obtain ⟨mA, J, _⟩ := ins_get I.hok ea
  obtain ⟨od, J, _⟩ := J.look
  obtain ⟨m, hF⟩ := I.fr
  have run := run_in1 F b hr I (.cons (show RelV (.ref a) (.ref a) from rfl) (.cons ry .nil)) q
  have fin := wpAny_mono run (fun r s' z => backN z) fun _ _ z => z
  rcases hy with ⟨n, rfl⟩ | ⟨b', dy, gs', rfl, eb⟩
  · obtain ⟨t, rfl⟩ := ry
    exact ne_K (tb := .type "int") hr.in1.units0 hr.units0 hF I.ok.mod.kin J (PySem.W.Looks.of_pure rfl) (by unfold PySem.W.notFirst; rw [N.si]; simp) N.hm N.hN hs hf fin
  · cases ry
    obtain ⟨mB, J', _⟩ := ins_get I.hok eb
    obtain ⟨od', J', _⟩ := J'.look
    exact ne_K hr.in1.units0 hr.units0 hF I.ok.mod.kin J J'.type (by unfold PySem.W.notFirst; simp) N.hm N.hN hs hf fin
theorem op_ne_io (N : NeC X.K C) (M : OpOwn X.prog X.w X.K X.mg X.base k C "__eq__" ps sp) (hr : Room (k + 1) X.A) : OpR X (compareOp .NotEq) (nIO C sp) := by
  obtain ⟨f, fd, hs, hf, F, b⟩ := M.ex
  intro pins s σ H x y v u Q I rx ry h
  obtain ⟨a, dx, gs, n, rfl, ea, rfl, q⟩ := h
  cases ry
  obtain ⟨t, rfl⟩ := rx
  obtain ⟨mA, J, _⟩ := ins_get I.hok ea
  obtain ⟨od, J, _⟩ := J.look
  obtain ⟨m, hF⟩ := I.fr
  have run := run_in1 F b hr I (.cons (show RelV (.ref a) (.ref a) from rfl) (.cons (show RelV (.int n) (.int n t) from ⟨_, rfl⟩) .nil)) q
  exact ne_refl hr.in1.units0 hr.units0 hF I.ok.mod.kin J N.hm N.hN hs hf N.sc (wpAny_mono run (fun r s' z => backN z) fun _ _ z => z)
/-- own == y, y of a built-in type -/
def cOX (K : PySem.W.Frag) (C : Addr) (sp : Sp) : R2 := fun x y H Q => ∃ (a dx : Addr) (gs : List (Str × V)) (T : String), x = .ref a ∧ H a = some (.ins C dx gs) ∧ TyX K H y (.type T) ∧ PySem.W.subIn K (.type T) (.ref C) = some false ∧ sp [.ref a, y] H (oB Q) E0
theorem cmp_ox (M : OpOwn X.prog X.w X.K X.mg X.base k C "__eq__" ps sp) (hr : Room (k + 1) X.A) : OpR X (compareOp .Eq) (cOX X.K C sp) := by
  obtain ⟨f, fd, hs, hf, F, b⟩ := M.ex
  intro pins s σ H x y v u Q I rx ry h
  obtain ⟨a, dx, gs, T, rfl, ea, ty, hsub, q⟩ := h
  cases rx
  obtain ⟨mA, J, _⟩ := ins_get I.hok ea
  obtain ⟨od, J, _⟩ := J.look
  obtain ⟨m, hF⟩ := I.fr
  obtain ⟨P, kx, hp, _⟩ := kit_of I ry ty
  refine PySem.W.cmp_K (op := .Eq) hr.units0 hF I.ok.mod.kin J (kx.ty _ _ I.kIn hp) (by unfold PySem.W.notFirst; rw [hsub]; simp) hs hf ?_
  exact wpAny_mono (run_fn F (hr.mono (Nat.le_succ _)) b (dvs := []) .nil pass0 I (.cons (show RelV (.ref a) (.ref a) from rfl) (.cons ry .nil)) q) (fun r s' hr => backB hr) fun _ _ z => z
def rBoolO (C : Addr) (sp : Sp) : List V → Hp → VK → Prop := fun xs H Q => ∃ (a dx : Addr) (gs : List (Str × V)), xs = [.ref a] ∧ H a = some (.ins C dx gs) ∧ sp [.ref a] H (oB Q) E0
theorem call_boolO (M : OpOwn X.prog X.w X.K X.mg X.base k C "__bool__" ps sp) (hr : Room (k + 2) X.A) : CallR X (.type "bool") (rBoolO C sp) := by
  obtain ⟨f, fd, hs, hf, F, b⟩ := M.ex
  intro pins s σ H xs us Q I r h
  obtain ⟨a, dx, gs, rfl, ea, q⟩ := h
  obtain ⟨u, rfl, rx⟩ := vals1 r
  cases rx
  obtain ⟨mA, J, _⟩ := ins_get I.hok ea
  obtain ⟨od, J, _⟩ := J.look
  obtain ⟨m, hF⟩ := I.fr
  refine call_bool_own (PySem.W.truthy_K hF I.ok.mod.kin J hs hf (wpAny_mono (run_in2 F b hr I r q) (fun v s' hv => ?_) fun _ _ z => z))
  obtain ⟨z, H2, I2, rz, c, rfl, q2⟩ := hv
  cases rz
  exact ⟨V.bl c, H2, I2, rfl, q2⟩
def oS (Q : VK) : VK := fun v H2 => ∃ z, v = .str z ∧ Q (.str z) H2
def rStrO (C : Addr) (sp : Sp) : List V → Hp → VK → Prop := fun xs H Q => ∃ (a dx : Addr) (gs : List (Str × V)), xs = [.ref a] ∧ H a = some (.ins C dx gs) ∧ sp [.ref a] H (oS Q) E0
theorem call_strO (M : OpOwn X.prog X.w X.K X.mg X.base k C "__str__" ps sp) (hr : Room (k + 2) X.A) : CallR X (.type "str") (rStrO C sp) := by
  obtain ⟨f, fd, hs, hf, F, b⟩ := M.ex
  intro pins s σ H xs us Q I r h
  obtain ⟨a, dx, gs, rfl, ea, q⟩ := h
  obtain ⟨u, rfl, rx⟩ := vals1 r
  cases rx
  obtain ⟨mA, J, _⟩ := ins_get I.hok ea
  obtain ⟨od, J, _⟩ := J.look
  refine PySem.W.kso_call hr.in1.in1.units0 I.kIn J hs hf (wpAny_mono (run_in2 F b hr I r q) (fun v s' hv => ?_) fun _ _ z => z)
  obtain ⟨z, H2, I2, rz, c, rfl, q2⟩ := hv
  obtain ⟨t, rfl⟩ := rz
  exact ⟨V.str c, H2, I2, ⟨t, rfl⟩, q2⟩
def CPowW (i j : Int) : Prop := 0 ≤ j ∧ (Builtin.Int.intBits i : Int) * j ≤ 2 ^ 27
theorem op_powW : OpR X (binaryOp .Pow) (rI CPowW fun i j => .int (i ^ j.toNat)) := opI fun _ _ _ _ _ _ _ hc q => PyProof.Rows.pow_int hc.1 hc.2 q
end
end Bx

set_option Elab.async false
set_option linter.all false
set_option maxRecDepth 100000
set_option maxHeartbeats 4000000
set_option pp.maxSteps 160
set_option pp.deepTerms false
namespace L
open PySem PySem.Spec PyProof.Rows L2 Fl
local macro_rules | `(tactic| walk_at "side") => `(tactic| first | (exact .inl ⟨by omega, by omega⟩) | (exact .inr ⟨by omega, by omega⟩) | (exact .inr ⟨by decide, by decide⟩) | (show (_ : Int) ≠ _; omega) | (exact ⟨by omega, by decide⟩) | (exact ⟨by decide, by decide, by decide⟩))
local macro_rules | `(tactic| walk_at "go") => `(tactic| repeat (first | refine ⟨_, rfl, ?_⟩ | refine ⟨_, _, rfl, rfl, ?_⟩ | refine .inl ⟨_, rfl, ?_⟩ | refine ⟨rfl, ?_⟩ | refine ⟨(by walk_at "side"), ?_⟩))
local macro_rules | `(tactic| walk_at "see") => `(tactic| (set_option pp.maxSteps 110 in set_option pp.deepTerms false in trace_state))
local macro_rules | `(tactic| walk_at "if") => `(tactic| first | refine ifE ?_ ?_ | refine ifNE ?_ ?_ | refine ifD ?_ ?_ | refine ifN ?_ ?_ | refine ifB ?_ ?_)
def topS (i : Nat) : Stmt := PySem.Challenge.pw_fieldlots_k04_ratio_order.main.body.getD i (.Pass ⟨0, 0, 0, 0⟩)
abbrev s_wall : Stmt := topS 1
theorem sc_wall : FnScope ["k"] ["k"] (defScope s_wall) := ⟨rfl, rfl, rfl, by decide +kernel, rfl, by decide +kernel, by decide +kernel⟩
abbrev s_BadNumber_init : Stmt := inClass (topS 5) 0
theorem sc_BadNumber_init : FnScope ["self", "name", "value"] ["self", "name", "value"] (defScope s_BadNumber_init) := ⟨rfl, rfl, rfl, by decide +kernel, rfl, by decide +kernel, by decide +kernel⟩
abbrev s_is_number : Stmt := topS 8
theorem sc_is_number : FnScope ["value"] ["value"] (defScope s_is_number) := ⟨rfl, rfl, rfl, by decide +kernel, rfl, by decide +kernel, by decide +kernel⟩
abbrev s_as_ratio : Stmt := topS 9
theorem sc_as_ratio : FnScope ["number"] ["number"] (defScope s_as_ratio) := ⟨rfl, rfl, rfl, by decide +kernel, rfl, by decide +kernel, by decide +kernel⟩
abbrev s_top_of : Stmt := topS 10
theorem sc_top_of : FnScope ["number"] ["number"] (defScope s_top_of) := ⟨rfl, rfl, rfl, by decide +kernel, rfl, by decide +kernel, by decide +kernel⟩
abbrev s_under_of : Stmt := topS 11
theorem sc_under_of : FnScope ["number"] ["number"] (defScope s_under_of) := ⟨rfl, rfl, rfl, by decide +kernel, rfl, by decide +kernel, by decide +kernel⟩
abbrev s_rounded_quotient : Stmt := topS 12
theorem sc_rounded_quotient : FnScope ["number", "divisor", "under"] ["number", "divisor"] (defScope s_rounded_quotient) := ⟨rfl, rfl, rfl, by decide +kernel, rfl, by decide +kernel, by decide +kernel⟩
abbrev s_remainder : Stmt := topS 13
theorem sc_remainder : FnScope ["number", "divisor"] ["number", "divisor"] (defScope s_remainder) := ⟨rfl, rfl, rfl, by decide +kernel, rfl, by decide +kernel, by decide +kernel⟩
abbrev s_Ratio_init : Stmt := inClass (topS 14) 0
theorem sc_Ratio_init : FnScope ["self", "top", "under", "shared"] ["self", "top", "under"] (defScope s_Ratio_init) := ⟨rfl, rfl, rfl, by decide +kernel, rfl, by decide +kernel, by decide +kernel⟩
abbrev s_Ratio_whole : Stmt := inClass (topS 14) 1
theorem sc_Ratio_whole : FnScope ["self"] ["self"] (defScope s_Ratio_whole) := ⟨rfl, rfl, rfl, by decide +kernel, rfl, by decide +kernel, by decide +kernel⟩
abbrev s_Ratio_floor : Stmt := inClass (topS 14) 2
theorem sc_Ratio_floor : FnScope ["self"] ["self"] (defScope s_Ratio_floor) := ⟨rfl, rfl, rfl, by decide +kernel, rfl, by decide +kernel, by decide +kernel⟩
abbrev s_Ratio_ceiling : Stmt := inClass (topS 14) 3
theorem sc_Ratio_ceiling : FnScope ["self"] ["self"] (defScope s_Ratio_ceiling) := ⟨rfl, rfl, rfl, by decide +kernel, rfl, by decide +kernel, by decide +kernel⟩
abbrev s_Ratio_over : Stmt := inClass (topS 14) 4
theorem sc_Ratio_over : FnScope ["self", "number"] ["self", "number"] (defScope s_Ratio_over) := ⟨rfl, rfl, rfl, by decide +kernel, rfl, by decide +kernel, by decide +kernel⟩
abbrev s_Ratio_power : Stmt := inClass (topS 14) 5
theorem sc_Ratio_power : FnScope ["self", "n", "top", "under", "_"] ["self", "n"] (defScope s_Ratio_power) := ⟨rfl, rfl, rfl, by decide +kernel, rfl, by decide +kernel, by decide +kernel⟩
abbrev s_Ratio_str : Stmt := inClass (topS 14) 6
theorem sc_Ratio_str : FnScope ["self"] ["self"] (defScope s_Ratio_str) := ⟨rfl, rfl, rfl, by decide +kernel, rfl, by decide +kernel, by decide +kernel⟩
abbrev s_Ratio_bool : Stmt := inClass (topS 14) 7
theorem sc_Ratio_bool : FnScope ["self"] ["self"] (defScope s_Ratio_bool) := ⟨rfl, rfl, rfl, by decide +kernel, rfl, by decide +kernel, by decide +kernel⟩
abbrev s_Ratio_neg : Stmt := inClass (topS 14) 8
theorem sc_Ratio_neg : FnScope ["self"] ["self"] (defScope s_Ratio_neg) := ⟨rfl, rfl, rfl, by decide +kernel, rfl, by decide +kernel, by decide +kernel⟩
abbrev s_Ratio_abs : Stmt := inClass (topS 14) 9
theorem sc_Ratio_abs : FnScope ["self"] ["self"] (defScope s_Ratio_abs) := ⟨rfl, rfl, rfl, by decide +kernel, rfl, by decide +kernel, by decide +kernel⟩
abbrev s_Ratio_add : Stmt := inClass (topS 14) 10
theorem sc_Ratio_add : FnScope ["self", "other", "top"] ["self", "other"] (defScope s_Ratio_add) := ⟨rfl, rfl, rfl, by decide +kernel, rfl, by decide +kernel, by decide +kernel⟩
abbrev s_Ratio_radd : Stmt := inClass (topS 14) 11
theorem sc_Ratio_radd : FnScope ["self", "other"] ["self", "other"] (defScope s_Ratio_radd) := ⟨rfl, rfl, rfl, by decide +kernel, rfl, by decide +kernel, by decide +kernel⟩
abbrev s_Ratio_sub : Stmt := inClass (topS 14) 12
theorem sc_Ratio_sub : FnScope ["self", "other", "top"] ["self", "other"] (defScope s_Ratio_sub) := ⟨rfl, rfl, rfl, by decide +kernel, rfl, by decide +kernel, by decide +kernel⟩
abbrev s_Ratio_rsub : Stmt := inClass (topS 14) 13
theorem sc_Ratio_rsub : FnScope ["self", "other"] ["self", "other"] (defScope s_Ratio_rsub) := ⟨rfl, rfl, rfl, by decide +kernel, rfl, by decide +kernel, by decide +kernel⟩
abbrev s_Ratio_mul : Stmt := inClass (topS 14) 14
theorem sc_Ratio_mul : FnScope ["self", "other"] ["self", "other"] (defScope s_Ratio_mul) := ⟨rfl, rfl, rfl, by decide +kernel, rfl, by decide +kernel, by decide +kernel⟩
abbrev s_Ratio_rmul : Stmt := inClass (topS 14) 15
theorem sc_Ratio_rmul : FnScope ["self", "other"] ["self", "other"] (defScope s_Ratio_rmul) := ⟨rfl, rfl, rfl, by decide +kernel, rfl, by decide +kernel, by decide +kernel⟩
abbrev s_Ratio_floordiv : Stmt := inClass (topS 14) 16
theorem sc_Ratio_floordiv : FnScope ["self", "other"] ["self", "other"] (defScope s_Ratio_floordiv) := ⟨rfl, rfl, rfl, by decide +kernel, rfl, by decide +kernel, by decide +kernel⟩
abbrev s_Ratio_rfloordiv : Stmt := inClass (topS 14) 17
theorem sc_Ratio_rfloordiv : FnScope ["self", "other"] ["self", "other"] (defScope s_Ratio_rfloordiv) := ⟨rfl, rfl, rfl, by decide +kernel, rfl, by decide +kernel, by decide +kernel⟩
abbrev s_Ratio_mod : Stmt := inClass (topS 14) 18
theorem sc_Ratio_mod : FnScope ["self", "other"] ["self", "other"] (defScope s_Ratio_mod) := ⟨rfl, rfl, rfl, by decide +kernel, rfl, by decide +kernel, by decide +kernel⟩
abbrev s_Ratio_rmod : Stmt := inClass (topS 14) 19
theorem sc_Ratio_rmod : FnScope ["self", "other"] ["self", "other"] (defScope s_Ratio_rmod) := ⟨rfl, rfl, rfl, by decide +kernel, rfl, by decide +kernel, by decide +kernel⟩
abbrev s_Ratio_pow : Stmt := inClass (topS 14) 20
theorem sc_Ratio_pow : FnScope ["self", "other"] ["self", "other"] (defScope s_Ratio_pow) := ⟨rfl, rfl, rfl, by decide +kernel, rfl, by decide +kernel, by decide +kernel⟩
abbrev s_Ratio_eq : Stmt := inClass (topS 14) 21
theorem sc_Ratio_eq : FnScope ["self", "other"] ["self", "other"] (defScope s_Ratio_eq) := ⟨rfl, rfl, rfl, by decide +kernel, rfl, by decide +kernel, by decide +kernel⟩
abbrev s_Ratio_lt : Stmt := inClass (topS 14) 22
theorem sc_Ratio_lt : FnScope ["self", "other"] ["self", "other"] (defScope s_Ratio_lt) := ⟨rfl, rfl, rfl, by decide +kernel, rfl, by decide +kernel, by decide +kernel⟩
abbrev s_Ratio_le : Stmt := inClass (topS 14) 23
theorem sc_Ratio_le : FnScope ["self", "other"] ["self", "other"] (defScope s_Ratio_le) := ⟨rfl, rfl, rfl, by decide +kernel, rfl, by decide +kernel, by decide +kernel⟩
abbrev s_Ratio_gt : Stmt := inClass (topS 14) 24
theorem sc_Ratio_gt : FnScope ["self", "other"] ["self", "other"] (defScope s_Ratio_gt) := ⟨rfl, rfl, rfl, by decide +kernel, rfl, by decide +kernel, by decide +kernel⟩
abbrev s_Ratio_ge : Stmt := inClass (topS 14) 25
theorem sc_Ratio_ge : FnScope ["self", "other"] ["self", "other"] (defScope s_Ratio_ge) := ⟨rfl, rfl, rfl, by decide +kernel, rfl, by decide +kernel, by decide +kernel⟩
abbrev s_pool : Stmt := topS 16
theorem sc_pool : FnScope ["_law_script", "_law_cell"] ["_law_script"] (defScope s_pool) := ⟨rfl, rfl, rfl, by decide +kernel, rfl, by decide +kernel, by decide +kernel⟩
abbrev s_mix : Stmt := topS 17
theorem sc_mix : FnScope ["_law_state", "_law_turn", "_law_many", "_law_first", "_law_second"] ["_law_state", "_law_turn", "_law_many"] (defScope s_mix) := ⟨rfl, rfl, rfl, by decide +kernel, rfl, by decide +kernel, by decide +kernel⟩
abbrev s_draw : Stmt := topS 18
theorem sc_draw : FnScope ["_law_pool_here", "_law_many", "_law_spare", "_law_found", "_law_cell"] ["_law_pool_here", "_law_many"] (defScope s_draw) := ⟨rfl, rfl, rfl, by decide +kernel, rfl, by decide +kernel, by decide +kernel⟩
abbrev s_wide : Stmt := topS 19
theorem sc_wide : FnScope ["_law_pool_here", "_law_size", "_law_many", "_law_found", "_law_spare"] ["_law_pool_here"] (defScope s_wide) := ⟨rfl, rfl, rfl, by decide +kernel, rfl, by decide +kernel, by decide +kernel⟩
abbrev s_any : Stmt := topS 20
theorem sc_any : FnScope ["_law_pool_here", "_law_cell"] ["_law_pool_here"] (defScope s_any) := ⟨rfl, rfl, rfl, by decide +kernel, rfl, by decide +kernel, by decide +kernel⟩
abbrev s_either : Stmt := topS 21
theorem sc_either : FnScope ["_law_pool_here", "_law_found"] ["_law_pool_here"] (defScope s_either) := ⟨rfl, rfl, rfl, by decide +kernel, rfl, by decide +kernel, by decide +kernel⟩
abbrev s_gcd : Stmt := topS 22
theorem sc_gcd : FnScope ["_law_one", "_law_other", "_law_spare"] ["_law_one", "_law_other"] (defScope s_gcd) := ⟨rfl, rfl, rfl, by decide +kernel, rfl, by decide +kernel, by decide +kernel⟩
abbrev s_whole : Stmt := topS 23
theorem sc_whole : FnScope ["_law_actual"] ["_law_actual"] (defScope s_whole) := ⟨rfl, rfl, rfl, by decide +kernel, rfl, by decide +kernel, by decide +kernel⟩
abbrev s_ratio : Stmt := topS 24
theorem sc_ratio : FnScope ["_law_actual"] ["_law_actual"] (defScope s_ratio) := ⟨rfl, rfl, rfl, by decide +kernel, rfl, by decide +kernel, by decide +kernel⟩
abbrev s_exact : Stmt := topS 25
theorem sc_exact : FnScope ["_law_actual", "_law_top", "_law_under"] ["_law_actual", "_law_top", "_law_under"] (defScope s_exact) := ⟨rfl, rfl, rfl, by decide +kernel, rfl, by decide +kernel, by decide +kernel⟩
abbrev s_signs : Stmt := topS 26
theorem sc_signs : FnScope ["_law_x", "_law_y", "_law_gap", "_law_answers", "_law_due", "_law_index"] ["_law_x", "_law_y", "_law_gap"] (defScope s_signs) := ⟨rfl, rfl, rfl, by decide +kernel, rfl, by decide +kernel, by decide +kernel⟩
abbrev s_written : Stmt := topS 27
theorem sc_written : FnScope ["_law_a", "_law_at", "_law_au", "_law_rows", "_law_row", "_law_text"] ["_law_a", "_law_at", "_law_au"] (defScope s_written) := ⟨rfl, rfl, rfl, by decide +kernel, rfl, by decide +kernel, by decide +kernel⟩
abbrev s_power_refused : Stmt := topS 28
theorem sc_power_refused : FnScope ["_law_a", "_law_power", "_law_found", "e"] ["_law_a", "_law_power"] (defScope s_power_refused) := ⟨rfl, rfl, rfl, by decide +kernel, rfl, by decide +kernel, by decide +kernel⟩
abbrev s_powered : Stmt := topS 29
theorem sc_powered : FnScope ["_law_a", "_law_at", "_law_au", "_law_power", "_law_top", "_law_under", "_law_spare", "_law_found"] ["_law_a", "_law_at", "_law_au", "_law_power"] (defScope s_powered) := ⟨rfl, rfl, rfl, by decide +kernel, rfl, by decide +kernel, by decide +kernel⟩
abbrev s_law : Stmt := topS 30
theorem sc_law : FnScope ["_law_script", "_law_pool_here", "_law_at", "_law_au", "_law_a", "_law_way", "_law_bt", "_law_bu", "_law_factor", "_law_b", "_law_thing", "_law_power", "_law_none"] ["_law_script"] (defScope s_law) := ⟨rfl, rfl, rfl, by decide +kernel, rfl, by decide +kernel, by decide +kernel⟩
section
variable {P : Program} {w : World} {K : PySem.W.Frag} {mg : Str → Option Value} {base : Heap}

def spMix : Sp := fun vs H Q _ => ∃ (s t m : Int), vs = [.int s, .int t, .int m] ∧ 2 ≤ m ∧ m < 1073741824 ∧ ∀ r : Int, 0 ≤ r → r < m → Q (.int r) H
abbrev CalMix (P : Program) (w : World) (K : PySem.W.Frag) (mg : Str → Option Value) (base : Heap) := Cal P w K mg base 1 "_law_mix" ["_law_state", "_law_turn", "_law_many"] spMix
theorem ok_mix (B : Blt mg) (D : Dfn K mg "_law_mix" "_law_mix" s_mix ["_law_state", "_law_turn", "_law_many"]) : CalMix P w K mg base := by
  refine D.cal sc_mix (fun vs H Q E h => ?_) (fun f cdv A outer st H vs Q E hr h => ?_)
  · obtain ⟨s, t, m, rfl, _⟩ := h
    rfl
  · obtain ⟨s, t, m, rfl, h2, h3, q⟩ := h
    refine ⟨_, (pss_cons (ps_set (i := 3) sc_mix.nd rfl (Or.inl rfl) (pe_op op_modN (pe_callTy call_int1 (by rfl) B.int (by decide +kernel) (pa_cons (pe_op op_add (pe_op op_add (pe_op op_mul (pv 0) (pe_int)) (pe_op op_mul (pv 1) (pe_int))) (pe_int)) pa_nil)) (pe_int)))
      (pss_cons (ps_set (i := 4) sc_mix.nd rfl (Or.inl rfl) (pe_op op_modN (pe_callTy call_int1 (by rfl) B.int (by decide +kernel) (pa_cons (pe_op op_add (pe_op op_add (pe_op op_mul (pv 3) (pv 3)) (pe_op op_mul (pv 1) (pe_int))) (pv 0)) pa_nil)) (pe_int)))
      (pss_one (ps_ret (pe_op op_modN (pe_callTy call_int1 (by rfl) B.int (by decide +kernel) (pa_cons (pe_op op_fdivA (pv 4) (pe_int)) pa_nil)) (pv 2)))))), ?_⟩
    walk_at "go"
    have b1 := fm (s * 16807 + t * 7919 + 101) (show (0 : Int) < 2147483629 by decide)
    refine ⟨.inl ⟨by omega, by omega⟩, ?_⟩
    walk_at "go"
    have b2 := fm (((((s * 16807 + t * 7919 + 101).fmod 2147483629 * (s * 16807 + t * 7919 + 101).fmod 2147483629) + t * 104729 + s).fmod 2147483587).fdiv 11) (show (0 : Int) < m by omega)
    exact q _ b2.1 b2.2
def spDraw : Sp := fun vs H Q _ => ∃ (p : Pla) (m : Int), vs = [.ref p, .int m] ∧ Pool H p ∧ 2 ≤ m ∧ m < 1073741824 ∧ ∀ (r : Int) (H' : Hp), 0 ≤ r → r < m → Pool H' p → Keeps H H' p → Q (.int r) H'
abbrev CalDraw (P : Program) (w : World) (K : PySem.W.Frag) (mg : Str → Option Value) (base : Heap) := Cal P w K mg base 2 "_law_draw" ["_law_pool_here", "_law_many"] spDraw
theorem ok_draw (B : Blt mg) (D : Dfn K mg "_law_draw" "_law_draw" s_draw ["_law_pool_here", "_law_many"]) (C_mix : CalMix P w K mg base) : CalDraw P w K mg base := by
  refine D.cal sc_draw (fun vs H Q E h => ?_) (fun f cdv A outer st H vs Q E hr h => ?_)
  · obtain ⟨p, m, rfl, _⟩ := h
    rfl
  · obtain ⟨p, m, rfl, ⟨ns, i, b, c, d, hp, hq, hi, hqp⟩, h2, h3, k⟩ := h
    refine ⟨_, (pss_cons (ps_if (PW.pt (pw_or (pt_cmpR op_lt (pv 1) (pe_int) (nomark _)) (pw_or1 (pt_cmpR op_eq (pe_callB call_len_seq (by rfl) B.len PySem.boot_len (pa_cons (pe_ix ix_list (pv 0) (pe_int) (fun _ _ => rfl)) pa_nil)) (pe_int) (nomark _))))) (pss_one (ps_ret (pe_int))) pss_nil)
      (pss_cons (ps_asg (pe_op op_add (pe_ix ix_list (pv 0) (pe_int) (fun _ _ => rfl)) (pe_int)) (pg_sub (pv 0) (pe_int) set_list))
      (pss_cons (ps_for PassesOwn.never rfl (pi_range1 (by rfl) B.range (pa_cons (pe_int) pa_nil)) (pg_name (i := 2) sc_draw.nd rfl (Or.inl rfl)) (pss_cons (ps_if (pt_cmpR op_gt (pe_ix ix_list (pv 0) (pe_int) (fun _ _ => rfl)) (pe_int) (nomark _)) (pss_cons (ps_set (i := 3) sc_draw.nd rfl (Or.inl rfl) (pe_op op_modN (pe_callTy call_int1 (by rfl) B.int (by decide +kernel) (pa_cons (pe_ix ix_list (pv 0) (pe_int) (fun _ _ => rfl)) pa_nil)) (pv 1)))
      (pss_cons (ps_asg (pe_op op_fdivA (pe_ix ix_list (pv 0) (pe_int) (fun _ _ => rfl)) (pv 1)) (pg_sub (pv 0) (pe_int) set_list))
      (pss_one (ps_ret (pv 3))))) pss_nil)
      (pss_cons (ps_if (pt_cmpR op_ge (pe_ix ix_list (pv 0) (pe_int) (fun _ _ => rfl)) (pe_callB call_len_seq (by rfl) B.len PySem.boot_len (pa_cons (pe_ix ix_list (pv 0) (pe_int) (fun _ _ => rfl)) pa_nil)) (nomark _)) (pss_one (ps_ret (pe_cal C_mix (hr.mono (by decide)) (pa_cons (pe_ix ix_list (pv 0) (pe_int) (fun _ _ => rfl)) (pa_cons (pe_ix ix_list (pv 0) (pe_int) (fun _ _ => rfl)) (pa_cons (pv 1) pa_nil)))))) pss_nil)
      (pss_cons (ps_set (i := 4) sc_draw.nd rfl (Or.inl rfl) (pe_ix ix_list (pe_ix ix_list (pv 0) (pe_int) (fun _ _ => rfl)) (pe_ix ix_list (pv 0) (pe_int) (fun _ _ => rfl)) (fun _ _ => rfl)))
      (pss_cons (ps_asg (pe_op op_add (pe_ix ix_list (pv 0) (pe_int) (fun _ _ => rfl)) (pe_int)) (pg_sub (pv 0) (pe_int) set_list))
      (pss_cons (ps_asg (pe_op op_modN (pe_callTy call_int1 (by rfl) B.int (by decide +kernel) (pa_cons (pe_op op_add (pe_op op_add (pe_op op_mul (pe_ix ix_list (pv 0) (pe_int) (fun _ _ => rfl)) (pe_int)) (pe_op op_mul (pv 4) (pe_int))) (pe_int)) pa_nil)) (pe_int)) (pg_sub (pv 0) (pe_int) set_list))
      (pss_cons (ps_if (pt_cmpR op_lt (pv 4) (pe_op op_pow (pe_int) (pe_int)) (nomark _)) (pss_one (ps_ret (pe_cal C_mix (hr.mono (by decide)) (pa_cons (pe_ix ix_list (pv 0) (pe_int) (fun _ _ => rfl)) (pa_cons (pe_ix ix_list (pv 0) (pe_int) (fun _ _ => rfl)) (pa_cons (pv 1) pa_nil)))))) pss_nil)
      (pss_one (ps_asg (pe_op op_sub (pv 4) (pe_op op_pow (pe_int) (pe_int))) (pg_sub (pv 0) (pe_int) set_list))))))))))
      (pss_one (ps_ret (pe_cal C_mix (hr.mono (by decide)) (pa_cons (pe_ix ix_list (pv 0) (pe_int) (fun _ _ => rfl)) (pa_cons (pe_ix ix_list (pv 0) (pe_int) (fun _ _ => rfl)) (pa_cons (pv 1) pa_nil))))))))), ?_⟩
    walk_at "go"
    rw [decide_eq_false (by omega)]
    refine iteF ?_
    walk_at "go"
    refine ⟨_, _, _, _, rfl, rfl, SqL.of hp, rfl, ?_⟩
    refine ⟨_, _, rfl, .inl (SqL.of hq), ?_⟩
    walk_at "go"
    walk_at "if"
    · intro _
      walk_at "go"
      exact k 0 H (by omega) (by omega) ⟨ns, i, b, c, d, hp, hq, hi, hqp⟩ (Keeps.refl _ _)
    intro hlen
    refine ⟨_, rfl, _, _, _, _, rfl, rfl, SqL.of hp, rfl, ?_⟩
    walk_at "go"
    refine ⟨_, _, _, _, rfl, rfl, hp, rfl, ?_⟩
    refine ⟨64, rfl, by decide, by decide, for_range (n := 64) (fun _ σ H' => ∃ v2 v3 v4 : Option V, σ = [some (.ref (p : Addr)), some (.int m), v2, v3, v4] ∧ ∃ i b c d : Int, H' p = some (.lst [.ref p.q, .int i, .int b, .int c, .int d]) ∧ H' p.q = some (.lst (ns.map V.int)) ∧ 0 ≤ i ∧ Keeps H H' p)
      ⟨none, none, none, rfl, i, b, c, d + 1, upd_same, by rw [upd_ne hqp]; exact hq, hi, Keeps.upd⟩ ?_ ?_⟩
    · rintro j σ H1 hj ⟨v2, v3, v4, rfl, i, b, c, d, hp, hq, hi, hk⟩
      refine ⟨_, rfl, _, _, _, _, rfl, rfl, SqL.of hp, rfl, ?_⟩
      walk_at "go"
      walk_at "if"
      · intro hb
        refine ⟨_, rfl, _, _, _, _, rfl, rfl, SqL.of hp, rfl, ?_⟩
        walk_at "go"
        refine ⟨_, _, _, _, rfl, rfl, SqL.of hp, rfl, ?_⟩
        walk_at "go"
        refine ⟨divA (b := 30) (by omega) (by omega) (by decide) (by decide), ?_⟩
        walk_at "go"
        refine ⟨_, _, _, _, rfl, rfl, hp, rfl, ?_⟩
        walk_at "go"
        have b2 := fm b (show (0 : Int) < m by omega)
        exact k _ _ b2.1 b2.2 ⟨ns, i, _, c, d, upd_same, by rw [upd_ne hqp]; exact hq, hi, hqp⟩ (hk.trans Keeps.upd)
      · intro hb
        refine ⟨_, rfl, _, _, _, _, rfl, rfl, SqL.of hp, rfl, ?_⟩
        walk_at "go"
        refine ⟨_, _, _, _, rfl, rfl, SqL.of hp, rfl, ?_⟩
        refine ⟨_, _, rfl, .inl (SqL.of hq), ?_⟩
        walk_at "go"
        walk_at "if"
        · intro hl
          refine ⟨_, rfl, _, _, _, _, rfl, rfl, SqL.of hp, rfl, ?_⟩
          refine ⟨_, rfl, _, _, _, _, rfl, rfl, SqL.of hp, rfl, ?_⟩
          walk_at "go"
          refine ⟨_, _, _, rfl, h2, h3, fun r r0 r1 => ?_⟩
          exact k _ _ r0 r1 ⟨ns, i, b, c, d, hp, hq, hi, hqp⟩ hk
        · intro hl
          have hl2 : i < (ns.length : Int) := by
            have hl' : ¬ ((ns.map V.int).length : Int) ≤ i := hl
            rw [List.length_map] at hl'
            omega
          obtain ⟨n, rfl⟩ : ∃ n : Nat, i = (n : Int) := ⟨i.toNat, by omega⟩
          have hn : n < ns.length := by omega
          refine ⟨_, rfl, _, _, _, _, rfl, rfl, SqL.of hp, rfl, ?_⟩
          refine ⟨_, rfl, _, _, _, _, rfl, rfl, SqL.of hp, rfl, ?_⟩
          refine ⟨_, _, _, _, rfl, rfl, SqL.of hq, atI_nat (ints_at hn), ?_⟩
          refine ⟨_, rfl, _, _, _, _, rfl, rfl, SqL.of hp, rfl, ?_⟩
          walk_at "go"
          refine ⟨_, _, _, _, rfl, rfl, hp, rfl, ?_⟩
          refine ⟨_, rfl, _, _, _, _, rfl, rfl, SqL.of upd_same, rfl, ?_⟩
          walk_at "go"
          refine ⟨_, _, _, _, rfl, rfl, upd_same, rfl, ?_⟩
          walk_at "go"
          walk_at "if"
          · intro hcell
            refine ⟨_, rfl, _, _, _, _, rfl, rfl, SqL.of upd_same, rfl, ?_⟩
            refine ⟨_, rfl, _, _, _, _, rfl, rfl, SqL.of upd_same, rfl, ?_⟩
            walk_at "go"
            refine ⟨_, _, _, rfl, h2, h3, fun r r0 r1 => ?_⟩
            exact k _ _ r0 r1 ⟨ns, _, b, _, d, upd_same, by rw [upd_ne hqp, upd_ne hqp]; exact hq, by omega, hqp⟩ ((hk.trans Keeps.upd).trans Keeps.upd)
          · intro hcell
            walk_at "go"
            refine ⟨_, _, _, _, rfl, rfl, upd_same, rfl, ?_⟩
            exact ⟨_, _, _, rfl, _, _, _, d, upd_same, by rw [upd_ne hqp, upd_ne hqp, upd_ne hqp]; exact hq, by omega, ((hk.trans Keeps.upd).trans Keeps.upd).trans Keeps.upd⟩
    · rintro σ H1 ⟨v2, v3, v4, rfl, i, b, c, d, hp, hq, hi, hk⟩
      refine ⟨_, rfl, _, _, _, _, rfl, rfl, SqL.of hp, rfl, ?_⟩
      refine ⟨_, rfl, _, _, _, _, rfl, rfl, SqL.of hp, rfl, ?_⟩
      walk_at "go"
      refine ⟨_, _, _, rfl, h2, h3, fun r r0 r1 => ?_⟩
      exact k _ _ r0 r1 ⟨ns, i, b, c, d, hp, hq, hi, hqp⟩ hk

theorem wide_ix {s : Int} (h0 : 3 ≤ s) (h1 : s < 6) : ∃ M : Int, atI [V.int 1, V.int 2, V.int 5] (s - 3) = some (V.int M) ∧ (M = 1 ∨ M = 2 ∨ M = 5) := by
  have : s = 3 ∨ s = 4 ∨ s = 5 := by omega
  rcases this with rfl | rfl | rfl
  · exact ⟨1, rfl, by omega⟩
  · exact ⟨2, rfl, by omega⟩
  · exact ⟨5, rfl, by omega⟩
def spWide : Sp := fun vs H Q _ => ∃ (p : Pla), vs = [.ref p] ∧ Pool H p ∧ ∀ (r : Int) (H' : Hp), 0 ≤ r → r < 10 ^ 30 → Pool H' p → Keeps H H' p → Q (.int r) H'
abbrev CalWide (P : Program) (w : World) (K : PySem.W.Frag) (mg : Str → Option Value) (base : Heap) := Cal P w K mg base 3 "_law_wide" ["_law_pool_here"] spWide
theorem ok_wide (B : Blt mg) (D : Dfn K mg "_law_wide" "_law_wide" s_wide ["_law_pool_here"]) (C_draw : CalDraw P w K mg base) : CalWide P w K mg base := by
  refine D.cal sc_wide (fun vs H Q E h => ?_) (fun f cdv A outer st H vs Q E hr h => ?_)
  · obtain ⟨p, rfl, _⟩ := h
    rfl
  · obtain ⟨p, rfl, hP, k⟩ := h
    refine ⟨_, (pss_cons (ps_set (i := 1) sc_wide.nd rfl (Or.inl rfl) (pe_cal C_draw (hr.mono (by decide)) (pa_cons (pv 0) (pa_cons (pe_int) pa_nil))))
      (pss_cons (ps_if (pt_cmpR op_eq (pv 1) (pe_int) (nomark _)) (pss_one (ps_ret (pe_cal C_draw (hr.mono (by decide)) (pa_cons (pv 0) (pa_cons (pe_int) pa_nil))))) pss_nil)
      (pss_cons (ps_if (pt_cmpR op_lt (pv 1) (pe_int) (nomark _)) (pss_one (ps_ret (pe_cal C_draw (hr.mono (by decide)) (pa_cons (pv 0) (pa_cons (pe_int) pa_nil))))) pss_nil)
      (pss_cons (ps_set (i := 2) sc_wide.nd rfl (Or.inl rfl) (pe_ix ix_tup (pe_tup (pa_cons (pe_int) (pa_cons (pe_int) (pa_cons (pe_int) pa_nil)))) (pe_op op_sub (pv 1) (pe_int)) (fun _ _ => rfl)))
      (pss_cons (ps_set (i := 3) sc_wide.nd rfl (Or.inl rfl) (pe_int))
      (pss_cons (ps_for PassesOwn.never rfl (pi_range1 (by rfl) B.range (pa_cons (pv 2) pa_nil)) (pg_name (i := 4) sc_wide.nd rfl (Or.inl rfl)) (pss_one (ps_set (i := 3) sc_wide.nd rfl (Or.inl rfl) (pe_op op_add (pe_op op_mul (pv 3) (pe_op op_pow (pe_int) (pe_int))) (pe_cal C_draw (hr.mono (by decide)) (pa_cons (pv 0) (pa_cons (pe_op op_pow (pe_int) (pe_int)) pa_nil)))))))
      (pss_one (ps_ret (pv 3))))))))), ?_⟩
    refine ⟨_, rfl, p, 6, rfl, hP, by decide, by decide, fun s H1 s0 s1 hP1 hk1 => ?_⟩
    walk_at "go"
    walk_at "if"
    · intro _
      refine ⟨_, rfl, p, 4, rfl, hP1, by decide, by decide, fun r H2 r0 r1 hP2 hk2 => ?_⟩
      exact k r H2 r0 (by omega) hP2 (hk1.trans hk2)
    intro n0
    walk_at "go"
    walk_at "if"
    · intro _
      refine ⟨_, rfl, p, 30, rfl, hP1, by decide, by decide, fun r H2 r0 r1 hP2 hk2 => ?_⟩
      exact k r H2 r0 (by omega) hP2 (hk1.trans hk2)
    intro n3
    obtain ⟨M, eM, hM⟩ := wide_ix (s := s) (by omega) s1
    refine ⟨(by show 3 ≤ sizeLine; decide), fun t ht => ?_⟩
    walk_at "go"
    refine ⟨_, _, _, _, rfl, rfl, SqT.of upd_same, eM, ?_⟩
    refine ⟨_, rfl, _, rfl, (by omega), (by omega), for_range (n := M.toNat) (fun i σ H' => ∃ (f : Int) (v4 : Option V), σ = [some (.ref (p : Addr)), some (.int s), some (.int M), some (.int f), v4] ∧ 0 ≤ f ∧ f < 1000000 ^ i ∧ Pool H' p ∧ Keeps H H' p)
      ⟨0, none, rfl, by omega, by decide, hP1.upd ht, hk1.trans (same_keeps (same_upd ht))⟩ ?_ ?_⟩
    · rintro i σ H2 hi ⟨f, v4, rfl, f0, f1, hP2, hk2⟩
      walk_at "go"
      refine ⟨_, _, rfl, hP2, by decide, by decide, fun r H3 r0 r1 hP3 hk3 => ?_⟩
      walk_at "go"
      have r1' : r < 1000000 := r1
      refine ⟨f * 1000000 + r, _, rfl, by omega, ?_, hP3, hk2.trans hk3⟩
      rw [Int.pow_succ]
      omega
    · rintro σ H2 ⟨f, v4, rfl, f0, f1, hP2, hk2⟩
      refine ⟨_, rfl, k f H2 f0 ?_ hP2 hk2⟩
      rcases hM with rfl | rfl | rfl
      · exact Int.lt_of_lt_of_le f1 (by decide)
      · exact Int.lt_of_lt_of_le f1 (by decide)
      · exact Int.lt_of_lt_of_le f1 (by decide)

def spAny : Sp := fun vs H Q _ => ∃ (p : Pla), vs = [.ref p] ∧ Pool H p ∧ ∀ (r : Int) (H' : Hp), 0 ≤ r → r < 10 ^ 60 → Pool H' p → Keeps H H' p → Q (.int r) H'
abbrev CalAny (P : Program) (w : World) (K : PySem.W.Frag) (mg : Str → Option Value) (base : Heap) := Cal P w K mg base 4 "_law_any" ["_law_pool_here"] spAny
theorem ok_any (B : Blt mg) (D : Dfn K mg "_law_any" "_law_any" s_any ["_law_pool_here"]) (C_draw : CalDraw P w K mg base) (C_wide : CalWide P w K mg base) : CalAny P w K mg base := by
  refine D.cal sc_any (fun vs H Q E h => ?_) (fun f cdv A outer st H vs Q E hr h => ?_)
  · obtain ⟨p, rfl, _⟩ := h
    rfl
  · obtain ⟨p, rfl, hP, k⟩ := h
    have last : ∀ H1, Pool H1 p → Keeps H H1 p → spWide ([V.ref p] ++ []) H1 Q E0 := fun H1 hP1 hk1 =>
      ⟨p, rfl, hP1, fun r H2 r0 r1 hP2 hk2 => k r H2 r0 (Int.lt_of_lt_of_le r1 (by decide)) hP2 (hk1.trans hk2)⟩
    refine ⟨_, (pss_cons (ps_if (PW.pt (pw_and (pt_cmpR op_eq (pe_cal C_draw (hr.mono (by decide)) (pa_cons (pv 0) (pa_cons (pe_int) pa_nil))) (pe_int) (nomark _)) (pw_and1 (pt_cmpR op_lt (pe_ix ix_list (pv 0) (pe_int) (fun _ _ => rfl)) (pe_callB call_len_seq (by rfl) B.len PySem.boot_len (pa_cons (pe_ix ix_list (pv 0) (pe_int) (fun _ _ => rfl)) pa_nil)) (nomark _))))) (pss_cons (ps_set (i := 1) sc_any.nd rfl (Or.inl rfl) (pe_ix ix_list (pe_ix ix_list (pv 0) (pe_int) (fun _ _ => rfl)) (pe_ix ix_list (pv 0) (pe_int) (fun _ _ => rfl)) (fun _ _ => rfl)))
      (pss_cons (ps_asg (pe_op op_add (pe_ix ix_list (pv 0) (pe_int) (fun _ _ => rfl)) (pe_int)) (pg_sub (pv 0) (pe_int) set_list))
      (pss_one (ps_ret (pe_op op_modN (pe_callTy call_int1 (by rfl) B.int (by decide +kernel) (pa_cons (pe_callB call_abs (by rfl) B.abs (by decide +kernel) (pa_cons (pv 1) pa_nil)) pa_nil)) (pe_op op_pow (pe_int) (pe_int))))))) pss_nil)
      (pss_one (ps_ret (pe_cal C_wide (hr.mono (by decide)) (pa_cons (pv 0) pa_nil))))), ?_⟩
    refine ⟨_, rfl, p, 8, rfl, hP, by decide, by decide, fun s H1 s0 s1 hP1 hk1 => ?_⟩
    walk_at "go"
    obtain ⟨ns, i, b, c, d, hp, hq, hi, hqp⟩ := id hP1
    walk_at "if"
    · intro _
      refine ⟨_, rfl, _, _, _, _, rfl, rfl, SqL.of hp, rfl, ?_⟩
      refine ⟨_, rfl, _, _, _, _, rfl, rfl, SqL.of hp, rfl, ?_⟩
      refine ⟨_, _, rfl, .inl (SqL.of hq), ?_⟩
      walk_at "go"
      walk_at "if"
      · intro hl
        have hl' : i < ((ns.map V.int).length : Int) := hl
        rw [List.length_map] at hl'
        obtain ⟨n, rfl⟩ : ∃ n : Nat, i = (n : Int) := ⟨i.toNat, by omega⟩
        have hn : n < ns.length := by omega
        refine ⟨_, rfl, _, _, _, _, rfl, rfl, SqL.of hp, rfl, ?_⟩
        refine ⟨_, rfl, _, _, _, _, rfl, rfl, SqL.of hp, rfl, ?_⟩
        refine ⟨_, _, _, _, rfl, rfl, SqL.of hq, atI_nat (ints_at hn), ?_⟩
        refine ⟨_, rfl, _, _, _, _, rfl, rfl, SqL.of hp, rfl, ?_⟩
        walk_at "go"
        refine ⟨_, _, _, _, rfl, rfl, hp, rfl, ?_⟩
        walk_at "go"
        refine ⟨(by show (10 : Int) ^ (60 : Int).toNat ≠ 0; decide), ?_⟩
        have b2 := fm (if ns[n] < 0 then -ns[n] else ns[n]) (show (0 : Int) < 10 ^ 60 by decide)
        exact k _ _ b2.1 b2.2 ⟨ns, _, b, c, d, upd_same, by rw [upd_ne hqp]; exact hq, by omega, hqp⟩ (hk1.trans Keeps.upd)
      · intro _
        exact ⟨_, rfl, last _ hP1 hk1⟩
    · intro _
      exact ⟨_, rfl, last _ hP1 hk1⟩

def spEither : Sp := fun vs H Q _ => ∃ (p : Pla), vs = [.ref p] ∧ Pool H p ∧ ∀ (r : Int) (H' : Hp), -(10 ^ 60) < r → r < 10 ^ 60 → Pool H' p → Keeps H H' p → Q (.int r) H'
abbrev CalEither (P : Program) (w : World) (K : PySem.W.Frag) (mg : Str → Option Value) (base : Heap) := Cal P w K mg base 5 "_law_either" ["_law_pool_here"] spEither
theorem ok_either (B : Blt mg) (D : Dfn K mg "_law_either" "_law_either" s_either ["_law_pool_here"]) (C_draw : CalDraw P w K mg base) (C_any : CalAny P w K mg base) : CalEither P w K mg base := by
  refine D.cal sc_either (fun vs H Q E h => ?_) (fun f cdv A outer st H vs Q E hr h => ?_)
  · obtain ⟨p, rfl, _⟩ := h
    rfl
  · obtain ⟨p, rfl, hP, k⟩ := h
    refine ⟨_, (pss_cons (ps_set (i := 1) sc_either.nd rfl (Or.inl rfl) (pe_cal C_any (hr.mono (by decide)) (pa_cons (pv 0) pa_nil)))
      (pss_cons (ps_if (pt_cmpR op_eq (pe_cal C_draw (hr.mono (by decide)) (pa_cons (pv 0) (pa_cons (pe_int) pa_nil))) (pe_int) (nomark _)) (pss_one (ps_ret (pe_un un_neg (pv 1)))) pss_nil)
      (pss_one (ps_ret (pv 1))))), ?_⟩
    refine ⟨_, rfl, p, rfl, hP, fun r H1 r0 r1 hP1 hk1 => ?_⟩
    refine ⟨_, rfl, p, 2, rfl, hP1, by decide, by decide, fun s H2 s0 s1 hP2 hk2 => ?_⟩
    walk_at "go"
    walk_at "if"
    · intro _
      exact ⟨_, rfl, _, rfl, k _ _ (by omega) (by omega) hP2 (hk1.trans hk2)⟩
    · intro _
      exact ⟨_, rfl, k _ _ (by omega) (by omega) hP2 (hk1.trans hk2)⟩

def spGcd : Sp := fun vs H Q _ => ∃ (a b : Int), vs = [.int a, .int b] ∧ b.natAbs < 10 ^ 124 ∧ Q (.int ((max 1 (Nat.gcd a.natAbs b.natAbs) : Nat) : Int)) H
abbrev CalGcd (P : Program) (w : World) (K : PySem.W.Frag) (mg : Str → Option Value) (base : Heap) := Cal P w K mg base 1 "_law_gcd" ["_law_one", "_law_other"] spGcd
theorem abs_if (a : Int) : (if a < 0 then -a else a) = (a.natAbs : Int) := by split <;> omega
theorem ok_gcd (B : Blt mg) (D : Dfn K mg "_law_gcd" "_law_gcd" s_gcd ["_law_one", "_law_other"]) : CalGcd P w K mg base := by
  refine D.cal sc_gcd (fun vs H Q E h => ?_) (fun f cdv A outer st H vs Q E hr h => ?_)
  · obtain ⟨a, b, rfl, _⟩ := h
    rfl
  · obtain ⟨a, b, rfl, hb, q⟩ := h
    refine ⟨_, (pss_cons (ps_set (i := 0) sc_gcd.nd rfl (Or.inl rfl) (pe_callB call_abs (by rfl) B.abs (by decide +kernel) (pa_cons (pv 0) pa_nil)))
      (pss_cons (ps_set (i := 1) sc_gcd.nd rfl (Or.inl rfl) (pe_callB call_abs (by rfl) B.abs (by decide +kernel) (pa_cons (pv 1) pa_nil)))
      (pss_cons (ps_for PassesOwn.never rfl (pi_range1 (by rfl) B.range (pa_cons (pe_int) pa_nil)) (pg_name (i := 2) sc_gcd.nd rfl (Or.inl rfl)) (pss_cons (ps_if (pt_cmpR op_eq (pv 1) (pe_int) (nomark _)) (pss_one (ps_ret (pe_callB (call_max2 rfl) (by rfl) B.max (by decide +kernel) (pa_cons (pe_int) (pa_cons (pv 0) pa_nil))))) pss_nil)
      (pss_one (ps_par (i := 0) (j := 1) (by rfl) sc_gcd.nd rfl rfl (by decide) rfl rfl (pa_cons (pv 1) (pa_cons (pe_op op_modN (pe_callTy call_int1 (by rfl) B.int (by decide +kernel) (pa_cons (pv 0) pa_nil)) (pv 1)) pa_nil)) (by rfl)))))
      (pss_one (ps_ret (pe_int)))))), ?_⟩
    walk_at "go"
    refine ⟨by decide, by decide, for_range (n := 600) (fun i σ H' => ∃ (n x y : Nat) (v : Option V), σ = [some (.int x), some (.int y), v] ∧ n + i = 599 ∧ Eu n x y ∧ Nat.gcd x y = Nat.gcd a.natAbs b.natAbs ∧ H' = H)
      ⟨599, a.natAbs, b.natAbs, none, ?_, rfl, eu_all hb, rfl, rfl⟩ ?_ ?_⟩
    · rw [← abs_if, ← abs_if]
      rfl
    · rintro i σ H1 hi ⟨n, x, y, v, rfl, hn, hE, hg, rfl⟩
      walk_at "go"
      walk_at "if"
      · intro hy
        have hy' : y = 0 := by omega
        subst hy'
        walk_at "go"
        rw [Nat.gcd_zero_right] at hg
        rw [← hg] at q
        have e : (if (x : Int) > 1 then (x : Int) else 1) = ((max 1 x : Nat) : Int) := by
          rw [Nat.max_def]
          split <;> split <;> omega
        rw [← e] at q
        exact ⟨_, _, rfl, q⟩
      · intro hy
        have hy' : 0 < y := by omega
        cases n with
        | zero => exact absurd (show y = 0 from hE) (by omega)
        | succ n =>
          rcases hE with h | hE
          · omega
          walk_at "go"
          refine ⟨_, _, rfl, n, y, x % y, some (V.int (0 + (i : Int))), ?_, by omega, hE, ?_, rfl⟩
          · have e : (x : Int).fmod (y : Int) = ((x % y : Nat) : Int) := by
              rw [Int.fmod_eq_emod_of_nonneg _ (by omega)]
              rfl
            rw [← e]
            rfl
          · rw [← hg, Nat.gcd_comm x y, Nat.gcd_rec y x, Nat.gcd_comm]
    · rintro σ H1 ⟨n, x, y, v, rfl, hn, _⟩
      omega

def spPool (K : PySem.W.Frag) : Sp := fun vs H Q _ => ∃ (a : Addr) (ns : List Int), vs = [.ref a] ∧ SqL K H a (ns.map V.int) ∧ ns.length ≤ 63 ∧ ∀ (p : Pla) (H' : Hp), Same H H' → H p = none → H p.q = none → Pool H' p → Q (.ref p) H'
abbrev CalPool (P : Program) (w : World) (K : PySem.W.Frag) (mg : Str → Option Value) (base : Heap) := Cal P w K mg base 1 "_law_pool" ["_law_script"] (spPool K)
theorem ok_pool (B : Blt mg) (D : Dfn K mg "_law_pool" "_law_pool" s_pool ["_law_script"]) : CalPool P w K mg base := by
  refine D.cal sc_pool (fun vs H Q E h => ?_) (fun f cdv A outer st H vs Q E hr h => ?_)
  · obtain ⟨a, ns, rfl, _⟩ := h
    rfl
  · obtain ⟨a, ns, rfl, hS, hl, k⟩ := h
    refine ⟨_, (pss_one (ps_ret (pe_lst (pa_cons (pe_lc (own := [("_law_cell", 1)]) (g := gName 1) rfl sc_pool.nd (pi_list (pv 0)) (blkOk_by (N := ["_law_script", "_law_cell"]) (sc := defScope s_pool) (by decide +kernel)) (fun _ _ _ _ _ => pg_name (i := 1) sc_pool.nd rfl (Or.inl rfl)) (fun _ _ _ _ _ => pts_nil) (fun _ _ _ _ _ => (pe_callTy call_int1 (by rfl) B.int (by decide +kernel) (pa_cons (pv 1) pa_nil)))) (pa_cons (pe_int) (pa_cons (pe_int) (pa_cons (pe_int) (pa_cons (pe_int) pa_nil)))))))), ?_⟩
    refine ⟨_, rfl, a, rfl, ⟨_, hS⟩, fun D hD => lc_list (K := K) (a := a) (xs := ns.map V.int) (fun i H' => H' = upd H D (.lst ((ns.take i).map V.int))) rfl (fun i H' _ e => by rw [e]; exact (same_upd hD).seq hS) ?_ ?_⟩
    · rintro i x H' hx rfl
      obtain ⟨z, hz, rfl⟩ := int_of_map hx
      refine ⟨rfl, ?_⟩
      refine ⟨_, rfl, .inl ⟨_, rfl, _, upd_same, ?_, ?_⟩⟩
      · rw [List.length_map, List.length_take]
        exact small1000 (by omega)
      · rw [upd_upd, List.take_add_one, hz, List.map_append]
        rfl
    · rintro H' rfl
      refine ⟨(by show 5 ≤ sizeLine; decide), fun p hp => ?_⟩
      have hne : D ≠ p := ne_of_none upd_same hp
      have hp0 : H p = none := by rw [upd_ne hne.symm] at hp; exact hp
      refine k ⟨p, D⟩ _ ((same_upd hD).trans (same_upd hp)) hp0 hD ⟨ns, 0, 0, 1, 0, upd_same, ?_, by decide, hne⟩
      show upd _ p _ D = _
      rw [upd_ne hne, upd_same, List.length_map, List.take_length]

theorem kit_own {K : PySem.W.Frag} {t : Value} {C : Addr} {b : Bool} (hd : PySem.W.hasDictIn K C = true) (ht : PySem.W.typeIn K (.ref C) = some (.type "type")) (hs : PySem.W.subIn K t (.ref C) = some b) (hself : PySem.W.subIn K t t = some true) : PySem.W.kitOne K t (.ref C) = some b := by
  unfold PySem.W.kitOne
  by_cases h : (t == Value.ref C) = true
  · rw [if_pos h]
    have e := beq_iff_eq.mp h
    subst e
    rw [hs] at hself
    exact hself.symm
  · rw [if_neg h]
    obtain ⟨cd, hc, _⟩ := PySem.W.any_some hd
    have e2 : ((PySem.W.clsIn K C).isSome && PySem.W.typeIn K (.ref C) == some (.type "type")) = true := by rw [hc, ht] <;> rfl
    show (if ((PySem.W.clsIn K C).isSome && PySem.W.typeIn K (.ref C) == some (.type "type")) = true then PySem.W.subIn K t (.ref C) else none) = some b
    rw [if_pos e2]
    exact hs
theorem kit_int {K : PySem.W.Frag} {C : Addr} {b : Bool} (hd : PySem.W.hasDictIn K C = true) (ht : PySem.W.typeIn K (.ref C) = some (.type "type")) (hs : PySem.W.subIn K (.type "int") (.ref C) = some b) : PySem.W.kitOne K (.type "int") (.ref C) = some b := by
  unfold PySem.W.kitOne
  rw [if_neg (by intro h; cases beq_iff_eq.mp h)]
  obtain ⟨cd, hc, _⟩ := PySem.W.any_some hd
  have e2 : ((PySem.W.clsIn K C).isSome && PySem.W.typeIn K (.ref C) == some (.type "type")) = true := by rw [hc, ht] <;> rfl
  show (if ((PySem.W.clsIn K C).isSome && PySem.W.typeIn K (.ref C) == some (.type "type")) = true then PySem.W.subIn K (.type "int") (.ref C) else none) = some b
  rw [if_pos e2]
  exact hs
def spWhole : Sp := fun vs H Q _ => ∃ (i : Int), vs = [.int i] ∧ Q (.bl true) H
abbrev CalWhole (P : Program) (w : World) (K : PySem.W.Frag) (mg : Str → Option Value) (base : Heap) := Cal P w K mg base 1 "_law_whole" ["_law_actual"] spWhole
theorem ok_whole (B : Blt mg) (D : Dfn K mg "_law_whole" "_law_whole" s_whole ["_law_actual"]) : CalWhole P w K mg base := by
  refine D.cal sc_whole (fun vs H Q E h => ?_) (fun f cdv A outer st H vs Q E hr h => ?_)
  · obtain ⟨i, rfl, _⟩ := h
    rfl
  · obtain ⟨i, rfl, q⟩ := h
    refine ⟨_, (pss_one (ps_ret ((pe_and (pe_callB call_isi (by rfl) B.isinstance (by decide +kernel) (pa_cons (pv 0) (pa_cons (pe_bltn (v := .ty "int") (by rfl) B.int (by decide +kernel) rfl) pa_nil))) (pe_one (pe_not (pe_callB call_isi (by rfl) B.isinstance (by decide +kernel) (pa_cons (pv 0) (pa_cons (pe_bltn (v := .ty "bool") (by rfl) B.bool (by decide +kernel) rfl) pa_nil))))))))), ?_⟩
    refine ⟨_, rfl, _, _, _, _, true, rfl, .ty _, .base (.int _), kit_ty (by decide +kernel), _, rfl, iteT ?_⟩
    refine ⟨_, rfl, _, _, _, _, false, rfl, .ty _, .base (.int _), kit_ty (by decide +kernel), _, rfl, ?_⟩
    exact q

theorem ok_bn {C f : Addr} {fd : FuncData} (T : BnC K mg C) (F : Fun K "__init__" "BadNumber.__init__" s_BadNumber_init f fd) : FnOk P w K mg base CX0 1 f fd ["self", "name", "value"] (spBN C) := by
  refine F.ok sc_BadNumber_init (fun vs H Q E h => ?_) (fun cdv A outer st H vs Q E hr h => ?_)
  · obtain ⟨a, n, v, rfl, _⟩ := h
    rfl
  · obtain ⟨a, n, v, rfl, ha, k⟩ := h
    refine ⟨_, pss_cons (ps_ost (pv 0) (pv 1)) (pss_one (ps_ost (pv 0) (pv 2))), ?_⟩
    refine ⟨_, rfl, _, rfl, a, C, rfl, T.o, T.nN, .inl ⟨ha, fun dx hdx hne => ?_⟩⟩
    refine ⟨_, rfl, _, rfl, a, C, rfl, T.o, T.nV, .inr ⟨dx, [("name", n)], upd_same, ?_, (by show 1 ≤ 900; decide), k dx hdx hne⟩⟩
    rw [upd_ne hne, upd_same]
end
end L

set_option Elab.async false
set_option linter.all false
set_option maxRecDepth 100000
set_option maxHeartbeats 4000000
set_option pp.maxSteps 160
set_option pp.deepTerms false
namespace L
open PySem PySem.Spec PyProof.Rows L2 Fl
local macro_rules | `(tactic| walk_at "side") => `(tactic| first | (exact .inl ⟨by omega, by omega⟩) | (exact .inr ⟨by omega, by omega⟩) | (exact .inr ⟨by decide, by decide⟩) | (show (_ : Int) ≠ _; omega) | (exact ⟨by omega, by decide⟩) | (exact ⟨by decide, by decide, by decide⟩))
local macro_rules | `(tactic| walk_at "go") => `(tactic| repeat (first | refine ⟨_, rfl, ?_⟩ | refine ⟨_, _, rfl, rfl, ?_⟩ | refine .inl ⟨_, rfl, ?_⟩ | refine ⟨rfl, ?_⟩ | refine ⟨(by walk_at "side"), ?_⟩))
local macro_rules | `(tactic| walk_at "see") => `(tactic| (set_option pp.maxSteps 110 in set_option pp.deepTerms false in trace_state))
local macro_rules | `(tactic| walk_at "if") => `(tactic| first | refine ifE ?_ ?_ | refine ifNE ?_ ?_ | refine ifD ?_ ?_ | refine ifN ?_ ?_ | refine ifB ?_ ?_)
open Bx
section
variable {P : Program} {w : World} {K : PySem.W.Frag} {mg : Str → Option Value} {base : Heap}

def spInit (C ZU : Addr) : Sp := fun vs H Q E => ∃ (x dx : Addr) (t u : Int), vs = [.ref x, .int t, .int u] ∧ H x = some (.ins C dx []) ∧ u.natAbs < 2 ^ 8999 ∧
  (u ≠ 0 → ∀ H' : Hp, H' x = some (.ins C dx (rf (nT t u) (nU t u))) → Keeps H H' x → Q .non H') ∧ (u = 0 → E (.ref ZU) none H)
abbrev CalRatio (P : Program) (w : World) (K : PySem.W.Frag) (mg : Str → Option Value) (base : Heap) (C ZU : Addr) (dvs : List V) := CalC P w K mg base (L2.CX P w) 1 C "Ratio" ["self", "top", "under"] dvs (spInit C ZU)
theorem ok_init {C ZU f : Addr} {fd : FuncData} (B : Blt mg) (hgcd : mg "gcd" = some (.builtin "math.gcd")) (T : RatC K mg C) (TZ : ExC K mg "ZeroUnder" ZU)
    (F : FunD K "__init__" "Ratio.__init__" (defArgs s_Ratio_init) (defBody s_Ratio_init) (defScope s_Ratio_init) [.int 1] [] f fd) : FnOk P w K mg base (L2.CX P w) 1 f fd ["self", "top", "under"] (spInit C ZU) := by
  refine F.ok sc_Ratio_init (fun vs H Q E h => ?_) (fun cdv A outer st H vs Q E hr h => ?_)
  · obtain ⟨x, dx, t, u, rfl, _⟩ := h
    rfl
  · obtain ⟨x, dx, t, u, rfl, hx, hu, k, k0⟩ := h
    refine ⟨_, (pss_cons (ps_if (pt_cmpR op_eq (pv 2) (pe_int) (nomark _)) (pss_one (ps_raise rfl (takes_of rfl rfl rfl rfl) (pmk_own PySem.F.excBase_ValueError TZ.x TZ.g TZ.k (raises_own TZ.b TZ.t) rfl))) pss_nil)
      (pss_cons (ps_set (i := 3) sc_Ratio_init.nd rfl (Or.inl rfl) (pe_callBfun cr_gcd (by rfl) hgcd (pa_cons (pv 1) (pa_cons (pv 2) pa_nil))))
      (pss_cons (ps_if (pt_cmpR op_lt (pv 2) (pe_int) (nomark _)) (pss_one (ps_set (i := 3) sc_Ratio_init.nd rfl (Or.inl rfl) (pe_un un_neg (pv 3)))) pss_nil)
      (pss_cons (ps_fld (pv 0) (pe_op op_fdivA (pv 1) (pv 3)) rfl)
      (pss_one (ps_fld (pv 0) (pe_op op_fdivA (pv 2) (pv 3)) rfl)))))), ?_⟩
    walk_at "go"
    walk_at "if"
    · intro h0
      exact k0 h0
    intro h0
    refine ⟨_, rfl, _, rfl, _, _, rfl, ?_⟩
    walk_at "go"
    have hsn : sh t u ≠ 0 := sh_ne h0
    have hsb : (sh t u).natAbs < 2 ^ 8999 := by
      rw [sh_abs]
      exact Nat.lt_of_le_of_lt (Nat.le_of_dvd (by omega) (Nat.gcd_dvd_right _ _)) hu
    walk_at "if"
    · intro hn
      have es : sh t u = -((Nat.gcd t.natAbs u.natAbs : Nat) : Int) := if_pos hn
      have hd : CDivA t (-((Nat.gcd t.natAbs u.natAbs : Nat) : Int)) := es ▸ divA (b := 8999) hsn hsb (by decide) (by decide)
      walk_at "go"
      refine ⟨hd, ?_⟩
      refine ⟨_, rfl, x, C, dx, [], rfl, hx, T.cl, T.nT, (by show 0 < 1000; decide), ?_⟩
      refine ⟨_, rfl, _, rfl, _, _, rfl, rfl, hd, ?_⟩
      refine ⟨_, rfl, x, C, dx, _, rfl, upd_same, T.cl, T.nU, (by show 1 < 1000; decide), ?_⟩
      refine k h0 _ ?_ (Keeps.upd.trans Keeps.upd)
      rw [upd_same]
      unfold rf nT nU
      rw [es]
    · intro hn
      have es : sh t u = ((Nat.gcd t.natAbs u.natAbs : Nat) : Int) := if_neg hn
      have hd : CDivA t ((Nat.gcd t.natAbs u.natAbs : Nat) : Int) := es ▸ divA (b := 8999) hsn hsb (by decide) (by decide)
      walk_at "go"
      refine ⟨hd, ?_⟩
      refine ⟨_, rfl, x, C, dx, [], rfl, hx, T.cl, T.nT, (by show 0 < 1000; decide), ?_⟩
      refine ⟨_, rfl, _, rfl, _, _, rfl, rfl, hd, ?_⟩
      refine ⟨_, rfl, x, C, dx, _, rfl, upd_same, T.cl, T.nU, (by show 1 < 1000; decide), ?_⟩
      refine k h0 _ ?_ (Keeps.upd.trans Keeps.upd)
      rw [upd_same]
      unfold rf nT nU
      rw [es]
theorem mk_ratio {C ZU f : Addr} {fd : FuncData} (B : Blt mg) (hgcd : mg "gcd" = some (.builtin "math.gcd")) (T : RatC K mg C) (TZ : ExC K mg "ZeroUnder" ZU) (M : Mk K C f)
    (F : FunD K "__init__" "Ratio.__init__" (defArgs s_Ratio_init) (defBody s_Ratio_init) (defScope s_Ratio_init) [.int 1] [] f fd) : CalRatio P w K mg base C ZU [] ∧ CalRatio P w K mg base C ZU [.int 1] := by
  obtain ⟨d2, r2, b2⟩ := F.binds1 (ps := ["self", "top", "under"]) 3 1 (by intro e; cases e) rfl (fun T kV doc pm an cdv ct us its h1 h2 => match us, its, h1, h2 with | [_, _, _], [_], _, _ => ⟨_, rfl, rfl⟩)
  obtain ⟨d1, r1, b1⟩ := F.binds1 (ps := ["self", "top", "under"]) 2 0 (by intro e; cases e) rfl (fun T kV doc pm an cdv ct us its h1 h2 => match us, its, h1, h2 with | [_, _], [_], _, _ => ⟨_, rfl, rfl⟩)
  exact ⟨⟨f, fd, d2, M, ok_init B hgcd T TZ F, T.g, b2, r2⟩, ⟨f, fd, d1, M, ok_init B hgcd T TZ F, T.g, b1, r1⟩⟩

def spAsRatio (C : Addr) : Sp := fun vs H Q _ => (∃ (x : Addr) (t u : Int), vs = [.ref x] ∧ RatAt C H x t u ∧ Q (.ref x) H) ∨ (∃ i : Int, vs = [.int i] ∧ ∀ (x : Addr) (H' : Hp), H x = none → Same H H' → RatAt C H' x i 1 → Q (.ref x) H')
abbrev CalAsRatio (P : Program) (w : World) (K : PySem.W.Frag) (mg : Str → Option Value) (base : Heap) (C : Addr) := Cal P w K mg base 3 "as_ratio" ["number"] (spAsRatio C)
theorem made {C x dx : Addr} {fs : List (Str × V)} {H H' : Hp} (nx : H x = none) (ndx : H dx = none) (hk : Keeps (upd (upd H dx (.own x)) x (.ins C dx fs)) H' x) : Same H H' := fun b o e =>
  hk b o (by rw [upd_ne (ne_of_none e nx), upd_ne (ne_of_none e ndx)]; exact e) (ne_of_none e nx)
theorem ok_as_ratio {C ZU : Addr} (B : Blt mg) (T : RatC K mg C) (D : Dfn K mg "as_ratio" "as_ratio" s_as_ratio ["number"]) (M1 : CalRatio P w K mg base C ZU [.int 1]) : CalAsRatio P w K mg base C := by
  refine D.cal sc_as_ratio (fun vs H Q E h => ?_) (fun f cdv A outer st H vs Q E hr h => ?_)
  · rcases h with ⟨x, t, u, rfl, _⟩ | ⟨i, rfl, _⟩ <;> rfl
  · have hr0 : Room 2 _ := hr
    refine ⟨_, (pss_cons (ps_if (pt_val (pe_callB call_isi (by rfl) B.isinstance (by decide +kernel) (pa_cons (pv 0) (pa_cons (pe_glob (v := .ref _) (by rfl) T.g rfl) pa_nil)))) (pss_one (ps_ret (pv 0))) pss_nil)
      (pss_one (ps_ret (pe_mk M1 (hr0.mono (by decide)) (pa_cons (pv 0) pa_nil))))), ?_⟩
    rcases h with ⟨x, t, u, rfl, ⟨dx, hx⟩, q⟩ | ⟨i, rfl, k⟩
    · refine ⟨_, rfl, _, _, _, _, true, rfl, .own _, T.tyX hx, kit_self _, _, rfl, iteT ?_⟩
      exact ⟨_, rfl, q⟩
    · refine ⟨_, rfl, _, _, _, _, false, rfl, .own _, .base (.int _), T.ki, _, rfl, iteF ?_⟩
      refine ⟨_, rfl, fun x dx nx ndx ne => ?_⟩
      refine ⟨x, dx, i, 1, rfl, upd_same, by decide, fun _ H' hx hk => ⟨rfl, ?_⟩, fun h => absurd h (by decide)⟩
      refine k x H' nx (made nx ndx hk) ⟨dx, ?_⟩
      rw [(n_one i).1, (n_one i).2] at hx
      exact hx
def spRatio (C : Addr) : Sp := fun vs H Q _ => ∃ (x : Addr) (t u : Int), vs = [.ref x] ∧ RatAt C H x t u ∧ Q (.bl (decide (u > 0))) H
abbrev CalRatioQ (P : Program) (w : World) (K : PySem.W.Frag) (mg : Str → Option Value) (base : Heap) (C : Addr) := Cal P w K mg base 2 "_law_ratio" ["_law_actual"] (spRatio C)
theorem ok_ratio {C : Addr} (B : Blt mg) (T : RatC K mg C) (D : Dfn K mg "_law_ratio" "_law_ratio" s_ratio ["_law_actual"]) (C_whole : CalWhole P w K mg base) : CalRatioQ P w K mg base C := by
  refine D.cal sc_ratio (fun vs H Q E h => ?_) (fun f cdv A outer st H vs Q E hr h => ?_)
  · obtain ⟨x, t, u, rfl, _⟩ := h
    rfl
  · obtain ⟨x, t, u, rfl, ⟨dx, hx⟩, q⟩ := h
    refine ⟨_, (pss_cons (ps_if (pt_not (pt_val (pe_callB call_isi (by rfl) B.isinstance (by decide +kernel) (pa_cons (pv 0) (pa_cons (pe_glob (v := .ref _) (by rfl) T.g rfl) pa_nil))))) (pss_one (ps_ret (pe_bl))) pss_nil)
      (pss_one (ps_ret ((pe_and (pe_cal C_whole (hr.mono (by decide)) (pa_cons (pe_fld (pv 0) rfl) pa_nil)) (pe_and (pe_cal C_whole (hr.mono (by decide)) (pa_cons (pe_fld (pv 0) rfl) pa_nil)) (pe_one (pe_cmpR op_gt (pe_fld (pv 0) rfl) (pe_int) (nomark _))))))))), ?_⟩
    refine ⟨_, rfl, _, _, _, _, true, rfl, .own _, T.tyX hx, kit_self _, _, rfl, iteF ?_⟩
    refine ⟨_, rfl, x, C, dx, _, _, rfl, hx, T.cl, T.nT, rf_top _ _, t, rfl, _, rfl, iteT ?_⟩
    refine ⟨_, rfl, x, C, dx, _, _, rfl, hx, T.cl, T.nU, rf_under _ _, u, rfl, _, rfl, iteT ?_⟩
    refine ⟨_, rfl, x, C, dx, _, _, rfl, hx, T.cl, T.nU, rf_under _ _, _, _, rfl, rfl, ?_⟩
    exact q

def Num (C : Addr) (H : Hp) (v : V) (t u : Int) : Prop := (v = .int t ∧ u = 1) ∨ ∃ x, v = .ref x ∧ RatAt C H x t u
theorem Num.same {C : Addr} {H H' : Hp} {v : V} {t u : Int} (h : Num C H v t u) (k : Same H H') : Num C H' v t u := by
  rcases h with h | ⟨x, e, h⟩
  · exact .inl h
  · exact .inr ⟨x, e, h.same k⟩
def spIsNum (C : Addr) : Sp := fun vs H Q _ => ∃ (v : V) (t u : Int), vs = [v] ∧ Num C H v t u ∧ Q (.bl true) H
abbrev CalIsNum (P : Program) (w : World) (K : PySem.W.Frag) (mg : Str → Option Value) (base : Heap) (C : Addr) := Cal P w K mg base 1 "is_number" ["value"] (spIsNum C)
theorem ok_is_number {C : Addr} (B : Blt mg) (T : RatC K mg C) (kci : PySem.W.kitOne K (.ref C) (.type "int") = some false) (D : Dfn K mg "is_number" "is_number" s_is_number ["value"]) : CalIsNum P w K mg base C := by
  refine D.cal sc_is_number (fun vs H Q E h => ?_) (fun fA cdv A outer st H vs Q E hr h => ?_)
  · obtain ⟨v, t, u, rfl, _⟩ := h
    rfl
  · obtain ⟨v, t, u, rfl, hv, q⟩ := h
    refine ⟨_, (pss_one (ps_ret ((pe_or (pe_callB call_isi (by rfl) B.isinstance (by decide +kernel) (pa_cons (pv 0) (pa_cons (pe_bltn (v := .ty "int") (by rfl) B.int (by decide +kernel) rfl) pa_nil))) (pe_one (pe_callB call_isi (by rfl) B.isinstance (by decide +kernel) (pa_cons (pv 0) (pa_cons (pe_glob (v := .ref _) (by rfl) T.g rfl) pa_nil)))))))), ?_⟩
    rcases hv with ⟨rfl, _⟩ | ⟨x, rfl, dx, hx⟩
    · refine ⟨_, rfl, _, _, _, _, true, rfl, .ty _, .base (.int _), kit_ty (by decide +kernel), _, rfl, iteT q⟩
    · refine ⟨_, rfl, _, _, _, _, false, rfl, .ty _, T.tyX hx, kci, _, rfl, iteF ?_⟩
      exact ⟨_, rfl, _, _, _, _, true, rfl, .own _, T.tyX hx, kit_self _, q⟩

def spTopOf (C : Addr) : Sp := fun vs H Q _ => ∃ (v : V) (t u : Int), vs = [v] ∧ Num C H v t u ∧ Q (.int t) H
abbrev CalTopOf (P : Program) (w : World) (K : PySem.W.Frag) (mg : Str → Option Value) (base : Heap) (C : Addr) := Cal P w K mg base 1 "_top_of" ["number"] (spTopOf C)
theorem ok_top_of {C : Addr} (B : Blt mg) (T : RatC K mg C) (D : Dfn K mg "_top_of" "_top_of" s_top_of ["number"]) : CalTopOf P w K mg base C := by
  refine D.cal sc_top_of (fun vs H Q E h => ?_) (fun fA cdv A outer st H vs Q E hr h => ?_)
  · obtain ⟨v, t, u, rfl, _⟩ := h
    rfl
  · obtain ⟨v, t, u, rfl, hv, q⟩ := h
    refine ⟨_, (pss_one (ps_ret (pe_ifExp (pt_val (pe_callB call_isi (by rfl) B.isinstance (by decide +kernel) (pa_cons (pv 0) (pa_cons (pe_glob (v := .ref _) (by rfl) T.g rfl) pa_nil)))) (pe_fld (pv 0) rfl) (pv 0)))), ?_⟩
    rcases hv with ⟨rfl, rfl⟩ | ⟨x, rfl, dx, hx⟩
    · refine ⟨_, rfl, _, _, _, _, false, rfl, .own _, .base (.int _), T.ki, _, rfl, iteF ?_⟩
      exact ⟨_, rfl, q⟩
    · refine ⟨_, rfl, _, _, _, _, true, rfl, .own _, T.tyX hx, kit_self _, _, rfl, iteT ?_⟩
      exact ⟨_, rfl, x, C, dx, _, _, rfl, hx, T.cl, T.nT, rf_top _ _, q⟩

def spUnderOf (C : Addr) : Sp := fun vs H Q _ => ∃ (v : V) (t u : Int), vs = [v] ∧ Num C H v t u ∧ Q (.int u) H
abbrev CalUnderOf (P : Program) (w : World) (K : PySem.W.Frag) (mg : Str → Option Value) (base : Heap) (C : Addr) := Cal P w K mg base 1 "_under_of" ["number"] (spUnderOf C)
theorem ok_under_of {C : Addr} (B : Blt mg) (T : RatC K mg C) (D : Dfn K mg "_under_of" "_under_of" s_under_of ["number"]) : CalUnderOf P w K mg base C := by
  refine D.cal sc_under_of (fun vs H Q E h => ?_) (fun fA cdv A outer st H vs Q E hr h => ?_)
  · obtain ⟨v, t, u, rfl, _⟩ := h
    rfl
  · obtain ⟨v, t, u, rfl, hv, q⟩ := h
    refine ⟨_, (pss_one (ps_ret (pe_ifExp (pt_val (pe_callB call_isi (by rfl) B.isinstance (by decide +kernel) (pa_cons (pv 0) (pa_cons (pe_glob (v := .ref _) (by rfl) T.g rfl) pa_nil)))) (pe_fld (pv 0) rfl) (pe_int)))), ?_⟩
    rcases hv with ⟨rfl, rfl⟩ | ⟨x, rfl, dx, hx⟩
    · refine ⟨_, rfl, _, _, _, _, false, rfl, .own _, .base (.int _), T.ki, _, rfl, iteF ?_⟩
      exact q
    · refine ⟨_, rfl, _, _, _, _, true, rfl, .own _, T.tyX hx, kit_self _, _, rfl, iteT ?_⟩
      exact ⟨_, rfl, x, C, dx, _, _, rfl, hx, T.cl, T.nU, rf_under _ _, q⟩

theorem wm {i j : Int} (h1 : i.natAbs < 2 ^ 9000) (h2 : j.natAbs < 2 ^ 9000) : CMulW i j := wide_mul h1 h2 (by decide) (by decide) (by decide)
theorem wu {i j : Int} (h1 : i.natAbs < 2 ^ 9000) (h2 : j.natAbs < 2 ^ 9000) : (i * j).natAbs < 2 ^ 18000 := Nat.lt_of_lt_of_le (wide_lt h1 h2) (Nat.pow_le_pow_right (by decide) (by decide))
structure Sm (a b t u : Int) : Prop where
  sa : a.natAbs < 2 ^ 9000
  sb : b.natAbs < 2 ^ 9000
  st : t.natAbs < 2 ^ 9000
  su : u.natAbs < 2 ^ 9000
  bp : 0 < b
  up : 0 < u
def spAr (C : Addr) (f g : Int → Int → Int → Int → Int) : Sp := fun vs H Q _ => ∃ (x : Addr) (v : V) (a b t u : Int), vs = [.ref x, v] ∧ RatAt C H x a b ∧ Num C H v t u ∧ Sm a b t u ∧ ∀ (z : Addr) (H' : Hp), Same H H' → RatAt C H' z (nT (f a b t u) (g a b t u)) (nU (f a b t u) (g a b t u)) → Q (.ref z) H'
def spArR (C : Addr) (f g : Int → Int → Int → Int) : Sp := fun vs H Q _ => ∃ (x : Addr) (n a b : Int), vs = [.ref x, .int n] ∧ RatAt C H x a b ∧ Sm a b n 1 ∧ ∀ (z : Addr) (H' : Hp), Same H H' → RatAt C H' z (nT (f a b n) (g a b n)) (nU (f a b n) (g a b n)) → Q (.ref z) H'

end
end L

set_option Elab.async false
set_option linter.all false
set_option maxRecDepth 100000
set_option maxHeartbeats 4000000
set_option pp.maxSteps 160
set_option pp.deepTerms false
namespace L
open PySem PySem.Spec PyProof.Rows L2 Fl
local macro_rules | `(tactic| walk_at "side") => `(tactic| first | (exact .inl ⟨by omega, by omega⟩) | (exact .inr ⟨by omega, by omega⟩) | (exact .inr ⟨by decide, by decide⟩) | (show (_ : Int) ≠ _; omega) | (exact ⟨by omega, by decide⟩) | (exact ⟨by decide, by decide, by decide⟩))
local macro_rules | `(tactic| walk_at "go") => `(tactic| repeat (first | refine ⟨_, rfl, ?_⟩ | refine ⟨_, _, rfl, rfl, ?_⟩ | refine .inl ⟨_, rfl, ?_⟩ | refine ⟨rfl, ?_⟩ | refine ⟨(by walk_at "side"), ?_⟩))
local macro_rules | `(tactic| walk_at "see") => `(tactic| (set_option pp.maxSteps 110 in set_option pp.deepTerms false in trace_state))
local macro_rules | `(tactic| walk_at "if") => `(tactic| first | refine ifE ?_ ?_ | refine ifNE ?_ ?_ | refine ifD ?_ ?_ | refine ifN ?_ ?_ | refine ifB ?_ ?_)
open Bx
section
variable {P : Program} {w : World} {K : PySem.W.Frag} {mg : Str → Option Value} {base : Heap}

/-! ### order -/
def spCmp (C : Addr) (f : Int → Int → Bool) : Sp := fun vs H Q _ => ∃ (x : Addr) (v : V) (a b t u : Int), vs = [.ref x, v] ∧ RatAt C H x a b ∧ Num C H v t u ∧ Sm a b t u ∧ Q (.bl (f (a * u) (t * b))) H
theorem ok_lt {C fA : Addr} {fd : FuncData} (T : RatC K mg C) (C_is_number : CalIsNum P w K mg base C) (C_top_of : CalTopOf P w K mg base C) (C_under_of : CalUnderOf P w K mg base C) (F : Fun K "__lt__" "Ratio.__lt__" s_Ratio_lt fA fd) : FnOk P w K mg base CX0 2 fA fd ["self", "other"] (spCmp C fun i j => decide (i < j)) := by
  refine F.ok sc_Ratio_lt (fun vs H Q E h => ?_) (fun cdv A outer st H vs Q E hr h => ?_)
  · obtain ⟨x, v, a, b, t, u, rfl, _⟩ := h
    rfl
  · obtain ⟨x, v, a, b, t, u, rfl, ⟨dx, hx⟩, hv, sm, q⟩ := h
    have W := (Al.nil (H := H)).got hx
    refine ⟨_, (pss_cons (ps_if (pt_not (pt_val (pe_cal C_is_number (hr.mono (by decide)) (pa_cons (pv 1) pa_nil)))) (pss_one (ps_never)) pss_nil)
      (pss_one (ps_ret (pe_cmpR op_lt (pe_op op_mulW (pe_fld (pv 0) rfl) (pe_cal C_under_of (hr.mono (by decide)) (pa_cons (pv 1) pa_nil))) (pe_op op_mulW (pe_cal C_top_of (hr.mono (by decide)) (pa_cons (pv 1) pa_nil)) (pe_fld (pv 0) rfl)) (nomark _))))), ?_⟩
    refine ⟨_, rfl, v, t, u, rfl, hv, _, rfl, iteF ?_⟩
    exact ⟨_, rfl, x, C, dx, _, _, rfl, (W.at (List.Mem.head _)), T.cl, T.nT, rf_top _ _, _, rfl, v, t, u, rfl, hv, _, _, rfl, rfl, wide_mul sm.sa sm.su (by decide) (by decide) (by decide), _, rfl, v, t, u, rfl, hv, _, rfl, x, C, dx, _, _, rfl, (W.at (List.Mem.head _)), T.cl, T.nU, rf_under _ _, _, _, rfl, rfl, wide_mul sm.st sm.sb (by decide) (by decide) (by decide), _, _, rfl, rfl, q⟩
theorem ok_le {C fA : Addr} {fd : FuncData} (T : RatC K mg C) (C_is_number : CalIsNum P w K mg base C) (C_top_of : CalTopOf P w K mg base C) (C_under_of : CalUnderOf P w K mg base C) (F : Fun K "__le__" "Ratio.__le__" s_Ratio_le fA fd) : FnOk P w K mg base CX0 2 fA fd ["self", "other"] (spCmp C fun i j => decide (i ≤ j)) := by
  refine F.ok sc_Ratio_le (fun vs H Q E h => ?_) (fun cdv A outer st H vs Q E hr h => ?_)
  · obtain ⟨x, v, a, b, t, u, rfl, _⟩ := h
    rfl
  · obtain ⟨x, v, a, b, t, u, rfl, ⟨dx, hx⟩, hv, sm, q⟩ := h
    have W := (Al.nil (H := H)).got hx
    refine ⟨_, (pss_cons (ps_if (pt_not (pt_val (pe_cal C_is_number (hr.mono (by decide)) (pa_cons (pv 1) pa_nil)))) (pss_one (ps_never)) pss_nil)
      (pss_one (ps_ret (pe_cmpR op_le (pe_op op_mulW (pe_fld (pv 0) rfl) (pe_cal C_under_of (hr.mono (by decide)) (pa_cons (pv 1) pa_nil))) (pe_op op_mulW (pe_cal C_top_of (hr.mono (by decide)) (pa_cons (pv 1) pa_nil)) (pe_fld (pv 0) rfl)) (nomark _))))), ?_⟩
    refine ⟨_, rfl, v, t, u, rfl, hv, _, rfl, iteF ?_⟩
    exact ⟨_, rfl, x, C, dx, _, _, rfl, (W.at (List.Mem.head _)), T.cl, T.nT, rf_top _ _, _, rfl, v, t, u, rfl, hv, _, _, rfl, rfl, wide_mul sm.sa sm.su (by decide) (by decide) (by decide), _, rfl, v, t, u, rfl, hv, _, rfl, x, C, dx, _, _, rfl, (W.at (List.Mem.head _)), T.cl, T.nU, rf_under _ _, _, _, rfl, rfl, wide_mul sm.st sm.sb (by decide) (by decide) (by decide), _, _, rfl, rfl, q⟩
theorem ok_gt {C fA : Addr} {fd : FuncData} (T : RatC K mg C) (C_is_number : CalIsNum P w K mg base C) (C_top_of : CalTopOf P w K mg base C) (C_under_of : CalUnderOf P w K mg base C) (F : Fun K "__gt__" "Ratio.__gt__" s_Ratio_gt fA fd) : FnOk P w K mg base CX0 2 fA fd ["self", "other"] (spCmp C fun i j => decide (i > j)) := by
  refine F.ok sc_Ratio_gt (fun vs H Q E h => ?_) (fun cdv A outer st H vs Q E hr h => ?_)
  · obtain ⟨x, v, a, b, t, u, rfl, _⟩ := h
    rfl
  · obtain ⟨x, v, a, b, t, u, rfl, ⟨dx, hx⟩, hv, sm, q⟩ := h
    have W := (Al.nil (H := H)).got hx
    refine ⟨_, (pss_cons (ps_if (pt_not (pt_val (pe_cal C_is_number (hr.mono (by decide)) (pa_cons (pv 1) pa_nil)))) (pss_one (ps_never)) pss_nil)
      (pss_one (ps_ret (pe_cmpR op_gt (pe_op op_mulW (pe_fld (pv 0) rfl) (pe_cal C_under_of (hr.mono (by decide)) (pa_cons (pv 1) pa_nil))) (pe_op op_mulW (pe_cal C_top_of (hr.mono (by decide)) (pa_cons (pv 1) pa_nil)) (pe_fld (pv 0) rfl)) (nomark _))))), ?_⟩
    refine ⟨_, rfl, v, t, u, rfl, hv, _, rfl, iteF ?_⟩
    exact ⟨_, rfl, x, C, dx, _, _, rfl, (W.at (List.Mem.head _)), T.cl, T.nT, rf_top _ _, _, rfl, v, t, u, rfl, hv, _, _, rfl, rfl, wide_mul sm.sa sm.su (by decide) (by decide) (by decide), _, rfl, v, t, u, rfl, hv, _, rfl, x, C, dx, _, _, rfl, (W.at (List.Mem.head _)), T.cl, T.nU, rf_under _ _, _, _, rfl, rfl, wide_mul sm.st sm.sb (by decide) (by decide) (by decide), _, _, rfl, rfl, q⟩
theorem ok_ge {C fA : Addr} {fd : FuncData} (T : RatC K mg C) (C_is_number : CalIsNum P w K mg base C) (C_top_of : CalTopOf P w K mg base C) (C_under_of : CalUnderOf P w K mg base C) (F : Fun K "__ge__" "Ratio.__ge__" s_Ratio_ge fA fd) : FnOk P w K mg base CX0 2 fA fd ["self", "other"] (spCmp C fun i j => decide (i ≥ j)) := by
  refine F.ok sc_Ratio_ge (fun vs H Q E h => ?_) (fun cdv A outer st H vs Q E hr h => ?_)
  · obtain ⟨x, v, a, b, t, u, rfl, _⟩ := h
    rfl
  · obtain ⟨x, v, a, b, t, u, rfl, ⟨dx, hx⟩, hv, sm, q⟩ := h
    have W := (Al.nil (H := H)).got hx
    refine ⟨_, (pss_cons (ps_if (pt_not (pt_val (pe_cal C_is_number (hr.mono (by decide)) (pa_cons (pv 1) pa_nil)))) (pss_one (ps_never)) pss_nil)
      (pss_one (ps_ret (pe_cmpR op_ge (pe_op op_mulW (pe_fld (pv 0) rfl) (pe_cal C_under_of (hr.mono (by decide)) (pa_cons (pv 1) pa_nil))) (pe_op op_mulW (pe_cal C_top_of (hr.mono (by decide)) (pa_cons (pv 1) pa_nil)) (pe_fld (pv 0) rfl)) (nomark _))))), ?_⟩
    refine ⟨_, rfl, v, t, u, rfl, hv, _, rfl, iteF ?_⟩
    exact ⟨_, rfl, x, C, dx, _, _, rfl, (W.at (List.Mem.head _)), T.cl, T.nT, rf_top _ _, _, rfl, v, t, u, rfl, hv, _, _, rfl, rfl, wide_mul sm.sa sm.su (by decide) (by decide) (by decide), _, rfl, v, t, u, rfl, hv, _, rfl, x, C, dx, _, _, rfl, (W.at (List.Mem.head _)), T.cl, T.nU, rf_under _ _, _, _, rfl, rfl, wide_mul sm.st sm.sb (by decide) (by decide) (by decide), _, _, rfl, rfl, q⟩

theorem eqv {Q : VK} {H : Hp} {a b : Int} {p : Prop} [Decidable p] (h : p ↔ a = b) (q : Q (.bl (decide p)) H) : Q (.bl (decide (V.int a = V.int b))) H := by
  by_cases e : a = b
  · rw [decide_eq_true (h.2 e)] at q
    rw [decide_eq_true (show V.int a = V.int b by rw [e])]
    exact q
  · rw [decide_eq_false (fun z => e (h.1 z))] at q
    rw [decide_eq_false (show ¬ V.int a = V.int b from fun z => e (V.int.inj z))]
    exact q
def spEqR (K : PySem.W.Frag) (C : Addr) : Sp := fun vs H Q _ => (∃ (x : Addr) (v : V) (a b t u : Int), vs = [.ref x, v] ∧ RatAt C H x a b ∧ Num C H v t u ∧ Q (.bl (decide (a = t ∧ b = u))) H) ∨
  ∃ (x : Addr) (v : V) (a b : Int) (ty : Value), vs = [.ref x, v] ∧ RatAt C H x a b ∧ TyX K H v ty ∧ PySem.W.kitOne K ty (.ref C) = some false ∧ PySem.W.kitOne K ty (.type "int") = some false ∧ Q (.bl false) H
theorem ok_eq {C fA : Addr} {fd : FuncData} (B : Blt mg) (T : RatC K mg C) (F : Fun K "__eq__" "Ratio.__eq__" s_Ratio_eq fA fd) : FnOk P w K mg base CX0 1 fA fd ["self", "other"] (spEqR K C) := by
  refine F.ok sc_Ratio_eq (fun vs H Q E h => ?_) (fun cdv A outer st H vs Q E hr h => ?_)
  · rcases h with ⟨x, v, a, b, t, u, rfl, _⟩ | ⟨x, v, a, b, ty, rfl, _⟩ <;> rfl
  refine ⟨_, (pss_cons (ps_if (pt_val (pe_callB call_isi (by rfl) B.isinstance (by decide +kernel) (pa_cons (pv 1) (pa_cons (pe_glob (v := .ref _) (by rfl) T.g rfl) pa_nil)))) (pss_one (ps_ret ((pe_and (pe_cmpR op_eq (pe_fld (pv 0) rfl) (pe_fld (pv 1) rfl) (nomark _)) (pe_one (pe_cmpR op_eq (pe_fld (pv 0) rfl) (pe_fld (pv 1) rfl) (nomark _))))))) pss_nil)
      (pss_one (ps_ret ((pe_and (pe_callB call_isi (by rfl) B.isinstance (by decide +kernel) (pa_cons (pv 1) (pa_cons (pe_bltn (v := .ty "int") (by rfl) B.int (by decide +kernel) rfl) pa_nil))) (pe_and (pe_cmpR op_eq (pe_fld (pv 0) rfl) (pe_int) (nomark _)) (pe_one (pe_cmpR op_eq (pe_fld (pv 0) rfl) (pv 1) (nomark _))))))))), ?_⟩
  rcases h with ⟨x, v, a, b, t, u, rfl, ⟨dx, hx⟩, hv, q⟩ | ⟨x, v, a, b, tt, rfl, ⟨dx, hx⟩, ty, k1, k2, q⟩
  · rcases hv with ⟨rfl, rfl⟩ | ⟨y, rfl, dy, hy⟩
    · have W := (Al.nil (H := H)).got hx
      refine ⟨_, rfl, _, _, _, _, false, rfl, .own _, .base (.int _), T.ki, _, rfl, iteF ?_⟩
      refine ⟨_, rfl, _, _, _, _, true, rfl, .ty _, .base (.int _), kit_ty (by decide +kernel), _, rfl, iteT ?_⟩
      refine ⟨_, rfl, x, C, dx, _, _, rfl, (W.at (List.Mem.head _)), T.cl, T.nU, rf_under _ _, rfl, _, rfl, ifE (fun h1 => ?_) (fun h1 => ?_)⟩
      · skip
        refine ⟨_, rfl, x, C, dx, _, _, rfl, (W.at (List.Mem.head _)), T.cl, T.nT, rf_top _ _, _, rfl, rfl, ?_⟩
        refine eqv ?_ q
        omega
      · skip
        exact (by have e := q; rw [decide_eq_false (by omega)] at e; exact e)
    · have W := ((Al.nil (H := H)).got hy).got hx
      refine ⟨_, rfl, _, _, _, _, true, rfl, .own _, T.tyX (W.at (List.Mem.tail _ (List.Mem.head _))), kit_self _, _, rfl, iteT ?_⟩
      refine ⟨_, rfl, x, C, dx, _, _, rfl, (W.at (List.Mem.head _)), T.cl, T.nT, rf_top _ _, _, rfl, y, C, dy, _, _, rfl, (W.at (List.Mem.tail _ (List.Mem.head _))), T.cl, T.nT, rf_top _ _, rfl, _, rfl, ifE (fun h1 => ?_) (fun h1 => ?_)⟩
      · skip
        refine ⟨_, rfl, x, C, dx, _, _, rfl, (W.at (List.Mem.head _)), T.cl, T.nU, rf_under _ _, _, rfl, y, C, dy, _, _, rfl, (W.at (List.Mem.tail _ (List.Mem.head _))), T.cl, T.nU, rf_under _ _, rfl, ?_⟩
        refine eqv ?_ q
        omega
      · skip
        exact (by have e := q; rw [decide_eq_false (by omega)] at e; exact e)
  · have W := (Al.nil (H := H)).got hx
    refine ⟨_, rfl, _, _, _, _, false, rfl, .own _, ty, k1, _, rfl, iteF ?_⟩
    refine ⟨_, rfl, _, _, _, _, false, rfl, .ty _, ty, k2, _, rfl, iteF ?_⟩
    exact q
/-! ### truth, text -/
def spBool (C : Addr) : Sp := fun vs H Q _ => ∃ (x : Addr) (a b : Int), vs = [.ref x] ∧ RatAt C H x a b ∧ Q (.bl (a != 0)) H
theorem ok_bool {C fA : Addr} {fd : FuncData} (B : Blt mg) (T : RatC K mg C) (F : Fun K "__bool__" "Ratio.__bool__" s_Ratio_bool fA fd) : FnOk P w K mg base CX0 1 fA fd ["self"] (spBool C) := by
  refine F.ok sc_Ratio_bool (fun vs H Q E h => ?_) (fun cdv A outer st H vs Q E hr h => ?_)
  · obtain ⟨x, a, b, rfl, _⟩ := h
    rfl
  · obtain ⟨x, a, b, rfl, ⟨dx, hx⟩, q⟩ := h
    refine ⟨_, (pss_one (ps_ret (pe_callTy call_bool1 (by rfl) B.bool (by decide +kernel) (pa_cons (pe_fld (pv 0) rfl) pa_nil)))), ?_⟩
    exact ⟨_, rfl, x, C, dx, _, _, rfl, hx, T.cl, T.nT, rf_top _ _, .inl ⟨_, rfl, q⟩⟩
def sT (a : Int) : Str := Str.ofString (toString a)
def ratS (a b : Int) : Str := if b = 1 then sT a else sT a ++ ("/" : Str) ++ sT b
theorem sT_len {a : Int} (h : a.natAbs.log2 < 1920) : (sT a).length ≤ 1921 := PyProof.Rows.int_text_len_1921 h
theorem app_len (x y : Str) : (x ++ y).length = x.length + y.length := by
  show (x.cps ++ y.cps).size = _
  rw [Array.size_append]
  rfl
theorem e_app (x : Str) : Str.empty ++ x = x := by
  show (⟨#[] ++ x.cps⟩ : Str) = x
  rw [Array.empty_append]
def spStrR (C : Addr) : Sp := fun vs H Q _ => ∃ (x : Addr) (a b : Int), vs = [.ref x] ∧ RatAt C H x a b ∧ a.natAbs.log2 < 1920 ∧ b.natAbs.log2 < 1920 ∧ Q (.str (ratS a b)) H
theorem ok_str {C fA : Addr} {fd : FuncData} (B : Blt mg) (T : RatC K mg C) (F : Fun K "__str__" "Ratio.__str__" s_Ratio_str fA fd) : FnOk P w K mg base CX0 1 fA fd ["self"] (spStrR C) := by
  refine F.ok sc_Ratio_str (fun vs H Q E h => ?_) (fun cdv A outer st H vs Q E hr h => ?_)
  · obtain ⟨x, a, b, rfl, _⟩ := h
    rfl
  · obtain ⟨x, a, b, rfl, ⟨dx, hx⟩, ha, hb, q⟩ := h
    have l1 := sT_len ha
    have l2 := sT_len hb
    refine ⟨_, (pss_cons (ps_if (pt_cmpR op_eq (pe_fld (pv 0) rfl) (pe_int) (nomark _)) (pss_one (ps_ret (pe_callTy call_str_int (by rfl) B.str (by decide +kernel) (pa_cons (pe_fld (pv 0) rfl) pa_nil)))) pss_nil)
      (pss_one (ps_ret (pe_joined (.cons (pe_fmt (pe_fld (pv 0) rfl)) (.cons pe_str (.cons (pe_fmt (pe_fld (pv 0) rfl)) .nil))))))), ?_⟩
    refine ⟨_, rfl, x, C, dx, _, _, rfl, hx, T.cl, T.nU, rf_under _ _, rfl, _, rfl, ?_⟩
    refine ifE (fun e => ?_) (fun e => ?_)
    · refine ⟨_, rfl, x, C, dx, _, _, rfl, hx, T.cl, T.nT, rf_top _ _, _, rfl, ha, ?_⟩
      unfold ratS at q
      rw [if_pos e] at q
      exact q
    · refine ⟨_, rfl, x, C, dx, _, _, rfl, hx, T.cl, T.nT, rf_top _ _, .inr ⟨_, rfl, ha, sT a, rfl, ?_, ?_⟩⟩
      · rw [e_app]
        exact Nat.le_trans l1 (by decide)
      refine ⟨"/", rfl, ?_, ?_⟩
      · rw [e_app, app_len]
        exact Nat.le_trans (Nat.add_le_add_right l1 _) (by decide)
      refine ⟨_, rfl, x, C, dx, _, _, rfl, hx, T.cl, T.nU, rf_under _ _, .inr ⟨_, rfl, hb, sT b, rfl, ?_, ?_⟩⟩
      · rw [e_app, app_len, app_len]
        exact Nat.le_trans (Nat.add_le_add (Nat.add_le_add_right l1 _) l2) (by decide)
      unfold ratS at q
      rw [if_neg e] at q
      rw [e_app]
      exact q
/-! ### powers -/
theorem pow_bd {a : Int} {b : Nat} (h : a.natAbs < 2 ^ b) : ∀ n : Nat, (a ^ n).natAbs < 2 ^ (b * n + 1)
  | 0 => by rw [Int.pow_zero]; exact Nat.lt_of_lt_of_le (by decide : (1 : Int).natAbs < 2 ^ 1) (Nat.pow_le_pow_right (by decide) (by omega))
  | n + 1 => by
    rw [Int.pow_succ, Int.natAbs_mul, Nat.mul_succ, show b * n + b + 1 = (b * n + 1) + b by omega, Nat.pow_add]
    exact Nat.mul_lt_mul'' (pow_bd h n) h
theorem pow_b64 {a : Int} {n : Nat} (h : a.natAbs < 2 ^ 133) (hn : n ≤ 64) : (a ^ n).natAbs < 2 ^ 8600 := Nat.lt_of_lt_of_le (pow_bd h n) (Nat.pow_le_pow_right (by decide) (by omega))
theorem ipos : ∀ (n : Nat) {b : Int}, 0 < b → 0 < b ^ n
  | 0, b, _ => by rw [Int.pow_zero]; decide
  | n + 1, b, h => by rw [Int.pow_succ]; exact Int.mul_pos (ipos n h) h
def spPower (C BN : Addr) : Sp := fun vs H Q E => ∃ (x : Addr) (a b n : Int), vs = [.ref x, .int n] ∧ RatAt C H x a b ∧ 0 < b ∧ (¬ (0 ≤ n ∧ n ≤ 64) → Ref E BN H "power" n) ∧
  (0 ≤ n → n ≤ 64 → a.natAbs < 2 ^ 133 ∧ b.natAbs < 2 ^ 133 ∧ ∀ (z : Addr) (H' : Hp), Same H H' → RatAt C H' z (nT (a ^ n.toNat) (b ^ n.toNat)) (nU (a ^ n.toNat) (b ^ n.toNat)) → Q (.ref z) H')
theorem ok_power {C BN ZU fA : Addr} {fd : FuncData} {tk : Tok} (B : Blt mg) (T : RatC K mg C) (TB : BnC K mg BN) (CE : CalE P w K mg base 1 BN) (M2 : CalRatio P w K mg base C ZU []) (gMP : mg "MOST_POWER" = some (.int 64 tk)) (F : Fun K "power" "Ratio.power" s_Ratio_power fA fd) : FnOk P w K mg base (L2.CX P w) 3 fA fd ["self", "n"] (spPower C BN) := by
  refine F.okX sc_Ratio_power (fun vs H Q E h => ?_) (fun cdv A outer st H vs Q E hr h => ?_)
  · obtain ⟨x, a, b, n, rfl, _⟩ := h
    rfl
  · obtain ⟨x, a, b, n, rfl, ⟨dx, hx⟩, b0, k0, k⟩ := h
    have hr0 : Room 2 _ := hr
    refine ⟨_, (pss_cons (ps_if (PW.pt (pw_or (pt_not (pt_val (pe_callB call_isi (by rfl) B.isinstance (by decide +kernel) (pa_cons (pv 1) (pa_cons (pe_bltn (v := .ty "int") (by rfl) B.int (by decide +kernel) rfl) pa_nil))))) (pw_or1 (pt_not (pt_chain op_le op_le (pe_int) (pv 1) (pe_glob (v := .int 64) (by rfl) gMP ⟨_, rfl⟩)))))) (pss_one (ps_raise rfl (takes_of rfl rfl rfl rfl) (pmk_bn TB CE (hr.mono (by decide)) (pa_cons pe_str (pa_cons (pv 1) pa_nil))))) pss_nil)
      (PSs.nox (pss_cons (ps_set (i := 2) sc_Ratio_power.nd rfl (Or.inl rfl) (pe_int))
      (pss_cons (ps_set (i := 3) sc_Ratio_power.nd rfl (Or.inl rfl) (pe_int))
      (pss_cons (ps_for PassesOwn.never rfl (pi_range1 (by rfl) B.range (pa_cons (pv 1) pa_nil)) (pg_name (i := 4) sc_Ratio_power.nd rfl (Or.inl rfl)) (pss_cons (ps_set (i := 2) sc_Ratio_power.nd rfl (Or.inl rfl) (pe_op op_mulW (pv 2) (pe_fld (pv 0) rfl)))
      (pss_one (ps_set (i := 3) sc_Ratio_power.nd rfl (Or.inl rfl) (pe_op op_mulW (pv 3) (pe_fld (pv 0) rfl))))))
      (pss_one (ps_ret (pe_mk M2 (hr.mono (by decide)) (pa_cons (pv 2) (pa_cons (pv 3) pa_nil)))))))))), ?_⟩
    refine ⟨_, rfl, _, _, _, _, true, rfl, .ty _, .base (.int _), kit_ty (by decide +kernel), _, rfl, iteF ?_⟩
    refine ⟨_, rfl, _, _, rfl, rfl, _, rfl, ifD (fun h1 => ?_) (fun h1 => ?_)⟩
    · refine ⟨_, _, rfl, rfl, _, rfl, ifN (fun h2 => ?_) (fun h2 => ?_)⟩
      · exact ⟨_, rfl, bn_made (k0 (by omega))⟩
      obtain ⟨ha, hb, k⟩ := k h1 h2
      refine ⟨_, rfl, n, rfl, by omega, by omega, for_range (n := n.toNat) (fun i σ' H' => H' = H ∧ ∃ v : Option V, σ' = [some (.ref x), some (.int n), some (.int (a ^ i)), some (.int (b ^ i)), v])
        ⟨rfl, none, by rw [Int.pow_zero, Int.pow_zero]; rfl⟩ ?_ ?_⟩
      · rintro i σ' H' hi ⟨rfl, v, rfl⟩
        have i64 : i ≤ 64 := by omega
        refine ⟨_, rfl, _, rfl, x, C, dx, _, _, rfl, hx, T.cl, T.nT, rf_top _ _, _, _, rfl, rfl, wide_mul (pow_b64 ha i64) ha (by decide) (by decide) (by decide), ?_⟩
        refine ⟨_, rfl, _, rfl, x, C, dx, _, _, rfl, hx, T.cl, T.nU, rf_under _ _, _, _, rfl, rfl, wide_mul (pow_b64 hb i64) hb (by decide) (by decide) (by decide), ?_⟩
        exact ⟨rfl, _, by rw [Int.pow_succ, Int.pow_succ]; rfl⟩
      · rintro σ' H' ⟨rfl, v, rfl⟩
        have n64 : n.toNat ≤ 64 := by omega
        refine ⟨_, rfl, _, rfl, fun z dz nz ndz ne => ?_⟩
        exact ⟨z, dz, _, _, rfl, upd_same, ub (pow_b64 hb n64) (by decide), fun _ H' hz hk => ⟨rfl, k z H' (made nz ndz hk) ⟨dz, hz⟩⟩, fun h => absurd h (Int.ne_of_gt (ipos _ b0))⟩
    · refine ⟨_, rfl, iteT ?_⟩
      exact ⟨_, rfl, bn_made (k0 (by omega))⟩
theorem ok_pow {C BN fA : Addr} {fd : FuncData} (T : RatC K mg C) (PW : OwnX P w K mg base 3 C "power" ["self", "n"] (spPower C BN)) (F : Fun K "__pow__" "Ratio.__pow__" s_Ratio_pow fA fd) : FnOk P w K mg base (L2.CX P w) 4 fA fd ["self", "other"] (spPower C BN) := by
  refine F.okX sc_Ratio_pow (fun vs H Q E h => ?_) (fun cdv A outer st H vs Q E hr h => ?_)
  · obtain ⟨x, a, b, n, rfl, _⟩ := h
    rfl
  · obtain ⟨x, a, b, n, rfl, ⟨dx, hx⟩, h⟩ := h
    refine ⟨_, (pss_one (ps_ret (pe_methX PW T.cl (fun σ => passAt (takes_of rfl rfl rfl rfl) σ) (hr.mono (by decide)) (pv 0) (pa_cons (pv 1) pa_nil)))), ?_⟩
    exact ⟨_, rfl, x, dx, _, rfl, hx, rf_no _ _ (by decide +kernel) (by decide +kernel), _, rfl, x, a, b, n, rfl, ⟨dx, hx⟩, h⟩
end
end L

set_option Elab.async false
set_option linter.all false
set_option maxRecDepth 100000
set_option maxHeartbeats 4000000
set_option pp.maxSteps 160
set_option pp.deepTerms false
namespace L
open PySem PySem.Spec PyProof.Rows L2 Fl
local macro_rules | `(tactic| walk_at "side") => `(tactic| first | (exact .inl ⟨by omega, by omega⟩) | (exact .inr ⟨by omega, by omega⟩) | (exact .inr ⟨by decide, by decide⟩) | (show (_ : Int) ≠ _; omega) | (exact ⟨by omega, by decide⟩) | (exact ⟨by decide, by decide, by decide⟩))
local macro_rules | `(tactic| walk_at "go") => `(tactic| repeat (first | refine ⟨_, rfl, ?_⟩ | refine ⟨_, _, rfl, rfl, ?_⟩ | refine .inl ⟨_, rfl, ?_⟩ | refine ⟨rfl, ?_⟩ | refine ⟨(by walk_at "side"), ?_⟩))
local macro_rules | `(tactic| walk_at "see") => `(tactic| (set_option pp.maxSteps 110 in set_option pp.deepTerms false in trace_state))
local macro_rules | `(tactic| walk_at "if") => `(tactic| first | refine ifE ?_ ?_ | refine ifNE ?_ ?_ | refine ifD ?_ ?_ | refine ifN ?_ ?_ | refine ifB ?_ ?_)
open Bx

theorem n_eq {t u n m : Int} (hu : u ≠ 0) (hm : m ≠ 0) (e : t * m = n * u) : nT t u = nT n m ∧ nU t u = nU n m := by
  have c := n_cross t u
  refine n_uniq hm (nU_pos hu) (n_gcd hu) (Int.eq_of_mul_eq_mul_right hu ?_)
  grind
theorem nU_bd {n m n' m' : Int} {b : Nat} (hm : m ≠ 0) (hm' : m' ≠ 0) (e : n * m' = n' * m) (h : m'.natAbs < b) : (nU n m).natAbs < b := by
  rw [(n_eq hm hm' e).2]
  exact Nat.lt_of_le_of_lt (nU_le hm') h
section
variable {P : Program} {w : World} {K : PySem.W.Frag} {mg : Str → Option Value} {base : Heap}

/-! ### signs of differences -/
theorem pos_iff {x y : Int} (hy : 0 < y) : (0 < x * y ↔ 0 < x) ∧ (x * y = 0 ↔ x = 0) := by
  rcases (by omega : x < 0 ∨ x = 0 ∨ 0 < x) with h | h | h
  · have := Int.mul_neg_of_neg_of_pos h hy
    omega
  · subst h
    rw [Int.zero_mul]
    omega
  · have := Int.mul_pos h hy
    omega
structure Sg (A B G : Int) : Prop where
  lt : A < B ↔ G < 0
  le : A ≤ B ↔ G ≤ 0
theorem sgn {n m n' m' a b t u : Int} (hm : 0 < m) (hm' : 0 < m') (hb : 0 < b) (hu : 0 < u) (e1 : a * m = n * b) (e2 : t * m' = n' * u) : Sg (a * u) (t * b) (n * m' - n' * m) := by
  have k1 : 0 < m * m' := Int.mul_pos hm hm'
  have k2 : 0 < b * u := Int.mul_pos hb hu
  have e : (a * u - t * b) * (m * m') = (n * m' - n' * m) * (b * u) := by grind
  have a1 := pos_iff (x := a * u - t * b) k1
  have a2 := pos_iff (x := n * m' - n' * m) k2
  rw [e] at a1
  generalize (n * m' - n' * m) * (b * u) = Z at *
  generalize n * m' - n' * m = G at *
  generalize a * u = A at *
  generalize t * b = B at *
  exact ⟨by omega, by omega⟩
/-- what is asked of two numbers and the sign of their difference -/
structure SgF (a b t u gap : Int) : Prop where
  s : Sg (a * u) (t * b) gap
  e : (a = t ∧ b = u) ↔ gap = 0
  bp : 0 < b
  up : 0 < u
  sa : a.natAbs < 2 ^ 9000
  sb : b.natAbs < 2 ^ 9000
  st : t.natAbs < 2 ^ 9000
  su : u.natAbs < 2 ^ 9000
theorem SgF.sm {a b t u gap : Int} (h : SgF a b t u gap) : Sm a b t u := ⟨h.sa, h.sb, h.st, h.su, h.bp, h.up⟩
theorem SgF.ms {a b t u gap : Int} (h : SgF a b t u gap) : Sm t u a b := ⟨h.st, h.su, h.sa, h.sb, h.up, h.bp⟩
theorem dvi (i j : Int) : decide (V.int i = V.int j) = decide (i = j) := by
  by_cases h : i = j
  · rw [decide_eq_true h, decide_eq_true (show V.int i = V.int j by rw [h])]
  · rw [decide_eq_false h, decide_eq_false (fun e => h (V.int.inj e))]
theorem jb {p q : Bool} {A B : Prop} (h : p = q) (x : B) : if (!decide (V.bl p = V.bl q)) = true then A else B := niT (by rw [h]) x
theorem sg_of {n m n' m' : Int} (hm : 0 < m) (hm' : 0 < m') (b1 : n.natAbs < 2 ^ 9000) (b2 : m.natAbs < 2 ^ 9000) (b3 : n'.natAbs < 2 ^ 9000) (b4 : m'.natAbs < 2 ^ 9000) : SgF (nT n m) (nU n m) (nT n' m') (nU n' m') (n * m' - n' * m) := by
  have zm : m ≠ 0 := by omega
  have zm' : m' ≠ 0 := by omega
  refine ⟨sgn hm hm' (nU_pos zm) (nU_pos zm') (n_cross n m) (n_cross n' m'), ?_, nU_pos zm, nU_pos zm', Nat.lt_of_le_of_lt (nT_le zm) b1, Nat.lt_of_le_of_lt (nU_le zm) b2, Nat.lt_of_le_of_lt (nT_le zm') b3, Nat.lt_of_le_of_lt (nU_le zm') b4⟩
  constructor
  · rintro ⟨e1, e2⟩
    have c1 := n_cross n m
    have c2 := n_cross n' m'
    rw [e1, e2] at c1
    have p := nU_pos (t := n') zm'
    generalize nT n' m' = t at *
    generalize nU n' m' = u at *
    have : (n * m' - n' * m) * u = 0 := by grind
    exact ((pos_iff p).2).1 this
  · intro h
    exact n_eq zm zm' (by omega)
def spSigns (C : Addr) : Sp := fun vs H Q _ => ∃ (x y : V) (a b t u gap : Int), vs = [x, y, .int gap] ∧ Num C H x a b ∧ Num C H y t u ∧ ((∃ z, x = .ref z) ∨ ∃ z, y = .ref z) ∧ SgF a b t u gap ∧ ∀ H', Same H H' → Q (.bl true) H'
theorem ok_signs {C : Addr} (B : Blt mg) (T : RatC K mg C) (Mlt : OpOwn P w K mg base 2 C "__lt__" ["self", "other"] (spCmp C fun i j => decide (i < j))) (Mle : OpOwn P w K mg base 2 C "__le__" ["self", "other"] (spCmp C fun i j => decide (i ≤ j))) (Mgt : OpOwn P w K mg base 2 C "__gt__" ["self", "other"] (spCmp C fun i j => decide (i > j))) (Mge : OpOwn P w K mg base 2 C "__ge__" ["self", "other"] (spCmp C fun i j => decide (i ≥ j))) (Meq : OpOwn P w K mg base 1 C "__eq__" ["self", "other"] (spEqR K C)) (NE : NeC K C) (Df : Dfn K mg "_law_signs" "_law_signs" s_signs ["_law_x", "_law_y", "_law_gap"]) : Cal P w K mg base 3 "_law_signs" ["_law_x", "_law_y", "_law_gap"] (spSigns C) := by
  refine Df.cal sc_signs (fun vs H Q E h => ?_) (fun fA cdv A outer st H vs Q E hr h => ?_)
  · obtain ⟨x0, y0, a, b, t, u, gap, rfl, _⟩ := h
    rfl
  · obtain ⟨x0, y0, a, b, t, u, gap, rfl, hx0, hy0, hz, sg, k⟩ := h
    refine ⟨_, (pss_cons (ps_set (i := 3) sc_signs.nd rfl (Or.inl rfl) (pe_lst (pa_cons (pe_cmpR (op_or (op_or (cmp_oo (op := .Lt) (fun _ _ => rfl) Mlt hr.units0 (hr.mono (by decide))) (cmp_oi (op := .Lt) (fun _ _ => rfl) Mlt NE.si hr.units0 (hr.mono (by decide)))) (cmp_io (op := .Lt) (fun _ _ => rfl) Mgt NE.sc PySem.F.slot_int_lt PySem.F.entry_int_lt PySem.F.args_int_lt_2 int_lt_own hr.units0 (hr.mono (by decide)))) (pv 0) (pv 1) (nomark _)) (pa_cons (pe_cmpR (op_or (op_or (cmp_oo (op := .LtE) (fun _ _ => rfl) Mle hr.units0 (hr.mono (by decide))) (cmp_oi (op := .LtE) (fun _ _ => rfl) Mle NE.si hr.units0 (hr.mono (by decide)))) (cmp_io (op := .LtE) (fun _ _ => rfl) Mge NE.sc PySem.F.slot_int_le PySem.F.entry_int_le PySem.F.args_int_le_2 int_le_own hr.units0 (hr.mono (by decide)))) (pv 0) (pv 1) (nomark _)) (pa_cons (pe_cmpR (op_or (op_or (cmp_oo (op := .Gt) (fun _ _ => rfl) Mgt hr.units0 (hr.mono (by decide))) (cmp_oi (op := .Gt) (fun _ _ => rfl) Mgt NE.si hr.units0 (hr.mono (by decide)))) (cmp_io (op := .Gt) (fun _ _ => rfl) Mlt NE.sc PySem.F.slot_int_gt PySem.F.entry_int_gt PySem.F.args_int_gt_2 int_gt_own hr.units0 (hr.mono (by decide)))) (pv 0) (pv 1) (nomark _)) (pa_cons (pe_cmpR (op_or (op_or (cmp_oo (op := .GtE) (fun _ _ => rfl) Mge hr.units0 (hr.mono (by decide))) (cmp_oi (op := .GtE) (fun _ _ => rfl) Mge NE.si hr.units0 (hr.mono (by decide)))) (cmp_io (op := .GtE) (fun _ _ => rfl) Mle NE.sc PySem.F.slot_int_ge PySem.F.entry_int_ge PySem.F.args_int_ge_2 int_ge_own hr.units0 (hr.mono (by decide)))) (pv 0) (pv 1) (nomark _)) (pa_cons (pe_cmpR (op_or (op_or (cmp_oo (op := .Eq) (fun _ _ => rfl) Meq hr.units0 (hr.mono (by decide))) (cmp_oi (op := .Eq) (fun _ _ => rfl) Meq NE.si hr.units0 (hr.mono (by decide)))) (cmp_io (op := .Eq) (fun _ _ => rfl) Meq NE.sc PySem.F.slot_int_eq PySem.F.entry_int_eq PySem.F.args_int_eq_2 int_eq_own hr.units0 (hr.mono (by decide)))) (pv 0) (pv 1) (nomark _)) (pa_cons (pe_cmpR (op_or (op_ne_ox NE Meq (hr.mono (by decide))) (op_ne_io NE Meq (hr.mono (by decide)))) (pv 0) (pv 1) (nomark _)) pa_nil))))))))
      (pss_cons (ps_set (i := 4) sc_signs.nd rfl (Or.inl rfl) (pe_lst (pa_cons (pe_cmpR op_lt (pv 2) (pe_int) (nomark _)) (pa_cons (pe_cmpR op_le (pv 2) (pe_int) (nomark _)) (pa_cons (pe_cmpR op_gt (pv 2) (pe_int) (nomark _)) (pa_cons (pe_cmpR op_ge (pv 2) (pe_int) (nomark _)) (pa_cons (pe_cmpR op_eq (pv 2) (pe_int) (nomark _)) (pa_cons (pe_cmpR op_ne (pv 2) (pe_int) (nomark _)) pa_nil))))))))
      (pss_cons (ps_for PassesOwn.never rfl (pi_range1 (by rfl) B.range (pa_cons (pe_int) pa_nil)) (pg_name (i := 5) sc_signs.nd rfl (Or.inl rfl)) (pss_one (ps_if (PW.pt (pw_or (pt_not (pt_val (pe_callB call_isi (by rfl) B.isinstance (by decide +kernel) (pa_cons (pe_ix ix_list (pv 3) (pv 5) (fun _ _ => rfl)) (pa_cons (pe_bltn (v := .ty "bool") (by rfl) B.bool (by decide +kernel) rfl) pa_nil))))) (pw_or1 (pt_cmpR op_ne (pe_ix ix_list (pv 3) (pv 5) (fun _ _ => rfl)) (pe_ix ix_list (pv 4) (pv 5) (fun _ _ => rfl)) (nomark _))))) (pss_one (ps_ret (pe_bl))) pss_nil)))
      (pss_one (ps_ret (pe_bl)))))), ?_⟩
    rcases hx0 with ⟨rfl, rfl⟩ | ⟨x, rfl, dx, hx⟩
    · obtain ⟨y, rfl, dy, hy⟩ := hy0.resolve_left (by rintro ⟨rfl, _⟩; rcases hz with ⟨z, e⟩ | ⟨z, e⟩ <;> cases e)
      have W := ((Al.nil (H := H)).got hy)
      have S := Same.refl H
      have s1 := sg.s.lt
      have s2 := sg.s.le
      have s3 := sg.e
      have q0 : decide (t * 1 > a * u) = decide (gap < 0) := decide_eq_decide.mpr (by omega)
      have q1 : decide (t * 1 ≥ a * u) = decide (gap ≤ 0) := decide_eq_decide.mpr (by omega)
      have q2 : decide (t * 1 < a * u) = decide (gap > 0) := decide_eq_decide.mpr (by omega)
      have q3 : decide (t * 1 ≤ a * u) = decide (gap ≥ 0) := decide_eq_decide.mpr (by omega)
      have q4 : decide (t = a ∧ u = 1) = decide (V.int gap = V.int 0) := by rw [dvi]; exact decide_eq_decide.mpr (by omega)
      have q5 : (!decide (t = a ∧ u = 1)) = (!decide (V.int gap = V.int 0)) := by rw [q4]
      refine ⟨_, rfl, _, rfl, .inr (⟨y, dy, _, a, rfl, (W.at (List.Mem.head _)), rfl, y, .int a, t, u, a, 1, rfl, ⟨dy, (W.at (List.Mem.head _))⟩, .inl ⟨rfl, rfl⟩, sg.ms, _, rfl, ?_⟩)⟩
      refine ⟨_, rfl, _, rfl, .inr (⟨y, dy, _, a, rfl, (W.at (List.Mem.head _)), rfl, y, .int a, t, u, a, 1, rfl, ⟨dy, (W.at (List.Mem.head _))⟩, .inl ⟨rfl, rfl⟩, sg.ms, _, rfl, ?_⟩)⟩
      refine ⟨_, rfl, _, rfl, .inr (⟨y, dy, _, a, rfl, (W.at (List.Mem.head _)), rfl, y, .int a, t, u, a, 1, rfl, ⟨dy, (W.at (List.Mem.head _))⟩, .inl ⟨rfl, rfl⟩, sg.ms, _, rfl, ?_⟩)⟩
      refine ⟨_, rfl, _, rfl, .inr (⟨y, dy, _, a, rfl, (W.at (List.Mem.head _)), rfl, y, .int a, t, u, a, 1, rfl, ⟨dy, (W.at (List.Mem.head _))⟩, .inl ⟨rfl, rfl⟩, sg.ms, _, rfl, ?_⟩)⟩
      refine ⟨_, rfl, _, rfl, .inr (⟨y, dy, _, a, rfl, (W.at (List.Mem.head _)), rfl, .inl ⟨y, .int a, t, u, a, 1, rfl, ⟨dy, (W.at (List.Mem.head _))⟩, .inl ⟨rfl, rfl⟩, _, rfl, ?_⟩⟩)⟩
      refine ⟨_, rfl, _, rfl, .inr (⟨y, dy, _, a, rfl, (W.at (List.Mem.head _)), rfl, .inl ⟨y, .int a, t, u, a, 1, rfl, ⟨dy, (W.at (List.Mem.head _))⟩, .inl ⟨rfl, rfl⟩, _, rfl, ?_⟩⟩)⟩
      refine ⟨(by show 6 ≤ sizeLine; decide), fun t1 ht1 => ?_⟩
      have W := W.new (o := .lst [.bl (decide (t * 1 > a * u)), .bl (decide (t * 1 ≥ a * u)), .bl (decide (t * 1 < a * u)), .bl (decide (t * 1 ≤ a * u)), .bl (decide (t = a ∧ u = 1)), .bl (!decide (t = a ∧ u = 1))]) ht1
      have S := S.trans (same_upd (o := .lst [.bl (decide (t * 1 > a * u)), .bl (decide (t * 1 ≥ a * u)), .bl (decide (t * 1 < a * u)), .bl (decide (t * 1 ≤ a * u)), .bl (decide (t = a ∧ u = 1)), .bl (!decide (t = a ∧ u = 1))]) ht1)
      refine ⟨_, rfl, _, _, rfl, rfl, _, rfl, _, _, rfl, rfl, _, rfl, _, _, rfl, rfl, _, rfl, _, _, rfl, rfl, _, rfl, rfl, _, rfl, rfl, (by show 6 ≤ sizeLine; decide), fun t2 ht2 => ?_⟩
      have W := W.new (o := .lst [.bl (decide (gap < 0)), .bl (decide (gap ≤ 0)), .bl (decide (gap > 0)), .bl (decide (gap ≥ 0)), .bl (decide (V.int gap = V.int 0)), .bl (!(decide (V.int gap = V.int 0)))]) ht2
      have S := S.trans (same_upd (o := .lst [.bl (decide (gap < 0)), .bl (decide (gap ≤ 0)), .bl (decide (gap > 0)), .bl (decide (gap ≥ 0)), .bl (decide (V.int gap = V.int 0)), .bl (!(decide (V.int gap = V.int 0)))]) ht2)
      refine ⟨6, rfl, by decide, by decide, for_range (n := 6) (fun _ σ' H' => ∃ o3 : Option V, Al [(t2, .lst [.bl (decide (gap < 0)), .bl (decide (gap ≤ 0)), .bl (decide (gap > 0)), .bl (decide (gap ≥ 0)), .bl (decide (V.int gap = V.int 0)), .bl (!(decide (V.int gap = V.int 0)))]), (t1, .lst [.bl (decide (t * 1 > a * u)), .bl (decide (t * 1 ≥ a * u)), .bl (decide (t * 1 < a * u)), .bl (decide (t * 1 ≤ a * u)), .bl (decide (t = a ∧ u = 1)), .bl (!decide (t = a ∧ u = 1))]), (y, .ins C dy (rf t u))] H' ∧ Same H H' ∧ σ' = [some (.int a), some (.ref y), some (.int gap), some (.ref t1), some (.ref t2), o3]) ⟨_, W, S, rfl⟩ ?_ ?_⟩
      · skip
        rintro i σ' H4 hi ⟨o3, W, S, rfl⟩
        obtain rfl | rfl | rfl | rfl | rfl | rfl : i = 0 ∨ i = 1 ∨ i = 2 ∨ i = 3 ∨ i = 4 ∨ i = 5 := by omega
        · skip
          refine ⟨_, rfl, _, rfl, _, _, _, _, rfl, rfl, SqL.of (W.at (List.Mem.tail _ (List.Mem.head _))), at_of (j := 0) (by omega) rfl, _, _, _, _, true, rfl, .ty _, .base (.bl _), kit_ty (by decide +kernel), _, rfl, iteF ?_⟩
          refine ⟨_, rfl, _, rfl, _, _, _, _, rfl, rfl, SqL.of (W.at (List.Mem.tail _ (List.Mem.head _))), at_of (j := 0) (by omega) rfl, _, rfl, _, rfl, _, _, _, _, rfl, rfl, SqL.of (W.at (List.Mem.head _)), at_of (j := 0) (by omega) rfl, rfl, _, rfl, jb q0 ?_⟩
          exact ⟨_, W, S, rfl⟩
        · skip
          refine ⟨_, rfl, _, rfl, _, _, _, _, rfl, rfl, SqL.of (W.at (List.Mem.tail _ (List.Mem.head _))), at_of (j := 1) (by omega) rfl, _, _, _, _, true, rfl, .ty _, .base (.bl _), kit_ty (by decide +kernel), _, rfl, iteF ?_⟩
          refine ⟨_, rfl, _, rfl, _, _, _, _, rfl, rfl, SqL.of (W.at (List.Mem.tail _ (List.Mem.head _))), at_of (j := 1) (by omega) rfl, _, rfl, _, rfl, _, _, _, _, rfl, rfl, SqL.of (W.at (List.Mem.head _)), at_of (j := 1) (by omega) rfl, rfl, _, rfl, jb q1 ?_⟩
          exact ⟨_, W, S, rfl⟩
        · skip
          refine ⟨_, rfl, _, rfl, _, _, _, _, rfl, rfl, SqL.of (W.at (List.Mem.tail _ (List.Mem.head _))), at_of (j := 2) (by omega) rfl, _, _, _, _, true, rfl, .ty _, .base (.bl _), kit_ty (by decide +kernel), _, rfl, iteF ?_⟩
          refine ⟨_, rfl, _, rfl, _, _, _, _, rfl, rfl, SqL.of (W.at (List.Mem.tail _ (List.Mem.head _))), at_of (j := 2) (by omega) rfl, _, rfl, _, rfl, _, _, _, _, rfl, rfl, SqL.of (W.at (List.Mem.head _)), at_of (j := 2) (by omega) rfl, rfl, _, rfl, jb q2 ?_⟩
          exact ⟨_, W, S, rfl⟩
        · skip
          refine ⟨_, rfl, _, rfl, _, _, _, _, rfl, rfl, SqL.of (W.at (List.Mem.tail _ (List.Mem.head _))), at_of (j := 3) (by omega) rfl, _, _, _, _, true, rfl, .ty _, .base (.bl _), kit_ty (by decide +kernel), _, rfl, iteF ?_⟩
          refine ⟨_, rfl, _, rfl, _, _, _, _, rfl, rfl, SqL.of (W.at (List.Mem.tail _ (List.Mem.head _))), at_of (j := 3) (by omega) rfl, _, rfl, _, rfl, _, _, _, _, rfl, rfl, SqL.of (W.at (List.Mem.head _)), at_of (j := 3) (by omega) rfl, rfl, _, rfl, jb q3 ?_⟩
          exact ⟨_, W, S, rfl⟩
        · skip
          refine ⟨_, rfl, _, rfl, _, _, _, _, rfl, rfl, SqL.of (W.at (List.Mem.tail _ (List.Mem.head _))), at_of (j := 4) (by omega) rfl, _, _, _, _, true, rfl, .ty _, .base (.bl _), kit_ty (by decide +kernel), _, rfl, iteF ?_⟩
          refine ⟨_, rfl, _, rfl, _, _, _, _, rfl, rfl, SqL.of (W.at (List.Mem.tail _ (List.Mem.head _))), at_of (j := 4) (by omega) rfl, _, rfl, _, rfl, _, _, _, _, rfl, rfl, SqL.of (W.at (List.Mem.head _)), at_of (j := 4) (by omega) rfl, rfl, _, rfl, jb q4 ?_⟩
          exact ⟨_, W, S, rfl⟩
        · skip
          refine ⟨_, rfl, _, rfl, _, _, _, _, rfl, rfl, SqL.of (W.at (List.Mem.tail _ (List.Mem.head _))), at_of (j := 5) (by omega) rfl, _, _, _, _, true, rfl, .ty _, .base (.bl _), kit_ty (by decide +kernel), _, rfl, iteF ?_⟩
          refine ⟨_, rfl, _, rfl, _, _, _, _, rfl, rfl, SqL.of (W.at (List.Mem.tail _ (List.Mem.head _))), at_of (j := 5) (by omega) rfl, _, rfl, _, rfl, _, _, _, _, rfl, rfl, SqL.of (W.at (List.Mem.head _)), at_of (j := 5) (by omega) rfl, rfl, _, rfl, jb q5 ?_⟩
          exact ⟨_, W, S, rfl⟩
      rintro σ' H5 ⟨o3, W, S, rfl⟩
      exact k _ S
    · rcases hy0 with ⟨rfl, rfl⟩ | ⟨y, rfl, dy, hy⟩
      · have W := ((Al.nil (H := H)).got hx)
        have S := Same.refl H
        have s1 := sg.s.lt
        have s2 := sg.s.le
        have s3 := sg.e
        have q0 : decide (a * 1 < t * b) = decide (gap < 0) := decide_eq_decide.mpr (by omega)
        have q1 : decide (a * 1 ≤ t * b) = decide (gap ≤ 0) := decide_eq_decide.mpr (by omega)
        have q2 : decide (a * 1 > t * b) = decide (gap > 0) := decide_eq_decide.mpr (by omega)
        have q3 : decide (a * 1 ≥ t * b) = decide (gap ≥ 0) := decide_eq_decide.mpr (by omega)
        have q4 : decide (a = t ∧ b = 1) = decide (V.int gap = V.int 0) := by rw [dvi]; exact decide_eq_decide.mpr (by omega)
        have q5 : (!decide (a = t ∧ b = 1)) = (!decide (V.int gap = V.int 0)) := by rw [q4]
        refine ⟨_, rfl, _, rfl, .inl (.inr ⟨x, dx, _, t, rfl, (W.at (List.Mem.head _)), rfl, x, .int t, a, b, t, 1, rfl, ⟨dx, (W.at (List.Mem.head _))⟩, .inl ⟨rfl, rfl⟩, sg.sm, _, rfl, ?_⟩)⟩
        refine ⟨_, rfl, _, rfl, .inl (.inr ⟨x, dx, _, t, rfl, (W.at (List.Mem.head _)), rfl, x, .int t, a, b, t, 1, rfl, ⟨dx, (W.at (List.Mem.head _))⟩, .inl ⟨rfl, rfl⟩, sg.sm, _, rfl, ?_⟩)⟩
        refine ⟨_, rfl, _, rfl, .inl (.inr ⟨x, dx, _, t, rfl, (W.at (List.Mem.head _)), rfl, x, .int t, a, b, t, 1, rfl, ⟨dx, (W.at (List.Mem.head _))⟩, .inl ⟨rfl, rfl⟩, sg.sm, _, rfl, ?_⟩)⟩
        refine ⟨_, rfl, _, rfl, .inl (.inr ⟨x, dx, _, t, rfl, (W.at (List.Mem.head _)), rfl, x, .int t, a, b, t, 1, rfl, ⟨dx, (W.at (List.Mem.head _))⟩, .inl ⟨rfl, rfl⟩, sg.sm, _, rfl, ?_⟩)⟩
        refine ⟨_, rfl, _, rfl, .inl (.inr ⟨x, dx, _, t, rfl, (W.at (List.Mem.head _)), rfl, .inl ⟨x, .int t, a, b, t, 1, rfl, ⟨dx, (W.at (List.Mem.head _))⟩, .inl ⟨rfl, rfl⟩, _, rfl, ?_⟩⟩)⟩
        refine ⟨_, rfl, _, rfl, .inl (⟨x, dx, _, rfl, (W.at (List.Mem.head _)), .inl ⟨_, rfl⟩, .inl ⟨x, .int t, a, b, t, 1, rfl, ⟨dx, (W.at (List.Mem.head _))⟩, .inl ⟨rfl, rfl⟩, _, rfl, ?_⟩⟩)⟩
        refine ⟨(by show 6 ≤ sizeLine; decide), fun t1 ht1 => ?_⟩
        have W := W.new (o := .lst [.bl (decide (a * 1 < t * b)), .bl (decide (a * 1 ≤ t * b)), .bl (decide (a * 1 > t * b)), .bl (decide (a * 1 ≥ t * b)), .bl (decide (a = t ∧ b = 1)), .bl (!decide (a = t ∧ b = 1))]) ht1
        have S := S.trans (same_upd (o := .lst [.bl (decide (a * 1 < t * b)), .bl (decide (a * 1 ≤ t * b)), .bl (decide (a * 1 > t * b)), .bl (decide (a * 1 ≥ t * b)), .bl (decide (a = t ∧ b = 1)), .bl (!decide (a = t ∧ b = 1))]) ht1)
        refine ⟨_, rfl, _, _, rfl, rfl, _, rfl, _, _, rfl, rfl, _, rfl, _, _, rfl, rfl, _, rfl, _, _, rfl, rfl, _, rfl, rfl, _, rfl, rfl, (by show 6 ≤ sizeLine; decide), fun t2 ht2 => ?_⟩
        have W := W.new (o := .lst [.bl (decide (gap < 0)), .bl (decide (gap ≤ 0)), .bl (decide (gap > 0)), .bl (decide (gap ≥ 0)), .bl (decide (V.int gap = V.int 0)), .bl (!(decide (V.int gap = V.int 0)))]) ht2
        have S := S.trans (same_upd (o := .lst [.bl (decide (gap < 0)), .bl (decide (gap ≤ 0)), .bl (decide (gap > 0)), .bl (decide (gap ≥ 0)), .bl (decide (V.int gap = V.int 0)), .bl (!(decide (V.int gap = V.int 0)))]) ht2)
        refine ⟨6, rfl, by decide, by decide, for_range (n := 6) (fun _ σ' H' => ∃ o3 : Option V, Al [(t2, .lst [.bl (decide (gap < 0)), .bl (decide (gap ≤ 0)), .bl (decide (gap > 0)), .bl (decide (gap ≥ 0)), .bl (decide (V.int gap = V.int 0)), .bl (!(decide (V.int gap = V.int 0)))]), (t1, .lst [.bl (decide (a * 1 < t * b)), .bl (decide (a * 1 ≤ t * b)), .bl (decide (a * 1 > t * b)), .bl (decide (a * 1 ≥ t * b)), .bl (decide (a = t ∧ b = 1)), .bl (!decide (a = t ∧ b = 1))]), (x, .ins C dx (rf a b))] H' ∧ Same H H' ∧ σ' = [some (.ref x), some (.int t), some (.int gap), some (.ref t1), some (.ref t2), o3]) ⟨_, W, S, rfl⟩ ?_ ?_⟩
        · skip
          rintro i σ' H4 hi ⟨o3, W, S, rfl⟩
          obtain rfl | rfl | rfl | rfl | rfl | rfl : i = 0 ∨ i = 1 ∨ i = 2 ∨ i = 3 ∨ i = 4 ∨ i = 5 := by omega
          · skip
            refine ⟨_, rfl, _, rfl, _, _, _, _, rfl, rfl, SqL.of (W.at (List.Mem.tail _ (List.Mem.head _))), at_of (j := 0) (by omega) rfl, _, _, _, _, true, rfl, .ty _, .base (.bl _), kit_ty (by decide +kernel), _, rfl, iteF ?_⟩
            refine ⟨_, rfl, _, rfl, _, _, _, _, rfl, rfl, SqL.of (W.at (List.Mem.tail _ (List.Mem.head _))), at_of (j := 0) (by omega) rfl, _, rfl, _, rfl, _, _, _, _, rfl, rfl, SqL.of (W.at (List.Mem.head _)), at_of (j := 0) (by omega) rfl, rfl, _, rfl, jb q0 ?_⟩
            exact ⟨_, W, S, rfl⟩
          · skip
            refine ⟨_, rfl, _, rfl, _, _, _, _, rfl, rfl, SqL.of (W.at (List.Mem.tail _ (List.Mem.head _))), at_of (j := 1) (by omega) rfl, _, _, _, _, true, rfl, .ty _, .base (.bl _), kit_ty (by decide +kernel), _, rfl, iteF ?_⟩
            refine ⟨_, rfl, _, rfl, _, _, _, _, rfl, rfl, SqL.of (W.at (List.Mem.tail _ (List.Mem.head _))), at_of (j := 1) (by omega) rfl, _, rfl, _, rfl, _, _, _, _, rfl, rfl, SqL.of (W.at (List.Mem.head _)), at_of (j := 1) (by omega) rfl, rfl, _, rfl, jb q1 ?_⟩
            exact ⟨_, W, S, rfl⟩
          · skip
            refine ⟨_, rfl, _, rfl, _, _, _, _, rfl, rfl, SqL.of (W.at (List.Mem.tail _ (List.Mem.head _))), at_of (j := 2) (by omega) rfl, _, _, _, _, true, rfl, .ty _, .base (.bl _), kit_ty (by decide +kernel), _, rfl, iteF ?_⟩
            refine ⟨_, rfl, _, rfl, _, _, _, _, rfl, rfl, SqL.of (W.at (List.Mem.tail _ (List.Mem.head _))), at_of (j := 2) (by omega) rfl, _, rfl, _, rfl, _, _, _, _, rfl, rfl, SqL.of (W.at (List.Mem.head _)), at_of (j := 2) (by omega) rfl, rfl, _, rfl, jb q2 ?_⟩
            exact ⟨_, W, S, rfl⟩
          · skip
            refine ⟨_, rfl, _, rfl, _, _, _, _, rfl, rfl, SqL.of (W.at (List.Mem.tail _ (List.Mem.head _))), at_of (j := 3) (by omega) rfl, _, _, _, _, true, rfl, .ty _, .base (.bl _), kit_ty (by decide +kernel), _, rfl, iteF ?_⟩
            refine ⟨_, rfl, _, rfl, _, _, _, _, rfl, rfl, SqL.of (W.at (List.Mem.tail _ (List.Mem.head _))), at_of (j := 3) (by omega) rfl, _, rfl, _, rfl, _, _, _, _, rfl, rfl, SqL.of (W.at (List.Mem.head _)), at_of (j := 3) (by omega) rfl, rfl, _, rfl, jb q3 ?_⟩
            exact ⟨_, W, S, rfl⟩
          · skip
            refine ⟨_, rfl, _, rfl, _, _, _, _, rfl, rfl, SqL.of (W.at (List.Mem.tail _ (List.Mem.head _))), at_of (j := 4) (by omega) rfl, _, _, _, _, true, rfl, .ty _, .base (.bl _), kit_ty (by decide +kernel), _, rfl, iteF ?_⟩
            refine ⟨_, rfl, _, rfl, _, _, _, _, rfl, rfl, SqL.of (W.at (List.Mem.tail _ (List.Mem.head _))), at_of (j := 4) (by omega) rfl, _, rfl, _, rfl, _, _, _, _, rfl, rfl, SqL.of (W.at (List.Mem.head _)), at_of (j := 4) (by omega) rfl, rfl, _, rfl, jb q4 ?_⟩
            exact ⟨_, W, S, rfl⟩
          · skip
            refine ⟨_, rfl, _, rfl, _, _, _, _, rfl, rfl, SqL.of (W.at (List.Mem.tail _ (List.Mem.head _))), at_of (j := 5) (by omega) rfl, _, _, _, _, true, rfl, .ty _, .base (.bl _), kit_ty (by decide +kernel), _, rfl, iteF ?_⟩
            refine ⟨_, rfl, _, rfl, _, _, _, _, rfl, rfl, SqL.of (W.at (List.Mem.tail _ (List.Mem.head _))), at_of (j := 5) (by omega) rfl, _, rfl, _, rfl, _, _, _, _, rfl, rfl, SqL.of (W.at (List.Mem.head _)), at_of (j := 5) (by omega) rfl, rfl, _, rfl, jb q5 ?_⟩
            exact ⟨_, W, S, rfl⟩
        rintro σ' H5 ⟨o3, W, S, rfl⟩
        exact k _ S

      · have W := (((Al.nil (H := H)).got hy).got hx)
        have S := Same.refl H
        have s1 := sg.s.lt
        have s2 := sg.s.le
        have s3 := sg.e
        have q0 : decide (a * u < t * b) = decide (gap < 0) := decide_eq_decide.mpr (by omega)
        have q1 : decide (a * u ≤ t * b) = decide (gap ≤ 0) := decide_eq_decide.mpr (by omega)
        have q2 : decide (a * u > t * b) = decide (gap > 0) := decide_eq_decide.mpr (by omega)
        have q3 : decide (a * u ≥ t * b) = decide (gap ≥ 0) := decide_eq_decide.mpr (by omega)
        have q4 : decide (a = t ∧ b = u) = decide (V.int gap = V.int 0) := by rw [dvi]; exact decide_eq_decide.mpr (by omega)
        have q5 : (!decide (a = t ∧ b = u)) = (!decide (V.int gap = V.int 0)) := by rw [q4]
        refine ⟨_, rfl, _, rfl, .inl (.inl ⟨x, dx, _, y, dy, _, rfl, (W.at (List.Mem.head _)), rfl, (W.at (List.Mem.tail _ (List.Mem.head _))), x, .ref y, a, b, t, u, rfl, ⟨dx, (W.at (List.Mem.head _))⟩, .inr ⟨y, rfl, dy, (W.at (List.Mem.tail _ (List.Mem.head _)))⟩, sg.sm, _, rfl, ?_⟩)⟩
        refine ⟨_, rfl, _, rfl, .inl (.inl ⟨x, dx, _, y, dy, _, rfl, (W.at (List.Mem.head _)), rfl, (W.at (List.Mem.tail _ (List.Mem.head _))), x, .ref y, a, b, t, u, rfl, ⟨dx, (W.at (List.Mem.head _))⟩, .inr ⟨y, rfl, dy, (W.at (List.Mem.tail _ (List.Mem.head _)))⟩, sg.sm, _, rfl, ?_⟩)⟩
        refine ⟨_, rfl, _, rfl, .inl (.inl ⟨x, dx, _, y, dy, _, rfl, (W.at (List.Mem.head _)), rfl, (W.at (List.Mem.tail _ (List.Mem.head _))), x, .ref y, a, b, t, u, rfl, ⟨dx, (W.at (List.Mem.head _))⟩, .inr ⟨y, rfl, dy, (W.at (List.Mem.tail _ (List.Mem.head _)))⟩, sg.sm, _, rfl, ?_⟩)⟩
        refine ⟨_, rfl, _, rfl, .inl (.inl ⟨x, dx, _, y, dy, _, rfl, (W.at (List.Mem.head _)), rfl, (W.at (List.Mem.tail _ (List.Mem.head _))), x, .ref y, a, b, t, u, rfl, ⟨dx, (W.at (List.Mem.head _))⟩, .inr ⟨y, rfl, dy, (W.at (List.Mem.tail _ (List.Mem.head _)))⟩, sg.sm, _, rfl, ?_⟩)⟩
        refine ⟨_, rfl, _, rfl, .inl (.inl ⟨x, dx, _, y, dy, _, rfl, (W.at (List.Mem.head _)), rfl, (W.at (List.Mem.tail _ (List.Mem.head _))), .inl ⟨x, .ref y, a, b, t, u, rfl, ⟨dx, (W.at (List.Mem.head _))⟩, .inr ⟨y, rfl, dy, (W.at (List.Mem.tail _ (List.Mem.head _)))⟩, _, rfl, ?_⟩⟩)⟩
        refine ⟨_, rfl, _, rfl, .inl (⟨x, dx, _, rfl, (W.at (List.Mem.head _)), .inr ⟨y, dy, _, rfl, (W.at (List.Mem.tail _ (List.Mem.head _)))⟩, .inl ⟨x, .ref y, a, b, t, u, rfl, ⟨dx, (W.at (List.Mem.head _))⟩, .inr ⟨y, rfl, dy, (W.at (List.Mem.tail _ (List.Mem.head _)))⟩, _, rfl, ?_⟩⟩)⟩
        refine ⟨(by show 6 ≤ sizeLine; decide), fun t1 ht1 => ?_⟩
        have W := W.new (o := .lst [.bl (decide (a * u < t * b)), .bl (decide (a * u ≤ t * b)), .bl (decide (a * u > t * b)), .bl (decide (a * u ≥ t * b)), .bl (decide (a = t ∧ b = u)), .bl (!decide (a = t ∧ b = u))]) ht1
        have S := S.trans (same_upd (o := .lst [.bl (decide (a * u < t * b)), .bl (decide (a * u ≤ t * b)), .bl (decide (a * u > t * b)), .bl (decide (a * u ≥ t * b)), .bl (decide (a = t ∧ b = u)), .bl (!decide (a = t ∧ b = u))]) ht1)
        refine ⟨_, rfl, _, _, rfl, rfl, _, rfl, _, _, rfl, rfl, _, rfl, _, _, rfl, rfl, _, rfl, _, _, rfl, rfl, _, rfl, rfl, _, rfl, rfl, (by show 6 ≤ sizeLine; decide), fun t2 ht2 => ?_⟩
        have W := W.new (o := .lst [.bl (decide (gap < 0)), .bl (decide (gap ≤ 0)), .bl (decide (gap > 0)), .bl (decide (gap ≥ 0)), .bl (decide (V.int gap = V.int 0)), .bl (!(decide (V.int gap = V.int 0)))]) ht2
        have S := S.trans (same_upd (o := .lst [.bl (decide (gap < 0)), .bl (decide (gap ≤ 0)), .bl (decide (gap > 0)), .bl (decide (gap ≥ 0)), .bl (decide (V.int gap = V.int 0)), .bl (!(decide (V.int gap = V.int 0)))]) ht2)
        refine ⟨6, rfl, by decide, by decide, for_range (n := 6) (fun _ σ' H' => ∃ o3 : Option V, Al [(t2, .lst [.bl (decide (gap < 0)), .bl (decide (gap ≤ 0)), .bl (decide (gap > 0)), .bl (decide (gap ≥ 0)), .bl (decide (V.int gap = V.int 0)), .bl (!(decide (V.int gap = V.int 0)))]), (t1, .lst [.bl (decide (a * u < t * b)), .bl (decide (a * u ≤ t * b)), .bl (decide (a * u > t * b)), .bl (decide (a * u ≥ t * b)), .bl (decide (a = t ∧ b = u)), .bl (!decide (a = t ∧ b = u))]), (x, .ins C dx (rf a b)), (y, .ins C dy (rf t u))] H' ∧ Same H H' ∧ σ' = [some (.ref x), some (.ref y), some (.int gap), some (.ref t1), some (.ref t2), o3]) ⟨_, W, S, rfl⟩ ?_ ?_⟩
        · skip
          rintro i σ' H4 hi ⟨o3, W, S, rfl⟩
          obtain rfl | rfl | rfl | rfl | rfl | rfl : i = 0 ∨ i = 1 ∨ i = 2 ∨ i = 3 ∨ i = 4 ∨ i = 5 := by omega
          · skip
            refine ⟨_, rfl, _, rfl, _, _, _, _, rfl, rfl, SqL.of (W.at (List.Mem.tail _ (List.Mem.head _))), at_of (j := 0) (by omega) rfl, _, _, _, _, true, rfl, .ty _, .base (.bl _), kit_ty (by decide +kernel), _, rfl, iteF ?_⟩
            refine ⟨_, rfl, _, rfl, _, _, _, _, rfl, rfl, SqL.of (W.at (List.Mem.tail _ (List.Mem.head _))), at_of (j := 0) (by omega) rfl, _, rfl, _, rfl, _, _, _, _, rfl, rfl, SqL.of (W.at (List.Mem.head _)), at_of (j := 0) (by omega) rfl, rfl, _, rfl, jb q0 ?_⟩
            exact ⟨_, W, S, rfl⟩
          · skip
            refine ⟨_, rfl, _, rfl, _, _, _, _, rfl, rfl, SqL.of (W.at (List.Mem.tail _ (List.Mem.head _))), at_of (j := 1) (by omega) rfl, _, _, _, _, true, rfl, .ty _, .base (.bl _), kit_ty (by decide +kernel), _, rfl, iteF ?_⟩
            refine ⟨_, rfl, _, rfl, _, _, _, _, rfl, rfl, SqL.of (W.at (List.Mem.tail _ (List.Mem.head _))), at_of (j := 1) (by omega) rfl, _, rfl, _, rfl, _, _, _, _, rfl, rfl, SqL.of (W.at (List.Mem.head _)), at_of (j := 1) (by omega) rfl, rfl, _, rfl, jb q1 ?_⟩
            exact ⟨_, W, S, rfl⟩
          · skip
            refine ⟨_, rfl, _, rfl, _, _, _, _, rfl, rfl, SqL.of (W.at (List.Mem.tail _ (List.Mem.head _))), at_of (j := 2) (by omega) rfl, _, _, _, _, true, rfl, .ty _, .base (.bl _), kit_ty (by decide +kernel), _, rfl, iteF ?_⟩
            refine ⟨_, rfl, _, rfl, _, _, _, _, rfl, rfl, SqL.of (W.at (List.Mem.tail _ (List.Mem.head _))), at_of (j := 2) (by omega) rfl, _, rfl, _, rfl, _, _, _, _, rfl, rfl, SqL.of (W.at (List.Mem.head _)), at_of (j := 2) (by omega) rfl, rfl, _, rfl, jb q2 ?_⟩
            exact ⟨_, W, S, rfl⟩
          · skip
            refine ⟨_, rfl, _, rfl, _, _, _, _, rfl, rfl, SqL.of (W.at (List.Mem.tail _ (List.Mem.head _))), at_of (j := 3) (by omega) rfl, _, _, _, _, true, rfl, .ty _, .base (.bl _), kit_ty (by decide +kernel), _, rfl, iteF ?_⟩
            refine ⟨_, rfl, _, rfl, _, _, _, _, rfl, rfl, SqL.of (W.at (List.Mem.tail _ (List.Mem.head _))), at_of (j := 3) (by omega) rfl, _, rfl, _, rfl, _, _, _, _, rfl, rfl, SqL.of (W.at (List.Mem.head _)), at_of (j := 3) (by omega) rfl, rfl, _, rfl, jb q3 ?_⟩
            exact ⟨_, W, S, rfl⟩
          · skip
            refine ⟨_, rfl, _, rfl, _, _, _, _, rfl, rfl, SqL.of (W.at (List.Mem.tail _ (List.Mem.head _))), at_of (j := 4) (by omega) rfl, _, _, _, _, true, rfl, .ty _, .base (.bl _), kit_ty (by decide +kernel), _, rfl, iteF ?_⟩
            refine ⟨_, rfl, _, rfl, _, _, _, _, rfl, rfl, SqL.of (W.at (List.Mem.tail _ (List.Mem.head _))), at_of (j := 4) (by omega) rfl, _, rfl, _, rfl, _, _, _, _, rfl, rfl, SqL.of (W.at (List.Mem.head _)), at_of (j := 4) (by omega) rfl, rfl, _, rfl, jb q4 ?_⟩
            exact ⟨_, W, S, rfl⟩
          · skip
            refine ⟨_, rfl, _, rfl, _, _, _, _, rfl, rfl, SqL.of (W.at (List.Mem.tail _ (List.Mem.head _))), at_of (j := 5) (by omega) rfl, _, _, _, _, true, rfl, .ty _, .base (.bl _), kit_ty (by decide +kernel), _, rfl, iteF ?_⟩
            refine ⟨_, rfl, _, rfl, _, _, _, _, rfl, rfl, SqL.of (W.at (List.Mem.tail _ (List.Mem.head _))), at_of (j := 5) (by omega) rfl, _, rfl, _, rfl, _, _, _, _, rfl, rfl, SqL.of (W.at (List.Mem.head _)), at_of (j := 5) (by omega) rfl, rfl, _, rfl, jb q5 ?_⟩
            exact ⟨_, W, S, rfl⟩
        rintro σ' H5 ⟨o3, W, S, rfl⟩
        exact k _ S

end
end L

set_option Elab.async false
set_option linter.all false
set_option maxRecDepth 100000
set_option maxHeartbeats 4000000
set_option pp.maxSteps 160
set_option pp.deepTerms false
namespace L
open PySem PySem.Spec PyProof.Rows L2 Fl
local macro_rules | `(tactic| walk_at "side") => `(tactic| first | (exact .inl ⟨by omega, by omega⟩) | (exact .inr ⟨by omega, by omega⟩) | (exact .inr ⟨by decide, by decide⟩) | (show (_ : Int) ≠ _; omega) | (exact ⟨by omega, by decide⟩) | (exact ⟨by decide, by decide, by decide⟩))
local macro_rules | `(tactic| walk_at "go") => `(tactic| repeat (first | refine ⟨_, rfl, ?_⟩ | refine ⟨_, _, rfl, rfl, ?_⟩ | refine .inl ⟨_, rfl, ?_⟩ | refine ⟨rfl, ?_⟩ | refine ⟨(by walk_at "side"), ?_⟩))
local macro_rules | `(tactic| walk_at "see") => `(tactic| (set_option pp.maxSteps 110 in set_option pp.deepTerms false in trace_state))
local macro_rules | `(tactic| walk_at "if") => `(tactic| first | refine ifE ?_ ?_ | refine ifNE ?_ ?_ | refine ifD ?_ ?_ | refine ifN ?_ ?_ | refine ifB ?_ ?_)
open Bx
section
variable {P : Program} {w : World} {K : PySem.W.Frag} {mg : Str → Option Value} {base : Heap}

def spGcd1 : Sp := fun vs H Q _ => ∃ (a b : Int), vs = [.int a, .int b] ∧ Nat.gcd a.natAbs b.natAbs = 1 ∧ Q (.int 1) H
abbrev CalGcd1 (P : Program) (w : World) (K : PySem.W.Frag) (mg : Str → Option Value) (base : Heap) := Cal P w K mg base 1 "_law_gcd" ["_law_one", "_law_other"] spGcd1
theorem ok_gcd1 (B : Blt mg) (D : Dfn K mg "_law_gcd" "_law_gcd" s_gcd ["_law_one", "_law_other"]) : CalGcd1 P w K mg base := by
  refine D.cal sc_gcd (fun vs H Q E h => ?_) (fun f cdv A outer st H vs Q E hr h => ?_)
  · obtain ⟨a, b, rfl, _⟩ := h
    rfl
  · obtain ⟨a, b, rfl, hg, q⟩ := h
    refine ⟨_, (pss_cons (ps_set (i := 0) sc_gcd.nd rfl (Or.inl rfl) (pe_callB call_abs (by rfl) B.abs (by decide +kernel) (pa_cons (pv 0) pa_nil)))
      (pss_cons (ps_set (i := 1) sc_gcd.nd rfl (Or.inl rfl) (pe_callB call_abs (by rfl) B.abs (by decide +kernel) (pa_cons (pv 1) pa_nil)))
      (pss_cons (ps_for PassesOwn.never rfl (pi_range1 (by rfl) B.range (pa_cons (pe_int) pa_nil)) (pg_name (i := 2) sc_gcd.nd rfl (Or.inl rfl)) (pss_cons (ps_if (pt_cmpR op_eq (pv 1) (pe_int) (nomark _)) (pss_one (ps_ret (pe_callB (call_max2 rfl) (by rfl) B.max (by decide +kernel) (pa_cons (pe_int) (pa_cons (pv 0) pa_nil))))) pss_nil)
      (pss_one (ps_par (i := 0) (j := 1) (by rfl) sc_gcd.nd rfl rfl (by decide) rfl rfl (pa_cons (pv 1) (pa_cons (pe_op op_modN (pe_callTy call_int1 (by rfl) B.int (by decide +kernel) (pa_cons (pv 0) pa_nil)) (pv 1)) pa_nil)) (by rfl)))))
      (pss_one (ps_ret (pe_int)))))), ?_⟩
    walk_at "go"
    refine ⟨by decide, by decide, for_range (n := 600) (fun i σ H' => ∃ (x y : Nat) (v : Option V), σ = [some (.int x), some (.int y), v] ∧ Nat.gcd x y = 1 ∧ H' = H)
      ⟨a.natAbs, b.natAbs, none, ?_, hg, rfl⟩ ?_ ?_⟩
    · rw [← abs_if, ← abs_if]
      rfl
    · rintro i σ H1 hi ⟨x, y, v, rfl, hg, rfl⟩
      walk_at "go"
      walk_at "if"
      · intro hy
        have hy' : y = 0 := by omega
        subst hy'
        walk_at "go"
        rw [Nat.gcd_zero_right] at hg
        subst hg
        exact ⟨_, _, rfl, q⟩
      · intro hy
        have hy' : 0 < y := by omega
        walk_at "go"
        refine ⟨_, _, rfl, y, x % y, some (V.int (0 + (i : Int))), ?_, ?_, rfl⟩
        · have e : (x : Int).fmod (y : Int) = ((x % y : Nat) : Int) := by
            rw [Int.fmod_eq_emod_of_nonneg _ (by omega)]
            rfl
          rw [← e]
          rfl
        · rw [← hg, Nat.gcd_comm x y, Nat.gcd_rec y x, Nat.gcd_comm]
    · rintro σ H1 ⟨x, y, v, rfl, hg, rfl⟩
      exact q
def spExact (C : Addr) : Sp := fun vs H Q _ => ∃ (x : Addr) (n m : Int), vs = [.ref x, .int n, .int m] ∧ RatAt C H x (nT n m) (nU n m) ∧ 0 < m ∧ n.natAbs < 2 ^ 9000 ∧ m.natAbs < 2 ^ 9000 ∧ Q (.bl true) H
abbrev CalExact (P : Program) (w : World) (K : PySem.W.Frag) (mg : Str → Option Value) (base : Heap) (C : Addr) := Cal P w K mg base 3 "_law_exact" ["_law_actual", "_law_top", "_law_under"] (spExact C)
theorem abs_if' (a : Int) : (if a < 0 then -a else a) = (a.natAbs : Int) := by split <;> omega
theorem ok_exact {C : Addr} (B : Blt mg) (T : RatC K mg C) (D : Dfn K mg "_law_exact" "_law_exact" s_exact ["_law_actual", "_law_top", "_law_under"]) (C_ratio : CalRatioQ P w K mg base C) (C_gcd : CalGcd1 P w K mg base) : CalExact P w K mg base C := by
  refine D.cal sc_exact (fun vs H Q E h => ?_) (fun fA cdv A outer st H vs Q E hr h => ?_)
  · obtain ⟨x, n, m, rfl, _⟩ := h
    rfl
  · obtain ⟨x, n, m, rfl, ⟨dx, hx⟩, m0, hn, h2, q⟩ := h
    have mn : m ≠ 0 := by omega
    have h1 : (nT n m).natAbs < 2 ^ 9000 := Nat.lt_of_le_of_lt (nT_le mn) hn
    have h3 : (nU n m).natAbs < 2 ^ 9000 := Nat.lt_of_le_of_lt (nU_le mn) h2
    refine ⟨_, (pss_cons (ps_if (PW.pt (pw_or (pt_not (pt_val (pe_cal C_ratio (hr.mono (by decide)) (pa_cons (pv 0) pa_nil)))) (pw_or1 (pt_cmpR op_ne (pe_op op_mulW (pe_fld (pv 0) rfl) (pv 2)) (pe_op op_mulW (pv 1) (pe_fld (pv 0) rfl)) (nomark _))))) (pss_one (ps_ret (pe_bl))) pss_nil)
      (pss_one (ps_ret (pe_cmpR op_eq (pe_cal C_gcd (hr.mono (by decide)) (pa_cons (pe_fld (pv 0) rfl) (pa_cons (pe_fld (pv 0) rfl) pa_nil))) (pe_int) (nomark _))))), ?_⟩
    refine ⟨_, rfl, x, _, _, rfl, ⟨dx, hx⟩, _, rfl, ?_⟩
    rw [decide_eq_true (nU_pos (t := n) mn)]
    refine iteF ?_
    refine ⟨_, rfl, x, C, dx, _, _, rfl, hx, T.cl, T.nT, rf_top _ _, _, rfl, _, _, rfl, rfl, wm h1 h2, ?_⟩
    refine ⟨_, rfl, _, rfl, x, C, dx, _, _, rfl, hx, T.cl, T.nU, rf_under _ _, _, _, rfl, rfl, wm hn h3, rfl, _, rfl, ?_⟩
    rw [decide_eq_true (show V.int (nT n m * m) = V.int (n * nU n m) by rw [n_cross])]
    refine iteF ?_
    refine ⟨_, rfl, x, C, dx, _, _, rfl, hx, T.cl, T.nT, rf_top _ _, ?_⟩
    exact ⟨_, rfl, x, C, dx, _, _, rfl, hx, T.cl, T.nU, rf_under _ _, _, _, rfl, n_gcd mn, rfl, q⟩
theorem pw_eq {n m : Int} (hm : 0 < m) (k : Nat) : nT (nT n m ^ k) (nU n m ^ k) = nT (n ^ k) (m ^ k) ∧ nU (nT n m ^ k) (nU n m ^ k) = nU (n ^ k) (m ^ k) := by
  refine n_eq (Int.ne_of_gt (ipos k (nU_pos (by omega)))) (Int.ne_of_gt (ipos k hm)) ?_
  rw [← Int.mul_pow, ← Int.mul_pow, n_cross]
theorem bits_pow {i : Int} {j : Int} (h : i.natAbs < 2 ^ 250) (h0 : 0 ≤ j) (h1 : j ≤ 64) : CPowW i j := by
  have : (Builtin.Int.intBits i : Int) ≤ 251 := by
    unfold Builtin.Int.intBits
    split
    · decide
    · have := PySem.Flt.log2_lt_of (by decide : 0 < 250) h
      omega
  refine ⟨h0, Int.le_trans (Int.mul_le_mul_of_nonneg_right this h0) (by omega)⟩
theorem log_of {a : Int} (h : a.natAbs < 2 ^ 1900) : a.natAbs.log2 < 1920 := Nat.lt_trans (PySem.Flt.log2_lt_of (by decide) h) (by decide)
def spPR (C : Addr) : Sp := fun vs H Q _ => ∃ (x : Addr) (a b n : Int), vs = [.ref x, .int n] ∧ RatAt C H x a b ∧ 0 < b ∧ ¬ (0 ≤ n ∧ n ≤ 64) ∧ ∀ (t : Addr) (H' : Hp), Same H H' → H' t = some (.tup [.str "power", .int n, .bl true, .bl true, .bl false]) → Q (.ref t) H'
theorem ok_power_refused {C BN LE ZU : Addr} (B : Blt mg) (T : RatC K mg C) (TB : BnC K mg BN) (gLotError : mg "LotError" = some (.ref LE)) (gZeroUnder : mg "ZeroUnder" = some (.ref ZU)) (kL : PySem.W.kitOne K (.ref BN) (.ref LE) = some true) (kV : PySem.W.kitOne K (.ref BN) (.type "ValueError") = some true) (kZ : PySem.W.kitOne K (.ref BN) (.ref ZU) = some false)
    (PW : OwnX P w K mg base 3 C "power" ["self", "n"] (spPower C BN)) (Df : Dfn K mg "_law_power_refused" "_law_power_refused" s_power_refused ["_law_a", "_law_power"]) : Cal P w K mg base 4 "_law_power_refused" ["_law_a", "_law_power"] (spPR C) := by
  refine Df.cal sc_power_refused (fun vs H Q E h => ?_) (fun fA cdv A outer st H vs Q E hr h => ?_)
  · obtain ⟨x, a, b, n, rfl, _⟩ := h
    rfl
  · obtain ⟨x, a, b, n, rfl, ⟨dx, hx⟩, b0, hn, k⟩ := h
    have W := (Al.nil (H := H)).got hx
    have S := Same.refl H
    refine ⟨_, (pss_cons (ps_set (i := 2) sc_power_refused.nd rfl (Or.inl rfl) (pe_non))
      (pss_cons (ps_try_as (i := 3) rfl rfl sc_power_refused.nd rfl rfl ⟨rfl, by decide, Or.inl TB.g⟩ takes0 (fun W pn xe tk _ => (pss_one (ps_expr (pe_methX PW T.cl (fun σ => passAt tk σ) (hr.mono (by decide)) (pv 0) (pa_cons (pv 1) pa_nil))))) (fun a oe cls d pn hz hf => (pss_one (ps_set (i := 2) sc_power_refused.nd rfl (Or.inl rfl) (pe_tup (pa_cons (pe_xf TB.xf TB.nN hz hf (pv 3)) (pa_cons (pe_xf TB.xf TB.nV hz hf (pv 3)) (pa_cons (pe_callB (call_isX TB.e hz hf) (by rfl) B.isinstance (by decide +kernel) (pa_cons (pv 3) (pa_cons (pe_glob (v := .ref _) (by rfl) gLotError rfl) pa_nil))) (pa_cons (pe_callB (call_isX TB.e hz hf) (by rfl) B.isinstance (by decide +kernel) (pa_cons (pv 3) (pa_cons (pe_bltn (v := .ty "ValueError") (by rfl) B.ve (by decide +kernel) rfl) pa_nil))) (pa_cons (pe_callB (call_isX TB.e hz hf) (by rfl) B.isinstance (by decide +kernel) (pa_cons (pv 3) (pa_cons (pe_glob (v := .ref _) (by rfl) gZeroUnder rfl) pa_nil))) pa_nil))))))))))
      (pss_one (ps_ret (pv 2))))), ?_⟩
    refine ⟨_, rfl, x, dx, _, rfl, (W.at (List.Mem.head _)), rf_no _ _ (by decide +kernel) (by decide +kernel), _, rfl, x, a, b, n, rfl, ⟨dx, (W.at (List.Mem.head _))⟩, b0, fun _ => ?_, fun h0 h1 => absurd ⟨h0, h1⟩ hn⟩
    intro d H' s' hd0 hd
    have W := W.same s'
    have S := S.trans s'
    have W := W.got hd
    refine ⟨true, TB.exm, fun _ e1 he2 => ?_, fun q => Bool.noConfusion q⟩
    refine ⟨_, rfl, rfl, rfl, d, _, _, rfl, (W.at (List.Mem.head _)), bnf_name _ _, _, rfl, rfl, rfl, d, _, _, rfl, (W.at (List.Mem.head _)), bnf_value _ _, _, rfl, rfl, .inr ⟨d, _, rfl, (W.at (List.Mem.head _))⟩, _, _, true, rfl, .own _, kL, _, rfl, rfl, .inr ⟨d, _, rfl, (W.at (List.Mem.head _))⟩, _, _, true, rfl, .ty _, kV, _, rfl, rfl, .inr ⟨d, _, rfl, (W.at (List.Mem.head _))⟩, _, _, false, rfl, .own _, kZ, (by show 5 ≤ sizeLine; decide), fun t3 ht3 => ?_⟩
    have W := W.new (o := .tup [.str "power", .int n, .bl true, .bl true, .bl false]) ht3
    have S := S.trans (same_upd (o := .tup [.str "power", .int n, .bl true, .bl true, .bl false]) ht3)
    exact ⟨_, rfl, k _ _ S (W.at (List.Mem.head _))⟩
def spPowered (C : Addr) : Sp := fun vs H Q _ => ∃ (x : Addr) (at_ au n : Int), vs = [.ref x, .int at_, .int au, .int n] ∧ RatAt C H x (nT at_ au) (nU at_ au) ∧ 0 < au ∧ at_.natAbs < 2 ^ 133 ∧ au.natAbs < 2 ^ 133 ∧ 0 ≤ n ∧ n ≤ 64 ∧ ∀ H', Same H H' → Q (.bl true) H'
theorem ok_powered {C BN : Addr} (B : Blt mg) (T : RatC K mg C) (C_ratio : CalRatioQ P w K mg base C) (PW : OwnX P w K mg base 3 C "power" ["self", "n"] (spPower C BN)) (Df : Dfn K mg "_law_powered" "_law_powered" s_powered ["_law_a", "_law_at", "_law_au", "_law_power"]) : Cal P w K mg base 4 "_law_powered" ["_law_a", "_law_at", "_law_au", "_law_power"] (spPowered C) := by
  refine Df.cal sc_powered (fun vs H Q E h => ?_) (fun fA cdv A outer st H vs Q E hr h => ?_)
  · obtain ⟨x, at_, au, n, rfl, _⟩ := h
    rfl
  · obtain ⟨x, at_, au, n, rfl, ⟨dx, hx⟩, pau, qa, qb, h0, h1, k⟩ := h
    have W := (Al.nil (H := H)).got hx
    have S := Same.refl H
    have nau : au ≠ 0 := by omega
    have pa : (nT at_ au).natAbs < 2 ^ 133 := Nat.lt_of_le_of_lt (nT_le nau) qa
    have pb : (nU at_ au).natAbs < 2 ^ 133 := Nat.lt_of_le_of_lt (nU_le nau) qb
    refine ⟨_, (pss_cons (ps_set (i := 4) sc_powered.nd rfl (Or.inl rfl) (pe_int))
      (pss_cons (ps_set (i := 5) sc_powered.nd rfl (Or.inl rfl) (pe_int))
      (pss_cons (ps_for PassesOwn.never rfl (pi_range1 (by rfl) B.range (pa_cons (pv 3) pa_nil)) (pg_name (i := 6) sc_powered.nd rfl (Or.inl rfl)) (pss_cons (ps_set (i := 4) sc_powered.nd rfl (Or.inl rfl) (pe_op op_mulW (pv 4) (pv 1)))
      (pss_one (ps_set (i := 5) sc_powered.nd rfl (Or.inl rfl) (pe_op op_mulW (pv 5) (pv 2))))))
      (pss_cons (ps_set (i := 7) sc_powered.nd rfl (Or.inl rfl) (pe_methX (E := fun _ => E0) PW T.cl (fun σ pins H s e s' I h => passL pins σ H s e s' I h) (hr.mono (by decide)) (pv 0) (pa_cons (pv 3) pa_nil)))
      (pss_one (ps_ret ((pe_and (pe_cal C_ratio (hr.mono (by decide)) (pa_cons (pv 7) pa_nil)) (pe_one (pe_cmpR op_eq (pe_op op_mulW (pe_fld (pv 7) rfl) (pv 5)) (pe_op op_mulW (pv 4) (pe_fld (pv 7) rfl)) (nomark _))))))))))), ?_⟩
    refine ⟨_, rfl, n, rfl, (by omega), (by omega), for_range (n := n.toNat) (fun i σ' H' => H' = H ∧ ∃ v : Option V, σ' = [some (.ref x), some (.int at_), some (.int au), some (.int n), some (.int (at_ ^ i)), some (.int (au ^ i)), v, none]) ⟨rfl, none, by rw [Int.pow_zero, Int.pow_zero]; rfl⟩ ?_ ?_⟩
    · rintro i σ' H' hi ⟨rfl, v, rfl⟩
      have i64 : i ≤ 64 := by omega
      refine ⟨_, rfl, _, rfl, _, _, rfl, rfl, wide_mul (pow_b64 qa i64) qa (by decide) (by decide) (by decide), ?_⟩
      refine ⟨_, rfl, _, rfl, _, _, rfl, rfl, wide_mul (pow_b64 qb i64) qb (by decide) (by decide) (by decide), ?_⟩
      exact ⟨rfl, _, by rw [Int.pow_succ, Int.pow_succ]; rfl⟩
    rintro σ' H' ⟨rfl, v, rfl⟩
    have n64 : n.toNat ≤ 64 := by omega
    refine ⟨_, rfl, x, dx, _, rfl, (W.at (List.Mem.head _)), rf_no _ _ (by decide +kernel) (by decide +kernel), _, rfl, x, (nT at_ au), (nU at_ au), n, rfl, ⟨dx, (W.at (List.Mem.head _))⟩, (nU_pos nau), fun h => absurd ⟨h0, h1⟩ h, fun _ _ => ⟨pa, pb, fun z1 H2 sz1 hz1 => ?_⟩⟩
    rw [(pw_eq pau n.toNat).1, (pw_eq pau n.toNat).2] at hz1
    obtain ⟨dz1, hz1⟩ := hz1
    have W := W.same sz1
    have S := S.trans sz1
    have W := W.got hz1
    refine ⟨_, rfl, z1, (nT (at_ ^ n.toNat) (au ^ n.toNat)), (nU (at_ ^ n.toNat) (au ^ n.toNat)), rfl, ⟨dz1, (W.at (List.Mem.head _))⟩, _, rfl, itT (nU_pos (Int.ne_of_gt (ipos n.toNat pau))) ?_⟩
    refine ⟨_, rfl, z1, C, dz1, _, _, rfl, (W.at (List.Mem.head _)), T.cl, T.nT, rf_top _ _, _, rfl, _, _, rfl, rfl, wide_mul (Nat.lt_of_le_of_lt (nT_le (Int.ne_of_gt (ipos n.toNat pau))) (pow_b64 qa (by omega))) (pow_b64 qb n64) (by decide) (by decide) (by decide), _, rfl, _, rfl, z1, C, dz1, _, _, rfl, (W.at (List.Mem.head _)), T.cl, T.nU, rf_under _ _, _, _, rfl, rfl, wide_mul (pow_b64 qa n64) (Nat.lt_of_le_of_lt (nU_le (Int.ne_of_gt (ipos n.toNat pau))) (pow_b64 qb (by omega))) (by decide) (by decide) (by decide), rfl, ?_⟩
    refine veT (n_cross _ _) (k _ S)
def spWritten (C : Addr) : Sp := fun vs H Q _ => ∃ (x : Addr) (at_ au : Int), vs = [.ref x, .int at_, .int au] ∧ RatAt C H x (nT at_ au) (nU at_ au) ∧ 0 < au ∧ at_.natAbs < 2 ^ 133 ∧ au.natAbs < 2 ^ 133 ∧ ∀ H', Same H H' → Q (.bl true) H'
theorem ok_written {C BN ZU : Addr} {fiP riP rcP : Option Value} (B : Blt mg) (T : RatC K mg C) (C_ratio : CalRatioQ P w K mg base C) (C_exact : CalExact P w K mg base C) (M1 : CalRatio P w K mg base C ZU [.int 1]) (NE : NeC K C) (Meq : OpOwn P w K mg base 1 C "__eq__" ["self", "other"] (spEqR K C)) (STR : OpOwn P w K mg base 1 C "__str__" ["self"] (spStrR C))
    (PWO : OwnX P w K mg base 4 C (PySem.dunder (Operator.info .Pow).2) ["self", "other"] (spPower C BN)) (hSF : PySem.W.selfFirst K C = true) (rPOW : PySem.W.findIn K (.ref C) (dunderR (Operator.info .Pow).2) = some rcP) (rPp : rcP = none ∨ ∃ g : Addr, rcP = some (.ref g))
    (iPOW : PySem.W.findIn K (.type "int") (PySem.dunder (Operator.info .Pow).2) = some fiP) (jPOW : PySem.W.findIn K (.type "int") (dunderR (Operator.info .Pow).2) = some riP) (hStr : PySem.W.subIn K (.type "str") (.ref C) = some false) (kSC : PySem.W.kitOne K (.type "str") (.ref C) = some false) (Df : Dfn K mg "_law_written" "_law_written" s_written ["_law_a", "_law_at", "_law_au"]) : Cal P w K mg base 5 "_law_written" ["_law_a", "_law_at", "_law_au"] (spWritten C) := by
  refine Df.cal sc_written (fun vs H Q E h => ?_) (fun fA cdv A outer st H vs Q E hr h => ?_)
  · obtain ⟨x, at_, au, rfl, _⟩ := h
    rfl
  · obtain ⟨x, at_, au, rfl, ⟨dx, hx⟩, pau, qa, qb, k⟩ := h
    have W := (Al.nil (H := H)).got hx
    have S := Same.refl H
    have nau : au ≠ 0 := by omega
    have pa : (nT at_ au).natAbs < 2 ^ 133 := Nat.lt_of_le_of_lt (nT_le nau) qa
    have pb : (nU at_ au).natAbs < 2 ^ 133 := Nat.lt_of_le_of_lt (nU_le nau) qb
    have g0 := log_of (ub qa (show 133 ≤ 1900 by decide))
    have g1 := log_of (ub pa (show 133 ≤ 1900 by decide))
    have g2 := log_of (ub pb (show 133 ≤ 1900 by decide))
    have l1 := sT_len g1
    have l2 := sT_len g2
    refine ⟨_, (pss_cons (ps_set (i := 3) sc_written.nd rfl (Or.inl rfl) (pe_lst (pa_cons (pe_tup (pa_cons (pe_ownX (E := fun _ => E0) (op := .Pow) PWO (fun σ pins H s e s' I h => passL pins σ H s e s' I h) hSF rPOW rPp iPOW jPOW NE.si (hr.mono (by decide)) (pv 0) pe_int) (pa_cons (pe_int) (pa_cons (pe_int) pa_nil)))) (pa_cons (pe_tup (pa_cons (pe_ownX (E := fun _ => E0) (op := .Pow) PWO (fun σ pins H s e s' I h => passL pins σ H s e s' I h) hSF rPOW rPp iPOW jPOW NE.si (hr.mono (by decide)) (pv 0) pe_int) (pa_cons (pv 1) (pa_cons (pv 2) pa_nil)))) (pa_cons (pe_tup (pa_cons (pe_ownX (E := fun _ => E0) (op := .Pow) PWO (fun σ pins H s e s' I h => passL pins σ H s e s' I h) hSF rPOW rPp iPOW jPOW NE.si (hr.mono (by decide)) (pv 0) pe_int) (pa_cons (pe_op op_powW (pv 1) (pe_int)) (pa_cons (pe_op op_powW (pv 2) (pe_int)) pa_nil)))) (pa_cons (pe_tup (pa_cons (pe_ownX (E := fun _ => E0) (op := .Pow) PWO (fun σ pins H s e s' I h => passL pins σ H s e s' I h) hSF rPOW rPp iPOW jPOW NE.si (hr.mono (by decide)) (pv 0) pe_int) (pa_cons (pe_op op_powW (pv 1) (pe_int)) (pa_cons (pe_op op_powW (pv 2) (pe_int)) pa_nil)))) pa_nil))))))
      (pss_cons (ps_set (i := 3) sc_written.nd rfl (Or.inl rfl) (pe_op op_cat (pv 3) (pe_lst (pa_cons (pe_tup (pa_cons (pe_ownX (E := fun _ => E0) (op := .Pow) PWO (fun σ pins H s e s' I h => passL pins σ H s e s' I h) hSF rPOW rPp iPOW jPOW NE.si (hr.mono (by decide)) (pv 0) pe_int) (pa_cons (pe_op op_powW (pv 1) (pe_int)) (pa_cons (pe_op op_powW (pv 2) (pe_int)) pa_nil)))) (pa_cons (pe_tup (pa_cons (pe_ownX (E := fun _ => E0) (op := .Pow) PWO (fun σ pins H s e s' I h => passL pins σ H s e s' I h) hSF rPOW rPp iPOW jPOW NE.si (hr.mono (by decide)) (pv 0) pe_int) (pa_cons (pe_op op_powW (pv 1) (pe_int)) (pa_cons (pe_op op_powW (pv 2) (pe_int)) pa_nil)))) (pa_cons (pe_tup (pa_cons (pe_ownX (E := fun _ => E0) (op := .Pow) PWO (fun σ pins H s e s' I h => passL pins σ H s e s' I h) hSF rPOW rPp iPOW jPOW NE.si (hr.mono (by decide)) (pv 0) pe_int) (pa_cons (pe_op op_powW (pv 1) (pe_int)) (pa_cons (pe_op op_powW (pv 2) (pe_int)) pa_nil)))) pa_nil))))))
      (pss_cons (ps_for PassesOwn.never rfl (pi_list (pv 3)) (pg_name (i := 4) sc_written.nd rfl (Or.inl rfl)) (pss_one (ps_if (pt_not (pt_val (pe_cal C_exact (hr.mono (by decide)) (pa_cons (pe_ix ix_tup (pv 4) (pe_int) (fun _ _ => rfl)) (pa_cons (pe_ix ix_tup (pv 4) (pe_int) (fun _ _ => rfl)) (pa_cons (pe_ix ix_tup (pv 4) (pe_int) (fun _ _ => rfl)) pa_nil)))))) (pss_one (ps_ret (pe_bl))) pss_nil)))
      (pss_cons (ps_for PassesOwn.never rfl (pi_list (pe_lst (pa_cons (pe_tup (pa_cons (pe_ownX (E := fun _ => E0) (op := .Pow) PWO (fun σ pins H s e s' I h => passL pins σ H s e s' I h) hSF rPOW rPp iPOW jPOW NE.si (hr.mono (by decide)) (pv 0) pe_int) (pa_cons (pe_op op_powW (pv 1) (pe_int)) (pa_cons (pe_op op_powW (pv 2) (pe_int)) pa_nil)))) (pa_cons (pe_tup (pa_cons (pe_ownX (E := fun _ => E0) (op := .Pow) PWO (fun σ pins H s e s' I h => passL pins σ H s e s' I h) hSF rPOW rPp iPOW jPOW NE.si (hr.mono (by decide)) (pv 0) pe_int) (pa_cons (pe_op op_powW (pv 1) (pe_int)) (pa_cons (pe_op op_powW (pv 2) (pe_int)) pa_nil)))) pa_nil)))) (pg_name (i := 4) sc_written.nd rfl (Or.inl rfl)) (pss_one (ps_if (PW.pt (pw_or (pt_not (pt_val (pe_cal C_ratio (hr.mono (by decide)) (pa_cons (pe_ix ix_tup (pv 4) (pe_int) (fun _ _ => rfl)) pa_nil)))) (pw_or1 (pt_cmpR op_ne (pe_op op_mulW (pe_fld (pe_ix ix_tup (pv 4) (pe_int) (fun _ _ => rfl)) rfl) (pe_ix ix_tup (pv 4) (pe_int) (fun _ _ => rfl))) (pe_op op_mulW (pe_ix ix_tup (pv 4) (pe_int) (fun _ _ => rfl)) (pe_fld (pe_ix ix_tup (pv 4) (pe_int) (fun _ _ => rfl)) rfl)) (nomark _))))) (pss_one (ps_ret (pe_bl))) pss_nil)))
      (pss_cons (ps_set (i := 5) sc_written.nd rfl (Or.inl rfl) (pe_callTy call_str_int (by rfl) B.str (by decide +kernel) (pa_cons (pe_fld (pv 0) rfl) pa_nil)))
      (pss_cons (ps_if (pt_cmpR op_ne (pe_fld (pv 0) rfl) (pe_int) (nomark _)) (pss_one (ps_set (i := 5) sc_written.nd rfl (Or.inl rfl) (pe_op op_add_str (pe_op op_add_str (pv 5) (pe_str)) (pe_callTy call_str_int (by rfl) B.str (by decide +kernel) (pa_cons (pe_fld (pv 0) rfl) pa_nil))))) pss_nil)
      (pss_one (ps_ret ((pe_and (pe_cmpR op_eq (pe_callTy (call_strO STR (hr.mono (by decide))) (by rfl) B.str (by decide +kernel) (pa_cons (pv 0) pa_nil)) (pv 5) (nomark _)) (pe_and (pe_cmpR op_eq (pe_callTy (call_strO STR (hr.mono (by decide))) (by rfl) B.str (by decide +kernel) (pa_cons (pe_mk M1 (hr.mono (by decide)) (pa_cons (pv 1) pa_nil)) pa_nil)) (pe_callTy call_str_int (by rfl) B.str (by decide +kernel) (pa_cons (pv 1) pa_nil)) (nomark _)) (pe_one (pe_not (pe_cmpR (cmp_ox Meq (hr.mono (by decide))) (pv 0) (pv 5) (nomark _))))))))))))))), ?_⟩
    refine ⟨_, rfl, x, dx, _, rfl, (W.at (List.Mem.head _)), .inr ⟨_, rfl⟩, x, (nT at_ au), (nU at_ au), 0, rfl, ⟨dx, (W.at (List.Mem.head _))⟩, (nU_pos nau), fun h => absurd ⟨(by decide), (by decide)⟩ h, fun _ _ => ⟨pa, pb, fun z1 H2 sz1 hz1 => ⟨.inl ⟨_, rfl⟩, ?_⟩⟩⟩
    rw [(pw_eq pau (0 : Int).toNat).1, (pw_eq pau (0 : Int).toNat).2] at hz1
    obtain ⟨dz1, hz1⟩ := hz1
    have W := W.same sz1
    have S := S.trans sz1
    have W := W.got hz1
    refine ⟨(by show 3 ≤ sizeLine; decide), fun t3 ht3 => ?_⟩
    have W := W.new (o := .tup [.ref z1, .int 1, .int 1]) ht3
    have S := S.trans (same_upd (o := .tup [.ref z1, .int 1, .int 1]) ht3)
    refine ⟨_, rfl, x, dx, _, rfl, (W.at (List.Mem.tail _ (List.Mem.tail _ (List.Mem.head _)))), .inr ⟨_, rfl⟩, x, (nT at_ au), (nU at_ au), 1, rfl, ⟨dx, (W.at (List.Mem.tail _ (List.Mem.tail _ (List.Mem.head _))))⟩, (nU_pos nau), fun h => absurd ⟨(by decide), (by decide)⟩ h, fun _ _ => ⟨pa, pb, fun z4 H5 sz4 hz4 => ⟨.inl ⟨_, rfl⟩, ?_⟩⟩⟩
    rw [(pw_eq pau (1 : Int).toNat).1, (pw_eq pau (1 : Int).toNat).2] at hz4
    obtain ⟨dz4, hz4⟩ := hz4
    have W := W.same sz4
    have S := S.trans sz4
    have W := W.got hz4
    refine ⟨_, rfl, _, rfl, (by show 3 ≤ sizeLine; decide), fun t6 ht6 => ?_⟩
    have W := W.new (o := .tup [.ref z4, .int at_, .int au]) ht6
    have S := S.trans (same_upd (o := .tup [.ref z4, .int at_, .int au]) ht6)
    refine ⟨_, rfl, x, dx, _, rfl, (W.at (List.Mem.tail _ (List.Mem.tail _ (List.Mem.tail _ (List.Mem.tail _ (List.Mem.head _)))))), .inr ⟨_, rfl⟩, x, (nT at_ au), (nU at_ au), 2, rfl, ⟨dx, (W.at (List.Mem.tail _ (List.Mem.tail _ (List.Mem.tail _ (List.Mem.tail _ (List.Mem.head _))))))⟩, (nU_pos nau), fun h => absurd ⟨(by decide), (by decide)⟩ h, fun _ _ => ⟨pa, pb, fun z7 H8 sz7 hz7 => ⟨.inl ⟨_, rfl⟩, ?_⟩⟩⟩
    rw [(pw_eq pau (2 : Int).toNat).1, (pw_eq pau (2 : Int).toNat).2] at hz7
    obtain ⟨dz7, hz7⟩ := hz7
    have W := W.same sz7
    have S := S.trans sz7
    have W := W.got hz7
    refine ⟨_, rfl, _, _, rfl, rfl, bits_pow (ub qa (by decide)) (by decide) (by decide), _, rfl, _, _, rfl, rfl, bits_pow (ub qb (by decide)) (by decide) (by decide), (by show 3 ≤ sizeLine; decide), fun t9 ht9 => ?_⟩
    have W := W.new (o := .tup [.ref z7, .int (at_ ^ (2 : Int).toNat), .int (au ^ (2 : Int).toNat)]) ht9
    have S := S.trans (same_upd (o := .tup [.ref z7, .int (at_ ^ (2 : Int).toNat), .int (au ^ (2 : Int).toNat)]) ht9)
    refine ⟨_, rfl, x, dx, _, rfl, (W.at (List.Mem.tail _ (List.Mem.tail _ (List.Mem.tail _ (List.Mem.tail _ (List.Mem.tail _ (List.Mem.tail _ (List.Mem.head _)))))))), .inr ⟨_, rfl⟩, x, (nT at_ au), (nU at_ au), 3, rfl, ⟨dx, (W.at (List.Mem.tail _ (List.Mem.tail _ (List.Mem.tail _ (List.Mem.tail _ (List.Mem.tail _ (List.Mem.tail _ (List.Mem.head _))))))))⟩, (nU_pos nau), fun h => absurd ⟨(by decide), (by decide)⟩ h, fun _ _ => ⟨pa, pb, fun z10 H11 sz10 hz10 => ⟨.inl ⟨_, rfl⟩, ?_⟩⟩⟩
    rw [(pw_eq pau (3 : Int).toNat).1, (pw_eq pau (3 : Int).toNat).2] at hz10
    obtain ⟨dz10, hz10⟩ := hz10
    have W := W.same sz10
    have S := S.trans sz10
    have W := W.got hz10
    refine ⟨_, rfl, _, _, rfl, rfl, bits_pow (ub qa (by decide)) (by decide) (by decide), _, rfl, _, _, rfl, rfl, bits_pow (ub qb (by decide)) (by decide) (by decide), (by show 3 ≤ sizeLine; decide), fun t12 ht12 => ?_⟩
    have W := W.new (o := .tup [.ref z10, .int (at_ ^ (3 : Int).toNat), .int (au ^ (3 : Int).toNat)]) ht12
    have S := S.trans (same_upd (o := .tup [.ref z10, .int (at_ ^ (3 : Int).toNat), .int (au ^ (3 : Int).toNat)]) ht12)
    refine ⟨(by show 4 ≤ sizeLine; decide), fun t13 ht13 => ?_⟩
    have W := W.new (o := .lst [.ref t3, .ref t6, .ref t9, .ref t12]) ht13
    have S := S.trans (same_upd (o := .lst [.ref t3, .ref t6, .ref t9, .ref t12]) ht13)
    refine ⟨_, rfl, _, rfl, x, dx, _, rfl, (W.at (List.Mem.tail _ (List.Mem.tail _ (List.Mem.tail _ (List.Mem.tail _ (List.Mem.tail _ (List.Mem.tail _ (List.Mem.tail _ (List.Mem.tail _ (List.Mem.tail _ (List.Mem.head _))))))))))), .inr ⟨_, rfl⟩, x, (nT at_ au), (nU at_ au), 4, rfl, ⟨dx, (W.at (List.Mem.tail _ (List.Mem.tail _ (List.Mem.tail _ (List.Mem.tail _ (List.Mem.tail _ (List.Mem.tail _ (List.Mem.tail _ (List.Mem.tail _ (List.Mem.tail _ (List.Mem.head _)))))))))))⟩, (nU_pos nau), fun h => absurd ⟨(by decide), (by decide)⟩ h, fun _ _ => ⟨pa, pb, fun z14 H15 sz14 hz14 => ⟨.inl ⟨_, rfl⟩, ?_⟩⟩⟩
    rw [(pw_eq pau (4 : Int).toNat).1, (pw_eq pau (4 : Int).toNat).2] at hz14
    obtain ⟨dz14, hz14⟩ := hz14
    have W := W.same sz14
    have S := S.trans sz14
    have W := W.got hz14
    refine ⟨_, rfl, _, _, rfl, rfl, bits_pow (ub qa (by decide)) (by decide) (by decide), _, rfl, _, _, rfl, rfl, bits_pow (ub qb (by decide)) (by decide) (by decide), (by show 3 ≤ sizeLine; decide), fun t16 ht16 => ?_⟩
    have W := W.new (o := .tup [.ref z14, .int (at_ ^ (4 : Int).toNat), .int (au ^ (4 : Int).toNat)]) ht16
    have S := S.trans (same_upd (o := .tup [.ref z14, .int (at_ ^ (4 : Int).toNat), .int (au ^ (4 : Int).toNat)]) ht16)
    refine ⟨_, rfl, x, dx, _, rfl, (W.at (List.Mem.tail _ (List.Mem.tail _ (List.Mem.tail _ (List.Mem.tail _ (List.Mem.tail _ (List.Mem.tail _ (List.Mem.tail _ (List.Mem.tail _ (List.Mem.tail _ (List.Mem.tail _ (List.Mem.tail _ (List.Mem.head _))))))))))))), .inr ⟨_, rfl⟩, x, (nT at_ au), (nU at_ au), 5, rfl, ⟨dx, (W.at (List.Mem.tail _ (List.Mem.tail _ (List.Mem.tail _ (List.Mem.tail _ (List.Mem.tail _ (List.Mem.tail _ (List.Mem.tail _ (List.Mem.tail _ (List.Mem.tail _ (List.Mem.tail _ (List.Mem.tail _ (List.Mem.head _)))))))))))))⟩, (nU_pos nau), fun h => absurd ⟨(by decide), (by decide)⟩ h, fun _ _ => ⟨pa, pb, fun z17 H18 sz17 hz17 => ⟨.inl ⟨_, rfl⟩, ?_⟩⟩⟩
    rw [(pw_eq pau (5 : Int).toNat).1, (pw_eq pau (5 : Int).toNat).2] at hz17
    obtain ⟨dz17, hz17⟩ := hz17
    have W := W.same sz17
    have S := S.trans sz17
    have W := W.got hz17
    refine ⟨_, rfl, _, _, rfl, rfl, bits_pow (ub qa (by decide)) (by decide) (by decide), _, rfl, _, _, rfl, rfl, bits_pow (ub qb (by decide)) (by decide) (by decide), (by show 3 ≤ sizeLine; decide), fun t19 ht19 => ?_⟩
    have W := W.new (o := .tup [.ref z17, .int (at_ ^ (5 : Int).toNat), .int (au ^ (5 : Int).toNat)]) ht19
    have S := S.trans (same_upd (o := .tup [.ref z17, .int (at_ ^ (5 : Int).toNat), .int (au ^ (5 : Int).toNat)]) ht19)
    refine ⟨_, rfl, x, dx, _, rfl, (W.at (List.Mem.tail _ (List.Mem.tail _ (List.Mem.tail _ (List.Mem.tail _ (List.Mem.tail _ (List.Mem.tail _ (List.Mem.tail _ (List.Mem.tail _ (List.Mem.tail _ (List.Mem.tail _ (List.Mem.tail _ (List.Mem.tail _ (List.Mem.tail _ (List.Mem.head _))))))))))))))), .inr ⟨_, rfl⟩, x, (nT at_ au), (nU at_ au), 7, rfl, ⟨dx, (W.at (List.Mem.tail _ (List.Mem.tail _ (List.Mem.tail _ (List.Mem.tail _ (List.Mem.tail _ (List.Mem.tail _ (List.Mem.tail _ (List.Mem.tail _ (List.Mem.tail _ (List.Mem.tail _ (List.Mem.tail _ (List.Mem.tail _ (List.Mem.tail _ (List.Mem.head _)))))))))))))))⟩, (nU_pos nau), fun h => absurd ⟨(by decide), (by decide)⟩ h, fun _ _ => ⟨pa, pb, fun z20 H21 sz20 hz20 => ⟨.inl ⟨_, rfl⟩, ?_⟩⟩⟩
    rw [(pw_eq pau (7 : Int).toNat).1, (pw_eq pau (7 : Int).toNat).2] at hz20
    obtain ⟨dz20, hz20⟩ := hz20
    have W := W.same sz20
    have S := S.trans sz20
    have W := W.got hz20
    refine ⟨_, rfl, _, _, rfl, rfl, bits_pow (ub qa (by decide)) (by decide) (by decide), _, rfl, _, _, rfl, rfl, bits_pow (ub qb (by decide)) (by decide) (by decide), (by show 3 ≤ sizeLine; decide), fun t22 ht22 => ?_⟩
    have W := W.new (o := .tup [.ref z20, .int (at_ ^ (7 : Int).toNat), .int (au ^ (7 : Int).toNat)]) ht22
    have S := S.trans (same_upd (o := .tup [.ref z20, .int (at_ ^ (7 : Int).toNat), .int (au ^ (7 : Int).toNat)]) ht22)
    refine ⟨(by show 3 ≤ sizeLine; decide), fun t23 ht23 => ?_⟩
    have W := W.new (o := .lst [.ref t16, .ref t19, .ref t22]) ht23
    have S := S.trans (same_upd (o := .lst [.ref t16, .ref t19, .ref t22]) ht23)
    refine ⟨t13, t23, _, _, rfl, rfl, (W.at (List.Mem.tail _ (List.Mem.tail _ (List.Mem.tail _ (List.Mem.tail _ (List.Mem.tail _ (List.Mem.tail _ (List.Mem.tail _ (List.Mem.head _))))))))), (W.at (List.Mem.head _)), (by show 7 ≤ sizeLine; decide), fun t24 ht24 => ?_⟩
    have W := W.new (o := .lst [.ref t3, .ref t6, .ref t9, .ref t12, .ref t16, .ref t19, .ref t22]) ht24
    have S := S.trans (same_upd (o := .lst [.ref t3, .ref t6, .ref t9, .ref t12, .ref t16, .ref t19, .ref t22]) ht24)
    refine ⟨_, rfl, t24, rfl, ⟨_, SqL.of (W.at (List.Mem.head _))⟩, for_list (K := K) (a := t24) (xs := [V.ref t3, V.ref t6, V.ref t9, V.ref t12, V.ref t16, V.ref t19, V.ref t22]) (fun _ σ' H' => ∃ o25 : Option V, Al [(t24, .lst [.ref t3, .ref t6, .ref t9, .ref t12, .ref t16, .ref t19, .ref t22]), (t23, .lst [.ref t16, .ref t19, .ref t22]), (t22, .tup [.ref z20, .int (at_ ^ (7 : Int).toNat), .int (au ^ (7 : Int).toNat)]), (z20, .ins C dz20 (rf (nT (at_ ^ (7 : Int).toNat) (au ^ (7 : Int).toNat)) (nU (at_ ^ (7 : Int).toNat) (au ^ (7 : Int).toNat)))), (t19, .tup [.ref z17, .int (at_ ^ (5 : Int).toNat), .int (au ^ (5 : Int).toNat)]), (z17, .ins C dz17 (rf (nT (at_ ^ (5 : Int).toNat) (au ^ (5 : Int).toNat)) (nU (at_ ^ (5 : Int).toNat) (au ^ (5 : Int).toNat)))), (t16, .tup [.ref z14, .int (at_ ^ (4 : Int).toNat), .int (au ^ (4 : Int).toNat)]), (z14, .ins C dz14 (rf (nT (at_ ^ (4 : Int).toNat) (au ^ (4 : Int).toNat)) (nU (at_ ^ (4 : Int).toNat) (au ^ (4 : Int).toNat)))), (t13, .lst [.ref t3, .ref t6, .ref t9, .ref t12]), (t12, .tup [.ref z10, .int (at_ ^ (3 : Int).toNat), .int (au ^ (3 : Int).toNat)]), (z10, .ins C dz10 (rf (nT (at_ ^ (3 : Int).toNat) (au ^ (3 : Int).toNat)) (nU (at_ ^ (3 : Int).toNat) (au ^ (3 : Int).toNat)))), (t9, .tup [.ref z7, .int (at_ ^ (2 : Int).toNat), .int (au ^ (2 : Int).toNat)]), (z7, .ins C dz7 (rf (nT (at_ ^ (2 : Int).toNat) (au ^ (2 : Int).toNat)) (nU (at_ ^ (2 : Int).toNat) (au ^ (2 : Int).toNat)))), (t6, .tup [.ref z4, .int at_, .int au]), (z4, .ins C dz4 (rf (nT (at_ ^ (1 : Int).toNat) (au ^ (1 : Int).toNat)) (nU (at_ ^ (1 : Int).toNat) (au ^ (1 : Int).toNat)))), (t3, .tup [.ref z1, .int 1, .int 1]), (z1, .ins C dz1 (rf (nT (at_ ^ (0 : Int).toNat) (au ^ (0 : Int).toNat)) (nU (at_ ^ (0 : Int).toNat) (au ^ (0 : Int).toNat)))), (x, .ins C dx (rf (nT at_ au) (nU at_ au)))] H' ∧ Same H H' ∧ σ' = [some (.ref x), some (.int at_), some (.int au), some (.ref t24), o25, none]) ⟨_, W, S, rfl⟩ (fun _ _ _ _ ⟨_, W, _⟩ => SqL.of (W.at (List.Mem.head _))) ?_ ?_⟩
    · skip
      rintro i yy σ' H26 hi ⟨o25, W, S, rfl⟩
      match i, hi with
      | 0, hi =>
        cases hi
        refine ⟨_, rfl, _, _, _, _, rfl, rfl, SqT.of (W.at (List.Mem.tail _ (List.Mem.tail _ (List.Mem.tail _ (List.Mem.tail _ (List.Mem.tail _ (List.Mem.tail _ (List.Mem.tail _ (List.Mem.tail _ (List.Mem.tail _ (List.Mem.tail _ (List.Mem.tail _ (List.Mem.tail _ (List.Mem.tail _ (List.Mem.tail _ (List.Mem.tail _ (List.Mem.head _))))))))))))))))), rfl, _, rfl, _, _, _, _, rfl, rfl, SqT.of (W.at (List.Mem.tail _ (List.Mem.tail _ (List.Mem.tail _ (List.Mem.tail _ (List.Mem.tail _ (List.Mem.tail _ (List.Mem.tail _ (List.Mem.tail _ (List.Mem.tail _ (List.Mem.tail _ (List.Mem.tail _ (List.Mem.tail _ (List.Mem.tail _ (List.Mem.tail _ (List.Mem.tail _ (List.Mem.head _))))))))))))))))), rfl, _, rfl, _, _, _, _, rfl, rfl, SqT.of (W.at (List.Mem.tail _ (List.Mem.tail _ (List.Mem.tail _ (List.Mem.tail _ (List.Mem.tail _ (List.Mem.tail _ (List.Mem.tail _ (List.Mem.tail _ (List.Mem.tail _ (List.Mem.tail _ (List.Mem.tail _ (List.Mem.tail _ (List.Mem.tail _ (List.Mem.tail _ (List.Mem.tail _ (List.Mem.head _))))))))))))))))), rfl, z1, 1, 1, rfl, (by have z := (W.at (List.Mem.tail _ (List.Mem.tail _ (List.Mem.tail _ (List.Mem.tail _ (List.Mem.tail _ (List.Mem.tail _ (List.Mem.tail _ (List.Mem.tail _ (List.Mem.tail _ (List.Mem.tail _ (List.Mem.tail _ (List.Mem.tail _ (List.Mem.tail _ (List.Mem.tail _ (List.Mem.tail _ (List.Mem.tail _ (List.Mem.head _)))))))))))))))))); first | exact ⟨_, z⟩ | (rw [show ((0 : Int).toNat) = 0 from rfl, Int.pow_zero, Int.pow_zero] at z; exact ⟨_, z⟩) | (rw [show ((1 : Int).toNat) = 1 from rfl, Int.pow_one, Int.pow_one] at z; exact ⟨_, z⟩)), (by first | exact ipos _ pau | decide | exact pau), (ub (show (1 : Int).natAbs < 2 ^ 2 by decide +kernel) (by decide)), (ub (show (1 : Int).natAbs < 2 ^ 2 by decide +kernel) (by decide)), _, rfl, iteF ?_⟩
        exact ⟨_, W, S, rfl⟩
      | 1, hi =>
        cases hi
        refine ⟨_, rfl, _, _, _, _, rfl, rfl, SqT.of (W.at (List.Mem.tail _ (List.Mem.tail _ (List.Mem.tail _ (List.Mem.tail _ (List.Mem.tail _ (List.Mem.tail _ (List.Mem.tail _ (List.Mem.tail _ (List.Mem.tail _ (List.Mem.tail _ (List.Mem.tail _ (List.Mem.tail _ (List.Mem.tail _ (List.Mem.head _))))))))))))))), rfl, _, rfl, _, _, _, _, rfl, rfl, SqT.of (W.at (List.Mem.tail _ (List.Mem.tail _ (List.Mem.tail _ (List.Mem.tail _ (List.Mem.tail _ (List.Mem.tail _ (List.Mem.tail _ (List.Mem.tail _ (List.Mem.tail _ (List.Mem.tail _ (List.Mem.tail _ (List.Mem.tail _ (List.Mem.tail _ (List.Mem.head _))))))))))))))), rfl, _, rfl, _, _, _, _, rfl, rfl, SqT.of (W.at (List.Mem.tail _ (List.Mem.tail _ (List.Mem.tail _ (List.Mem.tail _ (List.Mem.tail _ (List.Mem.tail _ (List.Mem.tail _ (List.Mem.tail _ (List.Mem.tail _ (List.Mem.tail _ (List.Mem.tail _ (List.Mem.tail _ (List.Mem.tail _ (List.Mem.head _))))))))))))))), rfl, z4, at_, au, rfl, (by have z := (W.at (List.Mem.tail _ (List.Mem.tail _ (List.Mem.tail _ (List.Mem.tail _ (List.Mem.tail _ (List.Mem.tail _ (List.Mem.tail _ (List.Mem.tail _ (List.Mem.tail _ (List.Mem.tail _ (List.Mem.tail _ (List.Mem.tail _ (List.Mem.tail _ (List.Mem.tail _ (List.Mem.head _)))))))))))))))); first | exact ⟨_, z⟩ | (rw [show ((0 : Int).toNat) = 0 from rfl, Int.pow_zero, Int.pow_zero] at z; exact ⟨_, z⟩) | (rw [show ((1 : Int).toNat) = 1 from rfl, Int.pow_one, Int.pow_one] at z; exact ⟨_, z⟩)), (by first | exact ipos _ pau | decide | exact pau), (ub qa (by decide)), (ub qb (by decide)), _, rfl, iteF ?_⟩
        exact ⟨_, W, S, rfl⟩
      | 2, hi =>
        cases hi
        refine ⟨_, rfl, _, _, _, _, rfl, rfl, SqT.of (W.at (List.Mem.tail _ (List.Mem.tail _ (List.Mem.tail _ (List.Mem.tail _ (List.Mem.tail _ (List.Mem.tail _ (List.Mem.tail _ (List.Mem.tail _ (List.Mem.tail _ (List.Mem.tail _ (List.Mem.tail _ (List.Mem.head _))))))))))))), rfl, _, rfl, _, _, _, _, rfl, rfl, SqT.of (W.at (List.Mem.tail _ (List.Mem.tail _ (List.Mem.tail _ (List.Mem.tail _ (List.Mem.tail _ (List.Mem.tail _ (List.Mem.tail _ (List.Mem.tail _ (List.Mem.tail _ (List.Mem.tail _ (List.Mem.tail _ (List.Mem.head _))))))))))))), rfl, _, rfl, _, _, _, _, rfl, rfl, SqT.of (W.at (List.Mem.tail _ (List.Mem.tail _ (List.Mem.tail _ (List.Mem.tail _ (List.Mem.tail _ (List.Mem.tail _ (List.Mem.tail _ (List.Mem.tail _ (List.Mem.tail _ (List.Mem.tail _ (List.Mem.tail _ (List.Mem.head _))))))))))))), rfl, z7, (at_ ^ (2 : Int).toNat), (au ^ (2 : Int).toNat), rfl, (by have z := (W.at (List.Mem.tail _ (List.Mem.tail _ (List.Mem.tail _ (List.Mem.tail _ (List.Mem.tail _ (List.Mem.tail _ (List.Mem.tail _ (List.Mem.tail _ (List.Mem.tail _ (List.Mem.tail _ (List.Mem.tail _ (List.Mem.tail _ (List.Mem.head _)))))))))))))); first | exact ⟨_, z⟩ | (rw [show ((0 : Int).toNat) = 0 from rfl, Int.pow_zero, Int.pow_zero] at z; exact ⟨_, z⟩) | (rw [show ((1 : Int).toNat) = 1 from rfl, Int.pow_one, Int.pow_one] at z; exact ⟨_, z⟩)), (by first | exact ipos _ pau | decide | exact pau), (ub (pow_b64 qa (by decide)) (by decide)), (ub (pow_b64 qb (by decide)) (by decide)), _, rfl, iteF ?_⟩
        exact ⟨_, W, S, rfl⟩
      | 3, hi =>
        cases hi
        refine ⟨_, rfl, _, _, _, _, rfl, rfl, SqT.of (W.at (List.Mem.tail _ (List.Mem.tail _ (List.Mem.tail _ (List.Mem.tail _ (List.Mem.tail _ (List.Mem.tail _ (List.Mem.tail _ (List.Mem.tail _ (List.Mem.tail _ (List.Mem.head _))))))))))), rfl, _, rfl, _, _, _, _, rfl, rfl, SqT.of (W.at (List.Mem.tail _ (List.Mem.tail _ (List.Mem.tail _ (List.Mem.tail _ (List.Mem.tail _ (List.Mem.tail _ (List.Mem.tail _ (List.Mem.tail _ (List.Mem.tail _ (List.Mem.head _))))))))))), rfl, _, rfl, _, _, _, _, rfl, rfl, SqT.of (W.at (List.Mem.tail _ (List.Mem.tail _ (List.Mem.tail _ (List.Mem.tail _ (List.Mem.tail _ (List.Mem.tail _ (List.Mem.tail _ (List.Mem.tail _ (List.Mem.tail _ (List.Mem.head _))))))))))), rfl, z10, (at_ ^ (3 : Int).toNat), (au ^ (3 : Int).toNat), rfl, (by have z := (W.at (List.Mem.tail _ (List.Mem.tail _ (List.Mem.tail _ (List.Mem.tail _ (List.Mem.tail _ (List.Mem.tail _ (List.Mem.tail _ (List.Mem.tail _ (List.Mem.tail _ (List.Mem.tail _ (List.Mem.head _)))))))))))); first | exact ⟨_, z⟩ | (rw [show ((0 : Int).toNat) = 0 from rfl, Int.pow_zero, Int.pow_zero] at z; exact ⟨_, z⟩) | (rw [show ((1 : Int).toNat) = 1 from rfl, Int.pow_one, Int.pow_one] at z; exact ⟨_, z⟩)), (by first | exact ipos _ pau | decide | exact pau), (ub (pow_b64 qa (by decide)) (by decide)), (ub (pow_b64 qb (by decide)) (by decide)), _, rfl, iteF ?_⟩
        exact ⟨_, W, S, rfl⟩
      | 4, hi =>
        cases hi
        refine ⟨_, rfl, _, _, _, _, rfl, rfl, SqT.of (W.at (List.Mem.tail _ (List.Mem.tail _ (List.Mem.tail _ (List.Mem.tail _ (List.Mem.tail _ (List.Mem.tail _ (List.Mem.head _)))))))), rfl, _, rfl, _, _, _, _, rfl, rfl, SqT.of (W.at (List.Mem.tail _ (List.Mem.tail _ (List.Mem.tail _ (List.Mem.tail _ (List.Mem.tail _ (List.Mem.tail _ (List.Mem.head _)))))))), rfl, _, rfl, _, _, _, _, rfl, rfl, SqT.of (W.at (List.Mem.tail _ (List.Mem.tail _ (List.Mem.tail _ (List.Mem.tail _ (List.Mem.tail _ (List.Mem.tail _ (List.Mem.head _)))))))), rfl, z14, (at_ ^ (4 : Int).toNat), (au ^ (4 : Int).toNat), rfl, (by have z := (W.at (List.Mem.tail _ (List.Mem.tail _ (List.Mem.tail _ (List.Mem.tail _ (List.Mem.tail _ (List.Mem.tail _ (List.Mem.tail _ (List.Mem.head _))))))))); first | exact ⟨_, z⟩ | (rw [show ((0 : Int).toNat) = 0 from rfl, Int.pow_zero, Int.pow_zero] at z; exact ⟨_, z⟩) | (rw [show ((1 : Int).toNat) = 1 from rfl, Int.pow_one, Int.pow_one] at z; exact ⟨_, z⟩)), (by first | exact ipos _ pau | decide | exact pau), (ub (pow_b64 qa (by decide)) (by decide)), (ub (pow_b64 qb (by decide)) (by decide)), _, rfl, iteF ?_⟩
        exact ⟨_, W, S, rfl⟩
      | 5, hi =>
        cases hi
        refine ⟨_, rfl, _, _, _, _, rfl, rfl, SqT.of (W.at (List.Mem.tail _ (List.Mem.tail _ (List.Mem.tail _ (List.Mem.tail _ (List.Mem.head _)))))), rfl, _, rfl, _, _, _, _, rfl, rfl, SqT.of (W.at (List.Mem.tail _ (List.Mem.tail _ (List.Mem.tail _ (List.Mem.tail _ (List.Mem.head _)))))), rfl, _, rfl, _, _, _, _, rfl, rfl, SqT.of (W.at (List.Mem.tail _ (List.Mem.tail _ (List.Mem.tail _ (List.Mem.tail _ (List.Mem.head _)))))), rfl, z17, (at_ ^ (5 : Int).toNat), (au ^ (5 : Int).toNat), rfl, (by have z := (W.at (List.Mem.tail _ (List.Mem.tail _ (List.Mem.tail _ (List.Mem.tail _ (List.Mem.tail _ (List.Mem.head _))))))); first | exact ⟨_, z⟩ | (rw [show ((0 : Int).toNat) = 0 from rfl, Int.pow_zero, Int.pow_zero] at z; exact ⟨_, z⟩) | (rw [show ((1 : Int).toNat) = 1 from rfl, Int.pow_one, Int.pow_one] at z; exact ⟨_, z⟩)), (by first | exact ipos _ pau | decide | exact pau), (ub (pow_b64 qa (by decide)) (by decide)), (ub (pow_b64 qb (by decide)) (by decide)), _, rfl, iteF ?_⟩
        exact ⟨_, W, S, rfl⟩
      | 6, hi =>
        cases hi
        refine ⟨_, rfl, _, _, _, _, rfl, rfl, SqT.of (W.at (List.Mem.tail _ (List.Mem.tail _ (List.Mem.head _)))), rfl, _, rfl, _, _, _, _, rfl, rfl, SqT.of (W.at (List.Mem.tail _ (List.Mem.tail _ (List.Mem.head _)))), rfl, _, rfl, _, _, _, _, rfl, rfl, SqT.of (W.at (List.Mem.tail _ (List.Mem.tail _ (List.Mem.head _)))), rfl, z20, (at_ ^ (7 : Int).toNat), (au ^ (7 : Int).toNat), rfl, (by have z := (W.at (List.Mem.tail _ (List.Mem.tail _ (List.Mem.tail _ (List.Mem.head _))))); first | exact ⟨_, z⟩ | (rw [show ((0 : Int).toNat) = 0 from rfl, Int.pow_zero, Int.pow_zero] at z; exact ⟨_, z⟩) | (rw [show ((1 : Int).toNat) = 1 from rfl, Int.pow_one, Int.pow_one] at z; exact ⟨_, z⟩)), (by first | exact ipos _ pau | decide | exact pau), (ub (pow_b64 qa (by decide)) (by decide)), (ub (pow_b64 qb (by decide)) (by decide)), _, rfl, iteF ?_⟩
        exact ⟨_, W, S, rfl⟩
      | i + 7, hi => simp at hi
    rintro σ' H27 ⟨o25, W, S, rfl⟩
    refine ⟨_, rfl, x, dx, _, rfl, (W.at (List.Mem.tail _ (List.Mem.tail _ (List.Mem.tail _ (List.Mem.tail _ (List.Mem.tail _ (List.Mem.tail _ (List.Mem.tail _ (List.Mem.tail _ (List.Mem.tail _ (List.Mem.tail _ (List.Mem.tail _ (List.Mem.tail _ (List.Mem.tail _ (List.Mem.tail _ (List.Mem.tail _ (List.Mem.tail _ (List.Mem.tail _ (List.Mem.head _))))))))))))))))))), .inr ⟨_, rfl⟩, x, (nT at_ au), (nU at_ au), 63, rfl, ⟨dx, (W.at (List.Mem.tail _ (List.Mem.tail _ (List.Mem.tail _ (List.Mem.tail _ (List.Mem.tail _ (List.Mem.tail _ (List.Mem.tail _ (List.Mem.tail _ (List.Mem.tail _ (List.Mem.tail _ (List.Mem.tail _ (List.Mem.tail _ (List.Mem.tail _ (List.Mem.tail _ (List.Mem.tail _ (List.Mem.tail _ (List.Mem.tail _ (List.Mem.head _)))))))))))))))))))⟩, (nU_pos nau), fun h => absurd ⟨(by decide), (by decide)⟩ h, fun _ _ => ⟨pa, pb, fun z28 H29 sz28 hz28 => ⟨.inl ⟨_, rfl⟩, ?_⟩⟩⟩
    rw [(pw_eq pau (63 : Int).toNat).1, (pw_eq pau (63 : Int).toNat).2] at hz28
    obtain ⟨dz28, hz28⟩ := hz28
    have W := W.same sz28
    have S := S.trans sz28
    have W := W.got hz28
    refine ⟨_, rfl, _, _, rfl, rfl, bits_pow (ub qa (by decide)) (by decide) (by decide), _, rfl, _, _, rfl, rfl, bits_pow (ub qb (by decide)) (by decide) (by decide), (by show 3 ≤ sizeLine; decide), fun t30 ht30 => ?_⟩
    have W := W.new (o := .tup [.ref z28, .int (at_ ^ (63 : Int).toNat), .int (au ^ (63 : Int).toNat)]) ht30
    have S := S.trans (same_upd (o := .tup [.ref z28, .int (at_ ^ (63 : Int).toNat), .int (au ^ (63 : Int).toNat)]) ht30)
    refine ⟨_, rfl, x, dx, _, rfl, (W.at (List.Mem.tail _ (List.Mem.tail _ (List.Mem.tail _ (List.Mem.tail _ (List.Mem.tail _ (List.Mem.tail _ (List.Mem.tail _ (List.Mem.tail _ (List.Mem.tail _ (List.Mem.tail _ (List.Mem.tail _ (List.Mem.tail _ (List.Mem.tail _ (List.Mem.tail _ (List.Mem.tail _ (List.Mem.tail _ (List.Mem.tail _ (List.Mem.tail _ (List.Mem.tail _ (List.Mem.head _))))))))))))))))))))), .inr ⟨_, rfl⟩, x, (nT at_ au), (nU at_ au), 64, rfl, ⟨dx, (W.at (List.Mem.tail _ (List.Mem.tail _ (List.Mem.tail _ (List.Mem.tail _ (List.Mem.tail _ (List.Mem.tail _ (List.Mem.tail _ (List.Mem.tail _ (List.Mem.tail _ (List.Mem.tail _ (List.Mem.tail _ (List.Mem.tail _ (List.Mem.tail _ (List.Mem.tail _ (List.Mem.tail _ (List.Mem.tail _ (List.Mem.tail _ (List.Mem.tail _ (List.Mem.tail _ (List.Mem.head _)))))))))))))))))))))⟩, (nU_pos nau), fun h => absurd ⟨(by decide), (by decide)⟩ h, fun _ _ => ⟨pa, pb, fun z31 H32 sz31 hz31 => ⟨.inl ⟨_, rfl⟩, ?_⟩⟩⟩
    rw [(pw_eq pau (64 : Int).toNat).1, (pw_eq pau (64 : Int).toNat).2] at hz31
    obtain ⟨dz31, hz31⟩ := hz31
    have W := W.same sz31
    have S := S.trans sz31
    have W := W.got hz31
    refine ⟨_, rfl, _, _, rfl, rfl, bits_pow (ub qa (by decide)) (by decide) (by decide), _, rfl, _, _, rfl, rfl, bits_pow (ub qb (by decide)) (by decide) (by decide), (by show 3 ≤ sizeLine; decide), fun t33 ht33 => ?_⟩
    have W := W.new (o := .tup [.ref z31, .int (at_ ^ (64 : Int).toNat), .int (au ^ (64 : Int).toNat)]) ht33
    have S := S.trans (same_upd (o := .tup [.ref z31, .int (at_ ^ (64 : Int).toNat), .int (au ^ (64 : Int).toNat)]) ht33)
    refine ⟨(by show 2 ≤ sizeLine; decide), fun t34 ht34 => ?_⟩
    have W := W.new (o := .lst [.ref t30, .ref t33]) ht34
    have S := S.trans (same_upd (o := .lst [.ref t30, .ref t33]) ht34)
    refine ⟨t34, rfl, ⟨_, SqL.of (W.at (List.Mem.head _))⟩, for_list (K := K) (a := t34) (xs := [V.ref t30, V.ref t33]) (fun _ σ' H' => ∃ o35 : Option V, Al [(t34, .lst [.ref t30, .ref t33]), (t33, .tup [.ref z31, .int (at_ ^ (64 : Int).toNat), .int (au ^ (64 : Int).toNat)]), (z31, .ins C dz31 (rf (nT (at_ ^ (64 : Int).toNat) (au ^ (64 : Int).toNat)) (nU (at_ ^ (64 : Int).toNat) (au ^ (64 : Int).toNat)))), (t30, .tup [.ref z28, .int (at_ ^ (63 : Int).toNat), .int (au ^ (63 : Int).toNat)]), (z28, .ins C dz28 (rf (nT (at_ ^ (63 : Int).toNat) (au ^ (63 : Int).toNat)) (nU (at_ ^ (63 : Int).toNat) (au ^ (63 : Int).toNat)))), (t24, .lst [.ref t3, .ref t6, .ref t9, .ref t12, .ref t16, .ref t19, .ref t22]), (t23, .lst [.ref t16, .ref t19, .ref t22]), (t22, .tup [.ref z20, .int (at_ ^ (7 : Int).toNat), .int (au ^ (7 : Int).toNat)]), (z20, .ins C dz20 (rf (nT (at_ ^ (7 : Int).toNat) (au ^ (7 : Int).toNat)) (nU (at_ ^ (7 : Int).toNat) (au ^ (7 : Int).toNat)))), (t19, .tup [.ref z17, .int (at_ ^ (5 : Int).toNat), .int (au ^ (5 : Int).toNat)]), (z17, .ins C dz17 (rf (nT (at_ ^ (5 : Int).toNat) (au ^ (5 : Int).toNat)) (nU (at_ ^ (5 : Int).toNat) (au ^ (5 : Int).toNat)))), (t16, .tup [.ref z14, .int (at_ ^ (4 : Int).toNat), .int (au ^ (4 : Int).toNat)]), (z14, .ins C dz14 (rf (nT (at_ ^ (4 : Int).toNat) (au ^ (4 : Int).toNat)) (nU (at_ ^ (4 : Int).toNat) (au ^ (4 : Int).toNat)))), (t13, .lst [.ref t3, .ref t6, .ref t9, .ref t12]), (t12, .tup [.ref z10, .int (at_ ^ (3 : Int).toNat), .int (au ^ (3 : Int).toNat)]), (z10, .ins C dz10 (rf (nT (at_ ^ (3 : Int).toNat) (au ^ (3 : Int).toNat)) (nU (at_ ^ (3 : Int).toNat) (au ^ (3 : Int).toNat)))), (t9, .tup [.ref z7, .int (at_ ^ (2 : Int).toNat), .int (au ^ (2 : Int).toNat)]), (z7, .ins C dz7 (rf (nT (at_ ^ (2 : Int).toNat) (au ^ (2 : Int).toNat)) (nU (at_ ^ (2 : Int).toNat) (au ^ (2 : Int).toNat)))), (t6, .tup [.ref z4, .int at_, .int au]), (z4, .ins C dz4 (rf (nT (at_ ^ (1 : Int).toNat) (au ^ (1 : Int).toNat)) (nU (at_ ^ (1 : Int).toNat) (au ^ (1 : Int).toNat)))), (t3, .tup [.ref z1, .int 1, .int 1]), (z1, .ins C dz1 (rf (nT (at_ ^ (0 : Int).toNat) (au ^ (0 : Int).toNat)) (nU (at_ ^ (0 : Int).toNat) (au ^ (0 : Int).toNat)))), (x, .ins C dx (rf (nT at_ au) (nU at_ au)))] H' ∧ Same H H' ∧ σ' = [some (.ref x), some (.int at_), some (.int au), some (.ref t24), o35, none]) ⟨_, W, S, rfl⟩ (fun _ _ _ _ ⟨_, W, _⟩ => SqL.of (W.at (List.Mem.head _))) ?_ ?_⟩
    · skip
      rintro i yy σ' H36 hi ⟨o35, W, S, rfl⟩
      match i, hi with
      | 0, hi =>
        cases hi
        refine ⟨_, rfl, _, _, _, _, rfl, rfl, SqT.of (W.at (List.Mem.tail _ (List.Mem.tail _ (List.Mem.tail _ (List.Mem.head _))))), rfl, z28, (nT (at_ ^ (63 : Int).toNat) (au ^ (63 : Int).toNat)), (nU (at_ ^ (63 : Int).toNat) (au ^ (63 : Int).toNat)), rfl, ⟨dz28, (W.at (List.Mem.tail _ (List.Mem.tail _ (List.Mem.tail _ (List.Mem.tail _ (List.Mem.head _))))))⟩, _, rfl, niT (nU_pos (Int.ne_of_gt (ipos (63 : Int).toNat pau))) ?_⟩
        refine ⟨_, rfl, _, _, _, _, rfl, rfl, SqT.of (W.at (List.Mem.tail _ (List.Mem.tail _ (List.Mem.tail _ (List.Mem.head _))))), rfl, z28, C, dz28, _, _, rfl, (W.at (List.Mem.tail _ (List.Mem.tail _ (List.Mem.tail _ (List.Mem.tail _ (List.Mem.head _)))))), T.cl, T.nT, rf_top _ _, _, rfl, _, _, _, _, rfl, rfl, SqT.of (W.at (List.Mem.tail _ (List.Mem.tail _ (List.Mem.tail _ (List.Mem.head _))))), rfl, _, _, rfl, rfl, wide_mul (Nat.lt_of_le_of_lt (nT_le (Int.ne_of_gt (ipos (63 : Int).toNat pau))) (pow_b64 qa (by decide))) (pow_b64 qb (by decide)) (by decide) (by decide) (by decide), _, rfl, _, _, _, _, rfl, rfl, SqT.of (W.at (List.Mem.tail _ (List.Mem.tail _ (List.Mem.tail _ (List.Mem.head _))))), rfl, _, rfl, _, _, _, _, rfl, rfl, SqT.of (W.at (List.Mem.tail _ (List.Mem.tail _ (List.Mem.tail _ (List.Mem.head _))))), rfl, z28, C, dz28, _, _, rfl, (W.at (List.Mem.tail _ (List.Mem.tail _ (List.Mem.tail _ (List.Mem.tail _ (List.Mem.head _)))))), T.cl, T.nU, rf_under _ _, _, _, rfl, rfl, wide_mul (pow_b64 qa (by decide)) (Nat.lt_of_le_of_lt (nU_le (Int.ne_of_gt (ipos (63 : Int).toNat pau))) (pow_b64 qb (by decide))) (by decide) (by decide) (by decide), rfl, _, rfl, jeT (n_cross _ _) ?_⟩
        exact ⟨_, W, S, rfl⟩
      | 1, hi =>
        cases hi
        refine ⟨_, rfl, _, _, _, _, rfl, rfl, SqT.of (W.at (List.Mem.tail _ (List.Mem.head _))), rfl, z31, (nT (at_ ^ (64 : Int).toNat) (au ^ (64 : Int).toNat)), (nU (at_ ^ (64 : Int).toNat) (au ^ (64 : Int).toNat)), rfl, ⟨dz31, (W.at (List.Mem.tail _ (List.Mem.tail _ (List.Mem.head _))))⟩, _, rfl, niT (nU_pos (Int.ne_of_gt (ipos (64 : Int).toNat pau))) ?_⟩
        refine ⟨_, rfl, _, _, _, _, rfl, rfl, SqT.of (W.at (List.Mem.tail _ (List.Mem.head _))), rfl, z31, C, dz31, _, _, rfl, (W.at (List.Mem.tail _ (List.Mem.tail _ (List.Mem.head _)))), T.cl, T.nT, rf_top _ _, _, rfl, _, _, _, _, rfl, rfl, SqT.of (W.at (List.Mem.tail _ (List.Mem.head _))), rfl, _, _, rfl, rfl, wide_mul (Nat.lt_of_le_of_lt (nT_le (Int.ne_of_gt (ipos (64 : Int).toNat pau))) (pow_b64 qa (by decide))) (pow_b64 qb (by decide)) (by decide) (by decide) (by decide), _, rfl, _, _, _, _, rfl, rfl, SqT.of (W.at (List.Mem.tail _ (List.Mem.head _))), rfl, _, rfl, _, _, _, _, rfl, rfl, SqT.of (W.at (List.Mem.tail _ (List.Mem.head _))), rfl, z31, C, dz31, _, _, rfl, (W.at (List.Mem.tail _ (List.Mem.tail _ (List.Mem.head _)))), T.cl, T.nU, rf_under _ _, _, _, rfl, rfl, wide_mul (pow_b64 qa (by decide)) (Nat.lt_of_le_of_lt (nU_le (Int.ne_of_gt (ipos (64 : Int).toNat pau))) (pow_b64 qb (by decide))) (by decide) (by decide) (by decide), rfl, _, rfl, jeT (n_cross _ _) ?_⟩
        exact ⟨_, W, S, rfl⟩
      | i + 2, hi => simp at hi
    rintro σ' H37 ⟨o35, W, S, rfl⟩
    refine ⟨_, rfl, x, C, dx, _, _, rfl, (W.at (List.Mem.tail _ (List.Mem.tail _ (List.Mem.tail _ (List.Mem.tail _ (List.Mem.tail _ (List.Mem.tail _ (List.Mem.tail _ (List.Mem.tail _ (List.Mem.tail _ (List.Mem.tail _ (List.Mem.tail _ (List.Mem.tail _ (List.Mem.tail _ (List.Mem.tail _ (List.Mem.tail _ (List.Mem.tail _ (List.Mem.tail _ (List.Mem.tail _ (List.Mem.tail _ (List.Mem.tail _ (List.Mem.tail _ (List.Mem.tail _ (List.Mem.head _)))))))))))))))))))))))), T.cl, T.nT, rf_top _ _, _, rfl, g1, _, rfl, x, C, dx, _, _, rfl, (W.at (List.Mem.tail _ (List.Mem.tail _ (List.Mem.tail _ (List.Mem.tail _ (List.Mem.tail _ (List.Mem.tail _ (List.Mem.tail _ (List.Mem.tail _ (List.Mem.tail _ (List.Mem.tail _ (List.Mem.tail _ (List.Mem.tail _ (List.Mem.tail _ (List.Mem.tail _ (List.Mem.tail _ (List.Mem.tail _ (List.Mem.tail _ (List.Mem.tail _ (List.Mem.tail _ (List.Mem.tail _ (List.Mem.tail _ (List.Mem.tail _ (List.Mem.head _)))))))))))))))))))))))), T.cl, T.nU, rf_under _ _, rfl, _, rfl, ifNE (fun hu1 => ?_) (fun hu1 => ?_)⟩
    · skip
      refine ⟨_, rfl, _, _, rfl, rfl, (Nat.le_trans (Nat.add_le_add_right l1 _) (by decide)), _, rfl, x, C, dx, _, _, rfl, (W.at (List.Mem.tail _ (List.Mem.tail _ (List.Mem.tail _ (List.Mem.tail _ (List.Mem.tail _ (List.Mem.tail _ (List.Mem.tail _ (List.Mem.tail _ (List.Mem.tail _ (List.Mem.tail _ (List.Mem.tail _ (List.Mem.tail _ (List.Mem.tail _ (List.Mem.tail _ (List.Mem.tail _ (List.Mem.tail _ (List.Mem.tail _ (List.Mem.tail _ (List.Mem.tail _ (List.Mem.tail _ (List.Mem.tail _ (List.Mem.tail _ (List.Mem.head _)))))))))))))))))))))))), T.cl, T.nU, rf_under _ _, _, rfl, g2, _, _, rfl, rfl, (by rw [app_len]; exact Nat.le_trans (Nat.add_le_add (Nat.add_le_add_right l1 _) l2) (by decide)), _, rfl, x, dx, _, rfl, (W.at (List.Mem.tail _ (List.Mem.tail _ (List.Mem.tail _ (List.Mem.tail _ (List.Mem.tail _ (List.Mem.tail _ (List.Mem.tail _ (List.Mem.tail _ (List.Mem.tail _ (List.Mem.tail _ (List.Mem.tail _ (List.Mem.tail _ (List.Mem.tail _ (List.Mem.tail _ (List.Mem.tail _ (List.Mem.tail _ (List.Mem.tail _ (List.Mem.tail _ (List.Mem.tail _ (List.Mem.tail _ (List.Mem.tail _ (List.Mem.tail _ (List.Mem.head _)))))))))))))))))))))))), x, (nT at_ au), (nU at_ au), rfl, ⟨dx, (W.at (List.Mem.tail _ (List.Mem.tail _ (List.Mem.tail _ (List.Mem.tail _ (List.Mem.tail _ (List.Mem.tail _ (List.Mem.tail _ (List.Mem.tail _ (List.Mem.tail _ (List.Mem.tail _ (List.Mem.tail _ (List.Mem.tail _ (List.Mem.tail _ (List.Mem.tail _ (List.Mem.tail _ (List.Mem.tail _ (List.Mem.tail _ (List.Mem.tail _ (List.Mem.tail _ (List.Mem.tail _ (List.Mem.tail _ (List.Mem.tail _ (List.Mem.head _))))))))))))))))))))))))⟩, g1, g2, _, rfl, _, rfl, rfl, _, rfl, itT (by rw [ratS]; first | (rw [if_pos hu1]; rfl) | (rw [if_neg hu1]; rfl)) ?_⟩
      refine ⟨_, rfl, fun y dy ny ndy ney => ⟨y, dy, at_, 1, rfl, upd_same, (by decide +kernel), fun _ Hy hy ky => ⟨rfl, ?_⟩, fun h => absurd h (by decide)⟩⟩
      rw [(n_one at_).1, (n_one at_).2] at hy
      have sy := made ny ndy ky
      have W := W.same sy
      have S := S.trans sy
      have W := W.got hy
      refine ⟨y, dy, _, rfl, (W.at (List.Mem.head _)), y, at_, 1, rfl, ⟨dy, (W.at (List.Mem.head _))⟩, g0, (by decide +kernel), _, rfl, _, rfl, _, rfl, g0, rfl, _, rfl, itT (by rw [ratS, if_pos rfl]; rfl) ?_⟩
      refine ⟨_, rfl, _, rfl, ⟨x, dx, _, "str", rfl, (W.at (List.Mem.tail _ (List.Mem.tail _ (List.Mem.tail _ (List.Mem.tail _ (List.Mem.tail _ (List.Mem.tail _ (List.Mem.tail _ (List.Mem.tail _ (List.Mem.tail _ (List.Mem.tail _ (List.Mem.tail _ (List.Mem.tail _ (List.Mem.tail _ (List.Mem.tail _ (List.Mem.tail _ (List.Mem.tail _ (List.Mem.tail _ (List.Mem.tail _ (List.Mem.tail _ (List.Mem.tail _ (List.Mem.tail _ (List.Mem.tail _ (List.Mem.tail _ (List.Mem.head _))))))))))))))))))))))))), .base (.str _), hStr, .inr ⟨x, _, _, _, _, rfl, ⟨dx, (W.at (List.Mem.tail _ (List.Mem.tail _ (List.Mem.tail _ (List.Mem.tail _ (List.Mem.tail _ (List.Mem.tail _ (List.Mem.tail _ (List.Mem.tail _ (List.Mem.tail _ (List.Mem.tail _ (List.Mem.tail _ (List.Mem.tail _ (List.Mem.tail _ (List.Mem.tail _ (List.Mem.tail _ (List.Mem.tail _ (List.Mem.tail _ (List.Mem.tail _ (List.Mem.tail _ (List.Mem.tail _ (List.Mem.tail _ (List.Mem.tail _ (List.Mem.tail _ (List.Mem.head _)))))))))))))))))))))))))⟩, .base (.str _), kSC, kit_ty (by decide +kernel), _, rfl, ?_⟩⟩⟩
      exact ⟨_, rfl, k _ S⟩
    · skip
      refine ⟨_, rfl, x, dx, _, rfl, (W.at (List.Mem.tail _ (List.Mem.tail _ (List.Mem.tail _ (List.Mem.tail _ (List.Mem.tail _ (List.Mem.tail _ (List.Mem.tail _ (List.Mem.tail _ (List.Mem.tail _ (List.Mem.tail _ (List.Mem.tail _ (List.Mem.tail _ (List.Mem.tail _ (List.Mem.tail _ (List.Mem.tail _ (List.Mem.tail _ (List.Mem.tail _ (List.Mem.tail _ (List.Mem.tail _ (List.Mem.tail _ (List.Mem.tail _ (List.Mem.tail _ (List.Mem.head _)))))))))))))))))))))))), x, (nT at_ au), (nU at_ au), rfl, ⟨dx, (W.at (List.Mem.tail _ (List.Mem.tail _ (List.Mem.tail _ (List.Mem.tail _ (List.Mem.tail _ (List.Mem.tail _ (List.Mem.tail _ (List.Mem.tail _ (List.Mem.tail _ (List.Mem.tail _ (List.Mem.tail _ (List.Mem.tail _ (List.Mem.tail _ (List.Mem.tail _ (List.Mem.tail _ (List.Mem.tail _ (List.Mem.tail _ (List.Mem.tail _ (List.Mem.tail _ (List.Mem.tail _ (List.Mem.tail _ (List.Mem.tail _ (List.Mem.head _))))))))))))))))))))))))⟩, g1, g2, _, rfl, _, rfl, rfl, _, rfl, itT (by rw [ratS]; first | (rw [if_pos hu1]; rfl) | (rw [if_neg hu1]; rfl)) ?_⟩
      refine ⟨_, rfl, fun y dy ny ndy ney => ⟨y, dy, at_, 1, rfl, upd_same, (by decide +kernel), fun _ Hy hy ky => ⟨rfl, ?_⟩, fun h => absurd h (by decide)⟩⟩
      rw [(n_one at_).1, (n_one at_).2] at hy
      have sy := made ny ndy ky
      have W := W.same sy
      have S := S.trans sy
      have W := W.got hy
      refine ⟨y, dy, _, rfl, (W.at (List.Mem.head _)), y, at_, 1, rfl, ⟨dy, (W.at (List.Mem.head _))⟩, g0, (by decide +kernel), _, rfl, _, rfl, _, rfl, g0, rfl, _, rfl, itT (by rw [ratS, if_pos rfl]; rfl) ?_⟩
      refine ⟨_, rfl, _, rfl, ⟨x, dx, _, "str", rfl, (W.at (List.Mem.tail _ (List.Mem.tail _ (List.Mem.tail _ (List.Mem.tail _ (List.Mem.tail _ (List.Mem.tail _ (List.Mem.tail _ (List.Mem.tail _ (List.Mem.tail _ (List.Mem.tail _ (List.Mem.tail _ (List.Mem.tail _ (List.Mem.tail _ (List.Mem.tail _ (List.Mem.tail _ (List.Mem.tail _ (List.Mem.tail _ (List.Mem.tail _ (List.Mem.tail _ (List.Mem.tail _ (List.Mem.tail _ (List.Mem.tail _ (List.Mem.tail _ (List.Mem.head _))))))))))))))))))))))))), .base (.str _), hStr, .inr ⟨x, _, _, _, _, rfl, ⟨dx, (W.at (List.Mem.tail _ (List.Mem.tail _ (List.Mem.tail _ (List.Mem.tail _ (List.Mem.tail _ (List.Mem.tail _ (List.Mem.tail _ (List.Mem.tail _ (List.Mem.tail _ (List.Mem.tail _ (List.Mem.tail _ (List.Mem.tail _ (List.Mem.tail _ (List.Mem.tail _ (List.Mem.tail _ (List.Mem.tail _ (List.Mem.tail _ (List.Mem.tail _ (List.Mem.tail _ (List.Mem.tail _ (List.Mem.tail _ (List.Mem.tail _ (List.Mem.tail _ (List.Mem.head _)))))))))))))))))))))))))⟩, .base (.str _), kSC, kit_ty (by decide +kernel), _, rfl, ?_⟩⟩⟩
      exact ⟨_, rfl, k _ S⟩
end
end L

set_option Elab.async false
set_option linter.all false
set_option maxRecDepth 100000
set_option maxHeartbeats 4000000
set_option pp.maxSteps 160
set_option pp.deepTerms false
namespace L
open PySem PySem.Spec PyProof.Rows L2 Fl
local macro_rules | `(tactic| walk_at "side") => `(tactic| first | (exact .inl ⟨by omega, by omega⟩) | (exact .inr ⟨by omega, by omega⟩) | (exact .inr ⟨by decide, by decide⟩) | (show (_ : Int) ≠ _; omega) | (exact ⟨by omega, by decide⟩) | (exact ⟨by decide, by decide, by decide⟩))
local macro_rules | `(tactic| walk_at "go") => `(tactic| repeat (first | refine ⟨_, rfl, ?_⟩ | refine ⟨_, _, rfl, rfl, ?_⟩ | refine .inl ⟨_, rfl, ?_⟩ | refine ⟨rfl, ?_⟩ | refine ⟨(by walk_at "side"), ?_⟩))
local macro_rules | `(tactic| walk_at "see") => `(tactic| (set_option pp.maxSteps 110 in set_option pp.deepTerms false in trace_state))
local macro_rules | `(tactic| walk_at "if") => `(tactic| first | refine ifE ?_ ?_ | refine ifNE ?_ ?_ | refine ifD ?_ ?_ | refine ifN ?_ ?_ | refine ifB ?_ ?_)
open Bx
section
variable {P : Program} {w : World} {K : PySem.W.Frag} {mg : Str → Option Value} {base : Heap}

abbrev CalSigns (P : Program) (w : World) (K : PySem.W.Frag) (mg : Str → Option Value) (base : Heap) (C : Addr) := Cal P w K mg base 3 "_law_signs" ["_law_x", "_law_y", "_law_gap"] (spSigns C)
abbrev CalPR (P : Program) (w : World) (K : PySem.W.Frag) (mg : Str → Option Value) (base : Heap) (C : Addr) := Cal P w K mg base 4 "_law_power_refused" ["_law_a", "_law_power"] (spPR C)
abbrev CalPowered (P : Program) (w : World) (K : PySem.W.Frag) (mg : Str → Option Value) (base : Heap) (C : Addr) := Cal P w K mg base 4 "_law_powered" ["_law_a", "_law_at", "_law_au", "_law_power"] (spPowered C)
abbrev CalWritten (P : Program) (w : World) (K : PySem.W.Frag) (mg : Str → Option Value) (base : Heap) (C : Addr) := Cal P w K mg base 5 "_law_written" ["_law_a", "_law_at", "_law_au"] (spWritten C)
theorem Num.keep {C : Addr} {p : Pla} {H H' : Hp} {v : V} {t u : Int} (h : Num C H v t u) (hP : Pool H p) (k : Keeps H H' p) : Num C H' v t u := by
  rcases h with h | ⟨x, e, h⟩
  · exact .inl h
  · exact .inr ⟨x, e, h.keep k (h.ne_pool hP)⟩
def spLaw (K : PySem.W.Frag) : Sp := fun vs H Q _ => ∃ (a : Addr) (ns : List Int), vs = [.ref a] ∧ SqL K H a (ns.map V.int) ∧ ns.length ≤ 63 ∧ ∀ H', Q (.bl true) H'
theorem nz_eq {n m : Int} (hm : m ≠ 0) : (nT n m != 0) = (!decide (V.int n = V.int 0)) := by
  rw [dvi]
  have c := n_cross n m
  by_cases h : n = 0
  · subst h
    rw [Int.zero_mul] at c
    have : nT 0 m = 0 := by
      rcases Int.mul_eq_zero.mp c with e | e
      · exact e
      · exact absurd e hm
    rw [this]
    rfl
  · have h2 : nT n m ≠ 0 := fun e => by
      rw [e, Int.zero_mul] at c
      rcases Int.mul_eq_zero.mp c.symm with e | e
      · exact h e
      · exact absurd e (Int.ne_of_gt (nU_pos hm))
    rw [decide_eq_false h]
    simp [h2]
theorem fdiv_bd' {x d : Int} (hd : 0 < d) : (x.fdiv d).natAbs ≤ x.natAbs := by
  rw [Int.fdiv_eq_ediv_of_nonneg _ (by omega)]
  have h1 := Int.ediv_mul_le x (show d ≠ 0 by omega)
  have h2 := Int.lt_ediv_add_one_mul_self x hd
  generalize x / d = k at *
  rcases (by omega : 0 ≤ k ∨ k < 0) with hk | hk
  · have : k * 1 ≤ k * d := Int.mul_le_mul_of_nonneg_left (by omega) hk
    omega
  · have : (k + 1) * d ≤ (k + 1) * 1 := Int.mul_le_mul_of_nonpos_left (by omega) (by omega)
    omega
theorem ok_law {C ZU fA : Addr} {fd : FuncData} (B : Blt mg) (T : RatC K mg C) (F : Fun K "law" "law" s_law fA fd) (M2 : CalRatio P w K mg base C ZU []) (C_pool : CalPool P w K mg base) (C_draw : CalDraw P w K mg base) (C_wide : CalWide P w K mg base) (C_any : CalAny P w K mg base) (C_either : CalEither P w K mg base)
    (C_exact : CalExact P w K mg base C) (C_signs : CalSigns P w K mg base C) (C_power_refused : CalPR P w K mg base C) (C_written : CalWritten P w K mg base C) (C_powered : CalPowered P w K mg base C) (Meq : OpOwn P w K mg base 1 C "__eq__" ["self", "other"] (spEqR K C)) (BOOL : OpOwn P w K mg base 1 C "__bool__" ["self"] (spBool C))
    (hStr : PySem.W.subIn K (.type "str") (.ref C) = some false) (kSC : PySem.W.kitOne K (.type "str") (.ref C) = some false) (hTupI : PySem.W.subIn K (.type "tuple") (.ref C) = some false) (kTupC : PySem.W.kitOne K (.type "tuple") (.ref C) = some false) (hLstI : PySem.W.subIn K (.type "list") (.ref C) = some false) (kLstC : PySem.W.kitOne K (.type "list") (.ref C) = some false) (hNonI : PySem.W.subIn K (.type "NoneType") (.ref C) = some false) (kNonC : PySem.W.kitOne K (.type "NoneType") (.ref C) = some false) : FnOk P w K mg base CX0 6 fA fd ["_law_script"] (spLaw K) := by
  refine F.ok sc_law (fun vs H Q E h => ?_) (fun cdv A outer st H vs Q E hr h => ?_)
  · obtain ⟨a, ns, rfl, _⟩ := h
    rfl
  · obtain ⟨a, ns, rfl, hS, hl, k⟩ := h
    refine ⟨_, (pss_cons (ps_set (i := 1) sc_law.nd rfl (Or.inl rfl) (pe_cal C_pool (hr.mono (by decide)) (pa_cons (pv 0) pa_nil)))
      (pss_cons (ps_set (i := 2) sc_law.nd rfl (Or.inl rfl) (pe_cal C_either (hr.mono (by decide)) (pa_cons (pv 1) pa_nil)))
      (pss_cons (ps_set (i := 3) sc_law.nd rfl (Or.inl rfl) (pe_op op_add (pe_int) (pe_cal C_any (hr.mono (by decide)) (pa_cons (pv 1) pa_nil))))
      (pss_cons (ps_set (i := 4) sc_law.nd rfl (Or.inl rfl) (pe_mk M2 (hr.mono (by decide)) (pa_cons (pv 2) (pa_cons (pv 3) pa_nil))))
      (pss_cons (ps_set (i := 5) sc_law.nd rfl (Or.inl rfl) (pe_cal C_draw (hr.mono (by decide)) (pa_cons (pv 1) (pa_cons (pe_int) pa_nil))))
      (Evl.pss_cut (ps_if (pt_cmpR op_eq (pv 5) (pe_int) (nomark _)) (pss_cons (ps_set (i := 6) sc_law.nd rfl (Or.inl rfl) (pv 2))
      (pss_cons (ps_set (i := 7) sc_law.nd rfl (Or.inl rfl) (pv 3))
      (pss_cons (ps_set (i := 8) sc_law.nd rfl (Or.inl rfl) (pe_op op_add (pe_int) (pe_cal C_draw (hr.mono (by decide)) (pa_cons (pv 1) (pa_cons (pe_int) pa_nil)))))
      (pss_cons (ps_if (pt_cmpR op_eq (pe_cal C_draw (hr.mono (by decide)) (pa_cons (pv 1) (pa_cons (pe_int) pa_nil))) (pe_int) (nomark _)) (pss_one (ps_set (i := 8) sc_law.nd rfl (Or.inl rfl) (pe_un un_neg (pv 8)))) pss_nil)
      (pss_one (ps_set (i := 9) sc_law.nd rfl (Or.inl rfl) (pe_mk M2 (hr.mono (by decide)) (pa_cons (pe_op op_mulW (pv 2) (pv 8)) (pa_cons (pe_op op_mulW (pv 3) (pv 8)) pa_nil))))))))) (pss_cons (ps_set (i := 6) sc_law.nd rfl (Or.inl rfl) (pe_cal C_either (hr.mono (by decide)) (pa_cons (pv 1) pa_nil)))
      (pss_cons (ps_set (i := 7) sc_law.nd rfl (Or.inl rfl) (pe_op op_add (pe_int) (pe_cal C_any (hr.mono (by decide)) (pa_cons (pv 1) pa_nil))))
      (pss_cons (ps_if (pt_cmpR op_eq (pv 5) (pe_int) (nomark _)) (pss_cons (ps_set (i := 6) sc_law.nd rfl (Or.inl rfl) (pe_op op_sub (pe_op op_add (pe_op op_mulW (pv 2) (pv 7)) (pe_op op_mulW (pe_int) (pe_cal C_draw (hr.mono (by decide)) (pa_cons (pv 1) (pa_cons (pe_int) pa_nil))))) (pe_int)))
      (pss_one (ps_set (i := 7) sc_law.nd rfl (Or.inl rfl) (pe_op op_mulW (pv 3) (pv 7))))) pss_nil)
      (pss_one (ps_set (i := 9) sc_law.nd rfl (Or.inl rfl) (pe_mk M2 (hr.mono (by decide)) (pa_cons (pv 6) (pa_cons (pv 7) pa_nil)))))))))
      (Evl.pss_cut (ps_if (pt_cmpR op_eq (pe_cal C_draw (hr.mono (by decide)) (pa_cons (pv 1) (pa_cons (pe_int) pa_nil))) (pe_int) (nomark _)) (pss_cons (ps_set (i := 6) sc_law.nd rfl (Or.inl rfl) (pe_op op_sub (pe_op op_add (pe_op op_fdivA (pv 2) (pv 3)) (pe_cal C_draw (hr.mono (by decide)) (pa_cons (pv 1) (pa_cons (pe_int) pa_nil)))) (pe_int)))
      (pss_cons (ps_set (i := 7) sc_law.nd rfl (Or.inl rfl) (pe_int))
      (pss_one (ps_set (i := 9) sc_law.nd rfl (Or.inl rfl) (pv 6))))) pss_nil)
      (pss_cons (ps_if (pt_not (pt_val (pe_cal C_exact (hr.mono (by decide)) (pa_cons (pv 4) (pa_cons (pv 2) (pa_cons (pv 3) pa_nil)))))) (pss_one (ps_ret (pe_bl))) pss_nil)
      (pss_cons (ps_if (PW.pt (pw_or (pt_not (pt_val (pe_cal C_signs (hr.mono (by decide)) (pa_cons (pv 4) (pa_cons (pv 9) (pa_cons (pe_op op_sub (pe_op op_mulW (pv 2) (pv 7)) (pe_op op_mulW (pv 6) (pv 3))) pa_nil)))))) (pw_or1 (pt_not (pt_val (pe_cal C_signs (hr.mono (by decide)) (pa_cons (pv 9) (pa_cons (pv 4) (pa_cons (pe_op op_sub (pe_op op_mulW (pv 6) (pv 3)) (pe_op op_mulW (pv 2) (pv 7))) pa_nil))))))))) (pss_one (ps_ret (pe_bl))) pss_nil)
      (pss_cons (ps_if (PW.pt (pw_or (pt_not (pt_val (pe_cal C_signs (hr.mono (by decide)) (pa_cons (pv 4) (pa_cons (pv 4) (pa_cons (pe_int) pa_nil)))))) (pw_or1 (pt_cmpR op_ne (pe_callTy (call_boolO BOOL (hr.mono (by decide))) (by rfl) B.bool (by decide +kernel) (pa_cons (pv 4) pa_nil)) (pe_cmpR op_ne (pv 2) (pe_int) (nomark _)) (nomark _))))) (pss_one (ps_ret (pe_bl))) pss_nil)
      (pss_cons (ps_for PassesOwn.never rfl (pi_list (pe_lst (pa_cons (pe_tup (pa_cons (pe_fld (pv 4) rfl) (pa_cons (pe_fld (pv 4) rfl) pa_nil))) (pa_cons (pe_lst (pa_cons (pe_fld (pv 4) rfl) pa_nil)) (pa_cons (pe_str) (pa_cons (pe_non) pa_nil)))))) (pg_name (i := 10) sc_law.nd rfl (Or.inl rfl)) (pss_one (ps_if (pt_cmpR (cmp_ox Meq (hr.mono (by decide))) (pv 4) (pv 10) (nomark _)) (pss_one (ps_ret (pe_bl))) pss_nil)))
      (pss_cons (ps_set (i := 11) sc_law.nd rfl (Or.inl rfl) (pe_cal C_draw (hr.mono (by decide)) (pa_cons (pv 1) (pa_cons (pe_int) pa_nil))))
      (pss_cons (ps_set (i := 12) sc_law.nd rfl (Or.inl rfl) (pe_op op_add (pe_int) (pe_cal C_wide (hr.mono (by decide)) (pa_cons (pv 1) pa_nil))))
      (Evl.pss_cut (ps_if (pt_cmpR op_eq (pe_cal C_draw (hr.mono (by decide)) (pa_cons (pv 1) (pa_cons (pe_int) pa_nil))) (pe_int) (nomark _)) (pss_one (ps_set (i := 12) sc_law.nd rfl (Or.inl rfl) (pe_op op_sub (pe_int) (pv 12)))) pss_nil)
      (pss_cons (ps_if (pt_cmpR (op_neD hr.units) (pe_cal C_power_refused (hr.mono (by decide)) (pa_cons (pv 4) (pa_cons (pv 12) pa_nil))) (pe_tup (pa_cons (pe_str) (pa_cons (pv 12) (pa_cons (pe_bl) (pa_cons (pe_bl) (pa_cons (pe_bl) pa_nil)))))) (nomark _)) (pss_one (ps_ret (pe_bl))) pss_nil)
      (pss_cons (ps_if (PW.pt (pw_and (pt_cmpR op_lt (pe_callB call_abs (by rfl) B.abs (by decide +kernel) (pa_cons (pv 2) pa_nil)) (pe_op op_pow (pe_int) (pe_int)) (nomark _)) (pw_and1 (pt_cmpR op_lt (pv 3) (pe_op op_pow (pe_int) (pe_int)) (nomark _))))) (pss_one (ps_if (PW.pt (pw_or (pt_not (pt_val (pe_cal C_written (hr.mono (by decide)) (pa_cons (pv 4) (pa_cons (pv 2) (pa_cons (pv 3) pa_nil)))))) (pw_or1 (pt_not (pt_val (pe_cal C_powered (hr.mono (by decide)) (pa_cons (pv 4) (pa_cons (pv 2) (pa_cons (pv 3) (pa_cons (pv 11) pa_nil)))))))))) (pss_one (ps_ret (pe_bl))) pss_nil)) pss_nil)
      (pss_one (ps_ret (pe_cal C_exact (hr.mono (by decide)) (pa_cons (pv 4) (pa_cons (pv 2) (pa_cons (pv 3) pa_nil)))))))))))))))))))))), ?_⟩
    refine ⟨_, rfl, a, ns, rfl, hS, hl, fun p HP s1 np nq hP1 => ?_⟩
    have W := Wd.nil hP1
    have S := Keeps.refl HP p.p
    refine ⟨_, rfl, p, rfl, W.P, fun r1 H2 h0r1 h1r1 hP3 k4 => ?_⟩
    have W := W.keep hP3 k4
    have S := S.trans k4
    refine ⟨_, rfl, p, rfl, W.P, fun r5 H6 h0r5 h1r5 hP7 k8 => ?_⟩
    have W := W.keep hP7 k8
    have S := S.trans k8
    refine ⟨_, _, rfl, rfl, ?_⟩
    have qat : r1.natAbs < 2 ^ 300 := by omega
    have qau : (1 + r5).natAbs < 2 ^ 300 := by omega
    have pau : 0 < (1 + r5) := by omega
    have nau : (1 + r5) ≠ 0 := by omega
    refine ⟨_, rfl, _, rfl, fun x9 dx9 nxx9 ndx9 nex9 => ⟨x9, dx9, r1, (1 + r5), rfl, upd_same, (ub qau (by decide)), fun _ H10 hx9 kx9 => ⟨rfl, ?_⟩, fun h => absurd h nau⟩⟩
    have sx9 := made nxx9 ndx9 kx9
    have W := W.same sx9
    have S := S.trans (same_keeps sx9)
    have W := W.got hx9 (by intro _ z; cases z)
    refine ⟨_, rfl, p, 4, rfl, W.P, by decide, by decide, fun r11 H12 h0r11 h1r11 hP13 k14 => ?_⟩
    have W := W.keep hP13 k14
    have S := S.trans k14
    refine ⟨fun σ' H' => ∃ (bt bu : Int) (y : Addr) (of : Option V), σ' = [some (.ref a), some (.ref (p : Addr)), some (.int r1), some (.int (1 + r5)), some (.ref x9), some (.int r11), some (.int bt), some (.int bu), of, some (.ref y), none, none, none] ∧ 0 < bu ∧ bt.natAbs < 2 ^ 520 ∧ bu.natAbs < 2 ^ 520 ∧ RatAt C H' y (nT bt bu) (nU bt bu) ∧ Wd p [(x9, .ins C dx9 (rf (nT r1 (1 + r5)) (nU r1 (1 + r5))))] H' ∧ Keeps HP H' p.p, ?_, ?_⟩
    · skip
      refine ⟨_, rfl, rfl, _, rfl, ifE (fun h15 => ?_) (fun h15 => ?_)⟩
      · skip
        refine ⟨_, rfl, _, rfl, _, rfl, p, 12, rfl, W.P, by decide, by decide, fun r16 H17 h0r16 h1r16 hP18 k19 => ?_⟩
        have W := W.keep hP18 k19
        have S := S.trans k19
        refine ⟨_, _, rfl, rfl, _, rfl, p, 2, rfl, W.P, by decide, by decide, fun r20 H21 h0r20 h1r20 hP22 k23 => ?_⟩
        have W := W.keep hP22 k23
        have S := S.trans k23
        refine ⟨rfl, _, rfl, ifE (fun h24 => ?_) (fun h24 => ?_)⟩
        · skip
          refine ⟨_, rfl, _, rfl, _, rfl, _, rfl, _, _, rfl, rfl, wide_mul qat (bn (ba (ub (show (1 : Int).natAbs < 2 ^ 2 by decide +kernel) (show 2 ≤ 5 by decide)) (show r16.natAbs < 2 ^ 5 by omega))) (by decide) (by decide) (by decide), _, rfl, _, rfl, _, _, rfl, rfl, wide_mul qau (bn (ba (ub (show (1 : Int).natAbs < 2 ^ 2 by decide +kernel) (show 2 ≤ 5 by decide)) (show r16.natAbs < 2 ^ 5 by omega))) (by decide) (by decide) (by decide), fun x25 dx25 nxx25 ndx25 nex25 => ⟨x25, dx25, (r1 * (-(1 + r16))), ((1 + r5) * (-(1 + r16))), rfl, upd_same, (ub (wide_lt qau (bn (ba (ub (show (1 : Int).natAbs < 2 ^ 2 by decide +kernel) (show 2 ≤ 5 by decide)) (show r16.natAbs < 2 ^ 5 by omega)))) (by decide)), fun _ H26 hx25 kx25 => ⟨rfl, ?_⟩, fun h => absurd h (Int.mul_ne_zero nau (by omega))⟩⟩
          have sx25 := made nxx25 ndx25 kx25
          have W := W.same sx25
          have S := S.trans (same_keeps sx25)
          have W := W.got hx25 (by intro _ z; cases z)
          have sc := n_scale (t := r1) (u := (1 + r5)) (f := (-(1 + r16))) (by omega) (by omega)
          have hb2 := (W.at (List.Mem.head _))
          rw [sc.1, sc.2] at hb2
          exact ⟨r1, (1 + r5), x25, _, rfl, pau, (ub qat (by decide)), (ub qau (by decide)), ⟨dx25, hb2⟩, (W.drop), S⟩
        · skip
          refine ⟨_, rfl, _, rfl, _, _, rfl, rfl, wide_mul qat (ba (ub (show (1 : Int).natAbs < 2 ^ 2 by decide +kernel) (show 2 ≤ 5 by decide)) (show r16.natAbs < 2 ^ 5 by omega)) (by decide) (by decide) (by decide), _, rfl, _, rfl, _, _, rfl, rfl, wide_mul qau (ba (ub (show (1 : Int).natAbs < 2 ^ 2 by decide +kernel) (show 2 ≤ 5 by decide)) (show r16.natAbs < 2 ^ 5 by omega)) (by decide) (by decide) (by decide), fun x27 dx27 nxx27 ndx27 nex27 => ⟨x27, dx27, (r1 * (1 + r16)), ((1 + r5) * (1 + r16)), rfl, upd_same, (ub (wide_lt qau (ba (ub (show (1 : Int).natAbs < 2 ^ 2 by decide +kernel) (show 2 ≤ 5 by decide)) (show r16.natAbs < 2 ^ 5 by omega))) (by decide)), fun _ H28 hx27 kx27 => ⟨rfl, ?_⟩, fun h => absurd h (Int.mul_ne_zero nau (by omega))⟩⟩
          have sx27 := made nxx27 ndx27 kx27
          have W := W.same sx27
          have S := S.trans (same_keeps sx27)
          have W := W.got hx27 (by intro _ z; cases z)
          have sc := n_scale (t := r1) (u := (1 + r5)) (f := (1 + r16)) (by omega) (by omega)
          have hb2 := (W.at (List.Mem.head _))
          rw [sc.1, sc.2] at hb2
          exact ⟨r1, (1 + r5), x27, _, rfl, pau, (ub qat (by decide)), (ub qau (by decide)), ⟨dx27, hb2⟩, (W.drop), S⟩
      · skip
        refine ⟨_, rfl, p, rfl, W.P, fun r29 H30 h0r29 h1r29 hP31 k32 => ?_⟩
        have W := W.keep hP31 k32
        have S := S.trans k32
        refine ⟨_, rfl, p, rfl, W.P, fun r33 H34 h0r33 h1r33 hP35 k36 => ?_⟩
        have W := W.keep hP35 k36
        have S := S.trans k36
        refine ⟨_, _, rfl, rfl, _, rfl, rfl, _, rfl, ifE (fun h37 => ?_) (fun h37 => ?_)⟩
        · skip
          refine ⟨_, rfl, _, rfl, _, _, rfl, rfl, wide_mul qat (ba (ub (show (1 : Int).natAbs < 2 ^ 2 by decide +kernel) (show 2 ≤ 200 by decide)) (show r33.natAbs < 2 ^ 200 by omega)) (by decide) (by decide) (by decide), _, rfl, p, 2, rfl, W.P, by decide, by decide, fun r38 H39 h0r38 h1r38 hP40 k41 => ?_⟩
          have W := W.keep hP40 k41
          have S := S.trans k41
          refine ⟨_, _, rfl, rfl, wide_mul (show (2 : Int).natAbs < 2 ^ 3 by decide +kernel) (show r38.natAbs < 2 ^ 3 by omega) (by decide) (by decide) (by decide), _, _, rfl, rfl, _, _, rfl, rfl, _, rfl, _, rfl, _, _, rfl, rfl, wide_mul qau (ba (ub (show (1 : Int).natAbs < 2 ^ 2 by decide +kernel) (show 2 ≤ 200 by decide)) (show r33.natAbs < 2 ^ 200 by omega)) (by decide) (by decide) (by decide), _, rfl, _, rfl, fun x42 dx42 nxx42 ndx42 nex42 => ⟨x42, dx42, (((r1 * (1 + r33)) + (2 * r38)) - 1), ((1 + r5) * (1 + r33)), rfl, upd_same, (ub (wide_lt qau (ba (ub (show (1 : Int).natAbs < 2 ^ 2 by decide +kernel) (show 2 ≤ 200 by decide)) (show r33.natAbs < 2 ^ 200 by omega))) (by decide)), fun _ H43 hx42 kx42 => ⟨rfl, ?_⟩, fun h => absurd h (Int.ne_of_gt (Int.mul_pos pau (by omega)))⟩⟩
          have sx42 := made nxx42 ndx42 kx42
          have W := W.same sx42
          have S := S.trans (same_keeps sx42)
          have W := W.got hx42 (by intro _ z; cases z)
          exact ⟨(((r1 * (1 + r33)) + (2 * r38)) - 1), ((1 + r5) * (1 + r33)), x42, _, rfl, (Int.mul_pos pau (by omega)), (ub (bs (ba (wide_lt qat (ba (ub (show (1 : Int).natAbs < 2 ^ 2 by decide +kernel) (show 2 ≤ 200 by decide)) (show r33.natAbs < 2 ^ 200 by omega))) (ub (wide_lt (show (2 : Int).natAbs < 2 ^ 3 by decide +kernel) (show r38.natAbs < 2 ^ 3 by omega)) (show 6 ≤ 501 by decide))) (ub (show (1 : Int).natAbs < 2 ^ 2 by decide +kernel) (show 2 ≤ 502 by decide))) (by decide)), (ub (wide_lt qau (ba (ub (show (1 : Int).natAbs < 2 ^ 2 by decide +kernel) (show 2 ≤ 200 by decide)) (show r33.natAbs < 2 ^ 200 by omega))) (by decide)), ⟨dx42, (W.at (List.Mem.head _))⟩, (W.drop), S⟩
        · skip
          refine ⟨_, rfl, _, rfl, fun x44 dx44 nxx44 ndx44 nex44 => ⟨x44, dx44, r29, (1 + r33), rfl, upd_same, (ub (ba (ub (show (1 : Int).natAbs < 2 ^ 2 by decide +kernel) (show 2 ≤ 200 by decide)) (show r33.natAbs < 2 ^ 200 by omega)) (by decide)), fun _ H45 hx44 kx44 => ⟨rfl, ?_⟩, fun h => absurd h (by omega)⟩⟩
          have sx44 := made nxx44 ndx44 kx44
          have W := W.same sx44
          have S := S.trans (same_keeps sx44)
          have W := W.got hx44 (by intro _ z; cases z)
          exact ⟨r29, (1 + r33), x44, _, rfl, (by omega), (ub (show r29.natAbs < 2 ^ 200 by omega) (by decide)), (ub (ba (ub (show (1 : Int).natAbs < 2 ^ 2 by decide +kernel) (show 2 ≤ 200 by decide)) (show r33.natAbs < 2 ^ 200 by omega)) (by decide)), ⟨dx44, (W.at (List.Mem.head _))⟩, (W.drop), S⟩
    rintro σ' H46 ⟨bt, bu, y, of, rfl, pbu, qbt, qbu, ⟨dy, hy⟩, W, S⟩
    have W := W.got hy (by intro _ z; cases z)
    refine ⟨fun σ' H' => ∃ (bt' bu' : Int) (v : V), σ' = [some (.ref a), some (.ref (p : Addr)), some (.int r1), some (.int (1 + r5)), some (.ref x9), some (.int r11), some (.int bt'), some (.int bu'), of, some v, none, none, none] ∧ 0 < bu' ∧ bt'.natAbs < 2 ^ 520 ∧ bu'.natAbs < 2 ^ 520 ∧ Num C H' v (nT bt' bu') (nU bt' bu') ∧ Wd p [(y, .ins C dy (rf (nT bt bu) (nU bt bu))), (x9, .ins C dx9 (rf (nT r1 (1 + r5)) (nU r1 (1 + r5))))] H' ∧ Keeps HP H' p.p, ?_, ?_⟩
    · skip
      refine ⟨_, rfl, p, 3, rfl, W.P, by decide, by decide, fun r47 H48 h0r47 h1r47 hP49 k50 => ?_⟩
      have W := W.keep hP49 k50
      have S := S.trans k50
      refine ⟨rfl, _, rfl, ifE (fun h51 => ?_) (fun h51 => ?_)⟩
      · skip
        have fb := fdiv_bd' (x := r1) (d := (1 + r5)) (by omega)
        refine ⟨_, rfl, _, rfl, _, _, rfl, rfl, divA (b := 300) (by omega) qau (by decide) (by decide), _, rfl, p, 3, rfl, W.P, by decide, by decide, fun r52 H53 h0r52 h1r52 hP54 k55 => ?_⟩
        have W := W.keep hP54 k55
        have S := S.trans k55
        refine ⟨_, _, rfl, rfl, _, _, rfl, rfl, _, rfl, ?_⟩
        have hq : ((((r1.fdiv (1 + r5)) + r52) - 1)).natAbs < 2 ^ 520 := by omega
        exact ⟨(((r1.fdiv (1 + r5)) + r52) - 1), 1, .int (((r1.fdiv (1 + r5)) + r52) - 1), rfl, by decide, hq, (by decide +kernel), .inl ⟨by rw [(n_one _).1], (n_one _).2⟩, W, S⟩
      · skip
        exact ⟨bt, bu, .ref y, rfl, pbu, qbt, qbu, .inr ⟨y, rfl, dy, (W.at (List.Mem.head _))⟩, W, S⟩
    rintro σ' H56 ⟨bt', bu', v, rfl, pbu, qbt, qbu, hv, W, S⟩
    refine ⟨_, rfl, _, rfl, _, rfl, x9, r1, (1 + r5), rfl, ⟨dx9, (W.at (List.Mem.tail _ (List.Mem.head _)))⟩, pau, (ub qat (by decide)), (ub qau (by decide)), _, rfl, iteF ?_⟩
    refine ⟨_, rfl, _, rfl, _, rfl, _, rfl, _, _, rfl, rfl, wide_mul qat qbu (by decide) (by decide) (by decide), _, rfl, _, rfl, _, _, rfl, rfl, wide_mul qbt qau (by decide) (by decide) (by decide), _, _, rfl, rfl, .ref x9, v, (nT r1 (1 + r5)), (nU r1 (1 + r5)), (nT bt' bu'), (nU bt' bu'), ((r1 * bu') - (bt' * (1 + r5))), rfl, .inr ⟨x9, rfl, dx9, (W.at (List.Mem.tail _ (List.Mem.head _)))⟩, hv, .inl ⟨_, rfl⟩, (sg_of pau pbu (ub qat (by decide)) (ub qau (by decide)) (ub qbt (by decide)) (ub qbu (by decide))), fun H57 s58 => ?_⟩
    have hv := hv.same s58
    have W := W.same s58
    have S := S.trans (same_keeps s58)
    refine ⟨_, rfl, iteF ?_⟩
    refine ⟨_, rfl, _, rfl, _, rfl, _, rfl, _, _, rfl, rfl, wide_mul qbt qau (by decide) (by decide) (by decide), _, rfl, _, rfl, _, _, rfl, rfl, wide_mul qat qbu (by decide) (by decide) (by decide), _, _, rfl, rfl, v, .ref x9, (nT bt' bu'), (nU bt' bu'), (nT r1 (1 + r5)), (nU r1 (1 + r5)), ((bt' * (1 + r5)) - (r1 * bu')), rfl, hv, .inr ⟨x9, rfl, dx9, (W.at (List.Mem.tail _ (List.Mem.head _)))⟩, .inr ⟨_, rfl⟩, (sg_of pbu pau (ub qbt (by decide)) (ub qbu (by decide)) (ub qat (by decide)) (ub qau (by decide))), fun H59 s60 => ?_⟩
    have hv := hv.same s60
    have W := W.same s60
    have S := S.trans (same_keeps s60)
    refine ⟨_, rfl, iteF ?_⟩
    refine ⟨_, rfl, _, rfl, .ref x9, .ref x9, (nT r1 (1 + r5)), (nU r1 (1 + r5)), (nT r1 (1 + r5)), (nU r1 (1 + r5)), 0, rfl, .inr ⟨x9, rfl, dx9, (W.at (List.Mem.tail _ (List.Mem.head _)))⟩, .inr ⟨x9, rfl, dx9, (W.at (List.Mem.tail _ (List.Mem.head _)))⟩, .inl ⟨_, rfl⟩, (by have z := sg_of pau pau (ub qat (show 300 ≤ 9000 by decide)) (ub qau (show 300 ≤ 9000 by decide)) (ub qat (show 300 ≤ 9000 by decide)) (ub qau (show 300 ≤ 9000 by decide)); rw [Int.sub_self] at z; exact z), fun H61 s62 => ?_⟩
    have hv := hv.same s62
    have W := W.same s62
    have S := S.trans (same_keeps s62)
    refine ⟨_, rfl, iteF ?_⟩
    refine ⟨_, rfl, x9, dx9, _, rfl, (W.at (List.Mem.tail _ (List.Mem.head _))), x9, (nT r1 (1 + r5)), (nU r1 (1 + r5)), rfl, ⟨dx9, (W.at (List.Mem.tail _ (List.Mem.head _)))⟩, _, rfl, _, rfl, rfl, rfl, _, rfl, jb (nz_eq nau) ?_⟩
    refine ⟨_, rfl, x9, C, dx9, _, _, rfl, (W.at (List.Mem.tail _ (List.Mem.head _))), T.cl, T.nT, rf_top _ _, _, rfl, x9, C, dx9, _, _, rfl, (W.at (List.Mem.tail _ (List.Mem.head _))), T.cl, T.nU, rf_under _ _, (by show 2 ≤ sizeLine; decide), fun t63 ht63 => ?_⟩
    have W := W.new (o := .tup [.int (nT r1 (1 + r5)), .int (nU r1 (1 + r5))]) ht63
    have hv := hv.same (same_upd (o := .tup [.int (nT r1 (1 + r5)), .int (nU r1 (1 + r5))]) ht63)
    have S := S.trans (same_keeps (same_upd (o := .tup [.int (nT r1 (1 + r5)), .int (nU r1 (1 + r5))]) ht63))
    refine ⟨_, rfl, x9, C, dx9, _, _, rfl, (W.at (List.Mem.tail _ (List.Mem.tail _ (List.Mem.head _)))), T.cl, T.nT, rf_top _ _, (by show 1 ≤ sizeLine; decide), fun t64 ht64 => ?_⟩
    have W := W.new (o := .lst [.int (nT r1 (1 + r5))]) ht64
    have hv := hv.same (same_upd (o := .lst [.int (nT r1 (1 + r5))]) ht64)
    have S := S.trans (same_keeps (same_upd (o := .lst [.int (nT r1 (1 + r5))]) ht64))
    refine ⟨(by show 4 ≤ sizeLine; decide), fun t65 ht65 => ?_⟩
    have W := W.new (o := .lst [.ref t63, .ref t64, .str "", .non]) ht65
    have hv := hv.same (same_upd (o := .lst [.ref t63, .ref t64, .str "", .non]) ht65)
    have S := S.trans (same_keeps (same_upd (o := .lst [.ref t63, .ref t64, .str "", .non]) ht65))
    refine ⟨t65, rfl, ⟨_, SqL.of (W.at (List.Mem.head _))⟩, for_list (K := K) (a := t65) (xs := [V.ref t63, V.ref t64, V.str "", V.non]) (fun _ σ' H' => ∃ o66 : Option V, Wd p [(t65, .lst [.ref t63, .ref t64, .str "", .non]), (t64, .lst [.int (nT r1 (1 + r5))]), (t63, .tup [.int (nT r1 (1 + r5)), .int (nU r1 (1 + r5))]), (y, .ins C dy (rf (nT bt bu) (nU bt bu))), (x9, .ins C dx9 (rf (nT r1 (1 + r5)) (nU r1 (1 + r5))))] H' ∧ Keeps HP H' p.p ∧ Num C H' v (nT bt' bu') (nU bt' bu') ∧ σ' = [some (.ref a), some (.ref (p : Addr)), some (.int r1), some (.int (1 + r5)), some (.ref x9), some (.int r11), some (.int bt'), some (.int bu'), of, some (v), o66, none, none]) ⟨_, W, S, hv, rfl⟩ (fun _ _ _ _ ⟨_, W, _⟩ => SqL.of (W.at (List.Mem.head _))) ?_ ?_⟩
    · skip
      rintro i yy σ' H67 hi ⟨o66, W, S, hv, rfl⟩
      match i, hi with
      | 0, hi =>
        cases hi
        refine ⟨_, rfl, _, rfl, ⟨x9, dx9, _, "tuple", rfl, (W.at (List.Mem.tail _ (List.Mem.tail _ (List.Mem.tail _ (List.Mem.tail _ (List.Mem.head _)))))), .base (.tup (W.at (List.Mem.tail _ (List.Mem.tail _ (List.Mem.head _))))), hTupI, .inr ⟨x9, _, _, _, _, rfl, ⟨dx9, (W.at (List.Mem.tail _ (List.Mem.tail _ (List.Mem.tail _ (List.Mem.tail _ (List.Mem.head _))))))⟩, .base (.tup (W.at (List.Mem.tail _ (List.Mem.tail _ (List.Mem.head _))))), kTupC, kit_ty (by decide +kernel), _, rfl, ?_⟩⟩⟩
        refine ⟨_, rfl, iteF ?_⟩
        exact ⟨_, W, S, hv, rfl⟩
      | 1, hi =>
        cases hi
        refine ⟨_, rfl, _, rfl, ⟨x9, dx9, _, "list", rfl, (W.at (List.Mem.tail _ (List.Mem.tail _ (List.Mem.tail _ (List.Mem.tail _ (List.Mem.head _)))))), .base (.lst (W.at (List.Mem.tail _ (List.Mem.head _)))), hLstI, .inr ⟨x9, _, _, _, _, rfl, ⟨dx9, (W.at (List.Mem.tail _ (List.Mem.tail _ (List.Mem.tail _ (List.Mem.tail _ (List.Mem.head _))))))⟩, .base (.lst (W.at (List.Mem.tail _ (List.Mem.head _)))), kLstC, kit_ty (by decide +kernel), _, rfl, ?_⟩⟩⟩
        refine ⟨_, rfl, iteF ?_⟩
        exact ⟨_, W, S, hv, rfl⟩
      | 2, hi =>
        cases hi
        refine ⟨_, rfl, _, rfl, ⟨x9, dx9, _, "str", rfl, (W.at (List.Mem.tail _ (List.Mem.tail _ (List.Mem.tail _ (List.Mem.tail _ (List.Mem.head _)))))), .base (.str _), hStr, .inr ⟨x9, _, _, _, _, rfl, ⟨dx9, (W.at (List.Mem.tail _ (List.Mem.tail _ (List.Mem.tail _ (List.Mem.tail _ (List.Mem.head _))))))⟩, .base (.str _), kSC, kit_ty (by decide +kernel), _, rfl, ?_⟩⟩⟩
        refine ⟨_, rfl, iteF ?_⟩
        exact ⟨_, W, S, hv, rfl⟩
      | 3, hi =>
        cases hi
        refine ⟨_, rfl, _, rfl, ⟨x9, dx9, _, "NoneType", rfl, (W.at (List.Mem.tail _ (List.Mem.tail _ (List.Mem.tail _ (List.Mem.tail _ (List.Mem.head _)))))), .base .non, hNonI, .inr ⟨x9, _, _, _, _, rfl, ⟨dx9, (W.at (List.Mem.tail _ (List.Mem.tail _ (List.Mem.tail _ (List.Mem.tail _ (List.Mem.head _))))))⟩, .base .non, kNonC, kit_ty (by decide +kernel), _, rfl, ?_⟩⟩⟩
        refine ⟨_, rfl, iteF ?_⟩
        exact ⟨_, W, S, hv, rfl⟩
      | i + 4, hi => simp at hi
    rintro σ' H68 ⟨o66, W, S, hv, rfl⟩
    refine ⟨_, rfl, p, 65, rfl, W.P, by decide, by decide, fun r69 H70 h0r69 h1r69 hP71 k72 => ?_⟩
    have hv := hv.keep W.P k72
    have W := W.keep hP71 k72
    have S := S.trans k72
    refine ⟨_, rfl, p, rfl, W.P, fun r73 H74 h0r73 h1r73 hP75 k76 => ?_⟩
    have hv := hv.keep W.P k76
    have W := W.keep hP75 k76
    have S := S.trans k76
    refine ⟨_, _, rfl, rfl, ?_⟩
    refine ⟨fun σ' H' => ∃ none' : Int, σ' = [some (.ref a), some (.ref (p : Addr)), some (.int r1), some (.int (1 + r5)), some (.ref x9), some (.int r11), some (.int bt'), some (.int bu'), of, some (v), o66, some (.int r69), some (.int none')] ∧ ¬ (0 ≤ none' ∧ none' ≤ 64) ∧ Num C H' v (nT bt' bu') (nU bt' bu') ∧ Wd p [(t65, .lst [.ref t63, .ref t64, .str "", .non]), (t64, .lst [.int (nT r1 (1 + r5))]), (t63, .tup [.int (nT r1 (1 + r5)), .int (nU r1 (1 + r5))]), (y, .ins C dy (rf (nT bt bu) (nU bt bu))), (x9, .ins C dx9 (rf (nT r1 (1 + r5)) (nU r1 (1 + r5))))] H' ∧ Keeps HP H' p.p, ?_, ?_⟩
    · skip
      refine ⟨_, rfl, p, 2, rfl, W.P, by decide, by decide, fun r77 H78 h0r77 h1r77 hP79 k80 => ?_⟩
      have hv := hv.keep W.P k80
      have W := W.keep hP79 k80
      have S := S.trans k80
      refine ⟨rfl, _, rfl, ifE (fun h81 => ?_) (fun h81 => ?_)⟩
      · skip
        refine ⟨_, rfl, _, _, rfl, rfl, ?_⟩
        exact ⟨(64 - (65 + r73)), rfl, by omega, hv, W, S⟩
      · skip
        exact ⟨(65 + r73), rfl, by omega, hv, W, S⟩
    rintro σ' H82 ⟨none', rfl, hnone, hv, W, S⟩
    refine ⟨_, rfl, _, rfl, x9, _, _, none', rfl, ⟨dx9, (W.at (List.Mem.tail _ (List.Mem.tail _ (List.Mem.tail _ (List.Mem.tail _ (List.Mem.head _))))))⟩, (nU_pos nau), hnone, fun t83 H84 s85 ht83 => ?_⟩
    have hv := hv.same s85
    have W := W.same s85
    have S := S.trans (same_keeps s85)
    have W := W.got ht83 (by intro _ z; cases z)
    refine ⟨_, rfl, (by show 5 ≤ sizeLine; decide), fun t86 ht86 => ?_⟩
    have W := W.new (o := .tup [.str "power", .int none', .bl true, .bl true, .bl false]) ht86
    have hv := hv.same (same_upd (o := .tup [.str "power", .int none', .bl true, .bl true, .bl false]) ht86)
    have S := S.trans (same_keeps (same_upd (o := .tup [.str "power", .int none', .bl true, .bl true, .bl false]) ht86))
    refine ⟨(.tuple [.str "power", .int none', .bool true, .bool true, .bool false]), (.tuple [.str "power", .int none', .bool true, .bool true, .bool false]), (.tup (SqT.of (W.at (List.Mem.tail _ (List.Mem.head _)))) (.cons (.str _) (.cons (.int _) (.cons (.bl _) (.cons (.bl _) (.cons (.bl _) .nil)))))), (.tup (SqT.of (W.at (List.Mem.head _))) (.cons (.str _) (.cons (.int _) (.cons (.bl _) (.cons (.bl _) (.cons (.bl _) .nil)))))), (by simp [SeqAt.shaped, PyData.canLay0, PyData.canLayAll0, PyData.depth, PyData.depthAll, show PyData.strOk ("power" : Str) = true by decide +kernel]), (by simp [SeqAt.shaped, PyData.canLay0, PyData.canLayAll0, PyData.depth, PyData.depthAll, show PyData.strOk ("power" : Str) = true by decide +kernel]), ?_⟩
    rw [SeqAt.eqv_refl _ (by simp [SeqAt.shaped, PyData.canLay0, PyData.canLayAll0, PyData.depth, PyData.depthAll, show PyData.strOk ("power" : Str) = true by decide +kernel])]
    refine ⟨_, rfl, iteF ?_⟩
    refine ⟨_, rfl, _, rfl, _, _, rfl, rfl, ⟨by decide, by decide, by decide⟩, _, _, rfl, rfl, _, rfl, ifD (fun h87 => ?_) (fun h87 => ?_)⟩
    · skip
      refine ⟨_, rfl, _, _, rfl, rfl, ⟨by decide, by decide, by decide⟩, _, _, rfl, rfl, _, rfl, ifD (fun h88 => ?_) (fun h88 => ?_)⟩
      · skip
        have ten : ((10 : Int) ^ (40 : Int).toNat) = 10 ^ 40 := rfl
        have sat : r1.natAbs < 2 ^ 133 := by
          have e := h87
          rw [abs_if'] at e
          have e2 : ((r1.natAbs : Nat) : Int) < 10 ^ 40 := e
          omega
        have sau : (1 + r5).natAbs < 2 ^ 133 := by
          have e2 : (1 + r5) < 10 ^ 40 := h88
          omega
        refine ⟨_, rfl, _, rfl, _, rfl, x9, r1, (1 + r5), rfl, ⟨dx9, (W.at (List.Mem.tail _ (List.Mem.tail _ (List.Mem.tail _ (List.Mem.tail _ (List.Mem.tail _ (List.Mem.tail _ (List.Mem.head _))))))))⟩, pau, sat, sau, fun H89 s90 => ?_⟩
        have hv := hv.same s90
        have W := W.same s90
        have S := S.trans (same_keeps s90)
        refine ⟨_, rfl, iteF ?_⟩
        refine ⟨_, rfl, _, rfl, _, rfl, _, rfl, x9, r1, (1 + r5), r69, rfl, ⟨dx9, (W.at (List.Mem.tail _ (List.Mem.tail _ (List.Mem.tail _ (List.Mem.tail _ (List.Mem.tail _ (List.Mem.tail _ (List.Mem.head _))))))))⟩, pau, sat, sau, (by omega), (by omega), fun H91 s92 => ?_⟩
        have hv := hv.same s92
        have W := W.same s92
        have S := S.trans (same_keeps s92)
        refine ⟨_, rfl, iteF ?_⟩
        exact ⟨_, rfl, _, rfl, _, rfl, x9, r1, (1 + r5), rfl, ⟨dx9, (W.at (List.Mem.tail _ (List.Mem.tail _ (List.Mem.tail _ (List.Mem.tail _ (List.Mem.tail _ (List.Mem.tail _ (List.Mem.head _))))))))⟩, pau, (ub qat (by decide)), (ub qau (by decide)), k _⟩
      · skip
        exact ⟨_, rfl, _, rfl, _, rfl, x9, r1, (1 + r5), rfl, ⟨dx9, (W.at (List.Mem.tail _ (List.Mem.tail _ (List.Mem.tail _ (List.Mem.tail _ (List.Mem.tail _ (List.Mem.tail _ (List.Mem.head _))))))))⟩, pau, (ub qat (by decide)), (ub qau (by decide)), k _⟩
    · skip
      refine iteF ?_
      exact ⟨_, rfl, _, rfl, _, rfl, x9, r1, (1 + r5), rfl, ⟨dx9, (W.at (List.Mem.tail _ (List.Mem.tail _ (List.Mem.tail _ (List.Mem.tail _ (List.Mem.tail _ (List.Mem.tail _ (List.Mem.head _))))))))⟩, pau, (ub qat (by decide)), (ub qau (by decide)), k _⟩
end
end L

set_option Elab.async false
set_option linter.all false
set_option maxRecDepth 100000
set_option maxHeartbeats 4000000
set_option pp.maxSteps 160
set_option pp.deepTerms false
namespace L
open PySem PySem.Spec PyProof.Rows L2 Fl
local macro_rules | `(tactic| walk_at "side") => `(tactic| first | (exact .inl ⟨by omega, by omega⟩) | (exact .inr ⟨by omega, by omega⟩) | (exact .inr ⟨by decide, by decide⟩) | (show (_ : Int) ≠ _; omega) | (exact ⟨by omega, by decide⟩) | (exact ⟨by decide, by decide, by decide⟩))
local macro_rules | `(tactic| walk_at "go") => `(tactic| repeat (first | refine ⟨_, rfl, ?_⟩ | refine ⟨_, _, rfl, rfl, ?_⟩ | refine .inl ⟨_, rfl, ?_⟩ | refine ⟨rfl, ?_⟩ | refine ⟨(by walk_at "side"), ?_⟩))
local macro_rules | `(tactic| walk_at "see") => `(tactic| (set_option pp.maxSteps 110 in set_option pp.deepTerms false in trace_state))
local macro_rules | `(tactic| walk_at "if") => `(tactic| first | refine ifE ?_ ?_ | refine ifNE ?_ ?_ | refine ifD ?_ ?_ | refine ifN ?_ ?_ | refine ifB ?_ ?_)
section
variable {P : Program} {w : World} {K : PySem.W.Frag} {mg : Str → Option Value} {base : Heap}
end

theorem kit_type {K : PySem.W.Frag} {t : Addr} {n : String} {b : Bool} (hk : PySem.W.kitMeta n = true) (hs : PySem.W.subIn K (.ref t) (.type n) = some b) : PySem.W.kitOne K (.ref t) (.type n) = some b := by
  unfold PySem.W.kitOne
  rw [if_neg (by intro h; cases beq_iff_eq.mp h)]
  show (if PySem.W.kitMeta n = true then PySem.W.subIn K (.ref t) (.type n) else none) = some b
  rw [if_pos hk]
  exact hs
theorem all_mk {l : PySem.W.OpenLaw} {w : World} {K : PySem.W.Frag} {h : Heap} {mg : Str → Option Value} {fa : Addr} (X : K.In h) (G : h.Ns mainGlobals mg) (hfa : mg "law" = some (.ref fa))
    {C : Addr} {fRatio_init tD : Addr} {ocRatio_init kVRatio_init dcRatio_init pmRatio_init cdRatio_init ctRatio_init : Value} {odRatio_init anRatio_init : Option Addr} {slRatio_init : Array (Option Value)} {ocD : Value} {odD : Option Addr} {tkD : Tok} {nD : Nat} {slD : Array (Option Value)} {LE : Addr} {BN : Addr} {nmE qE : Str} {NE : Addr} {bsE subE : List Value} {snE : List Str} {abE : Bool} {colE : Option Bool} {ddE : Option Addr} {mE0 mE1 mE2 mE3 mE5 : Option Value} {fBadNumber_init : Addr} {ocBadNumber_init kVBadNumber_init dcBadNumber_init pmBadNumber_init cdBadNumber_init ctBadNumber_init : Value} {odBadNumber_init anBadNumber_init : Option Addr} {slBadNumber_init : Array (Option Value)} {ZU : Addr} {tkM : Tok} {fRatio_lt : Addr} {ocRatio_lt kVRatio_lt dcRatio_lt pmRatio_lt cdRatio_lt ctRatio_lt : Value} {odRatio_lt anRatio_lt : Option Addr} {slRatio_lt : Array (Option Value)} {fRatio_le : Addr} {ocRatio_le kVRatio_le dcRatio_le pmRatio_le cdRatio_le ctRatio_le : Value} {odRatio_le anRatio_le : Option Addr} {slRatio_le : Array (Option Value)} {fRatio_gt : Addr} {ocRatio_gt kVRatio_gt dcRatio_gt pmRatio_gt cdRatio_gt ctRatio_gt : Value} {odRatio_gt anRatio_gt : Option Addr} {slRatio_gt : Array (Option Value)} {fRatio_ge : Addr} {ocRatio_ge kVRatio_ge dcRatio_ge pmRatio_ge cdRatio_ge ctRatio_ge : Value} {odRatio_ge anRatio_ge : Option Addr} {slRatio_ge : Array (Option Value)} {fRatio_eq : Addr} {ocRatio_eq kVRatio_eq dcRatio_eq pmRatio_eq cdRatio_eq ctRatio_eq : Value} {odRatio_eq anRatio_eq : Option Addr} {slRatio_eq : Array (Option Value)} {fRatio_bool : Addr} {ocRatio_bool kVRatio_bool dcRatio_bool pmRatio_bool cdRatio_bool ctRatio_bool : Value} {odRatio_bool anRatio_bool : Option Addr} {slRatio_bool : Array (Option Value)} {fRatio_str : Addr} {ocRatio_str kVRatio_str dcRatio_str pmRatio_str cdRatio_str ctRatio_str : Value} {odRatio_str anRatio_str : Option Addr} {slRatio_str : Array (Option Value)} {fRatio_power : Addr} {ocRatio_power kVRatio_power dcRatio_power pmRatio_power cdRatio_power ctRatio_power : Value} {odRatio_power anRatio_power : Option Addr} {slRatio_power : Array (Option Value)} {fRatio_pow : Addr} {ocRatio_pow kVRatio_pow dcRatio_pow pmRatio_pow cdRatio_pow ctRatio_pow : Value} {odRatio_pow anRatio_pow : Option Addr} {slRatio_pow : Array (Option Value)} {fpool : Addr} {ocpool kVpool dcpool pmpool cdpool ctpool : Value} {odpool anpool : Option Addr} {slpool : Array (Option Value)} {fmix : Addr} {ocmix kVmix dcmix pmmix cdmix ctmix : Value} {odmix anmix : Option Addr} {slmix : Array (Option Value)} {fdraw : Addr} {ocdraw kVdraw dcdraw pmdraw cddraw ctdraw : Value} {oddraw andraw : Option Addr} {sldraw : Array (Option Value)} {fwide : Addr} {ocwide kVwide dcwide pmwide cdwide ctwide : Value} {odwide anwide : Option Addr} {slwide : Array (Option Value)} {fany : Addr} {ocany kVany dcany pmany cdany ctany : Value} {odany anany : Option Addr} {slany : Array (Option Value)} {feither : Addr} {oceither kVeither dceither pmeither cdeither cteither : Value} {odeither aneither : Option Addr} {sleither : Array (Option Value)} {fgcd : Addr} {ocgcd kVgcd dcgcd pmgcd cdgcd ctgcd : Value} {odgcd angcd : Option Addr} {slgcd : Array (Option Value)} {fwhole : Addr} {ocwhole kVwhole dcwhole pmwhole cdwhole ctwhole : Value} {odwhole anwhole : Option Addr} {slwhole : Array (Option Value)} {fratio : Addr} {ocratio kVratio dcratio pmratio cdratio ctratio : Value} {odratio anratio : Option Addr} {slratio : Array (Option Value)} {fexact : Addr} {ocexact kVexact dcexact pmexact cdexact ctexact : Value} {odexact anexact : Option Addr} {slexact : Array (Option Value)} {fsigns : Addr} {ocsigns kVsigns dcsigns pmsigns cdsigns ctsigns : Value} {odsigns ansigns : Option Addr} {slsigns : Array (Option Value)} {fwritten : Addr} {ocwritten kVwritten dcwritten pmwritten cdwritten ctwritten : Value} {odwritten anwritten : Option Addr} {slwritten : Array (Option Value)} {fpower_refused : Addr} {ocpower_refused kVpower_refused dcpower_refused pmpower_refused cdpower_refused ctpower_refused : Value} {odpower_refused anpower_refused : Option Addr} {slpower_refused : Array (Option Value)} {fpowered : Addr} {ocpowered kVpowered dcpowered pmpowered cdpowered ctpowered : Value} {odpowered anpowered : Option Addr} {slpowered : Array (Option Value)} {fis_number : Addr} {ocis_number kVis_number dcis_number pmis_number cdis_number ctis_number : Value} {odis_number anis_number : Option Addr} {slis_number : Array (Option Value)} {fas_ratio : Addr} {ocas_ratio kVas_ratio dcas_ratio pmas_ratio cdas_ratio ctas_ratio : Value} {odas_ratio anas_ratio : Option Addr} {slas_ratio : Array (Option Value)} {ftop_of : Addr} {octop_of kVtop_of dctop_of pmtop_of cdtop_of cttop_of : Value} {odtop_of antop_of : Option Addr} {sltop_of : Array (Option Value)} {funder_of : Addr} {ocunder_of kVunder_of dcunder_of pmunder_of cdunder_of ctunder_of : Value} {odunder_of anunder_of : Option Addr} {slunder_of : Array (Option Value)} {flaw : Addr} {oclaw kVlaw dclaw pmlaw cdlaw ctlaw : Value} {odlaw anlaw : Option Addr} {sllaw : Array (Option Value)}
    (zlen : PySem.W.nsIn K mainGlobals "len" = some none)
    (zint : PySem.W.nsIn K mainGlobals "int" = some none)
    (zabs : PySem.W.nsIn K mainGlobals "abs" = some none)
    (zrange : PySem.W.nsIn K mainGlobals "range" = some none)
    (zisinstance : PySem.W.nsIn K mainGlobals "isinstance" = some none)
    (zmax : PySem.W.nsIn K mainGlobals "max" = some none)
    (zmin : PySem.W.nsIn K mainGlobals "min" = some none)
    (zsum : PySem.W.nsIn K mainGlobals "sum" = some none)
    (zstr : PySem.W.nsIn K mainGlobals "str" = some none)
    (zbool : PySem.W.nsIn K mainGlobals "bool" = some none)
    (zlist : PySem.W.nsIn K mainGlobals "list" = some none)
    (zValueError : PySem.W.nsIn K mainGlobals "ValueError" = some none)
    (aC : PySem.W.nsIn K mainGlobals "Ratio" = some (some (.ref C)))
    (pgC : PySem.W.plainGet K C Str.empty = true)
    (hdC : PySem.W.hasDictIn K C = true)
    (poC : PySem.W.plainOver K C = true)
    (saC : PySem.W.findIn K (.ref C) "__setattr__" = some (some (.builtin "object.__setattr__")))
    (mkC : PySem.W.makesIn K C = true)
    (kcC : PySem.W.keepIn K (.ref C) = true)
    (nTC : PySem.W.findIn K (.ref C) "top" = some none)
    (nUC : PySem.W.findIn K (.ref C) "under" = some none)
    (haC : PySem.W.findIn K (.ref C) "__class__" = some (some (.builtin "object.__class__")))
    (hnO : PySem.W.specialIn K (.builtin "object.__class__") "__get__" = some (some (.builtin "getset_descriptor.__get__")))
    (htO : PySem.W.takesIn K (.builtin "object.__class__") = some true)
    (hmC : PySem.W.mroIn K C (.type "object") = some true)
    (siC : PySem.W.subIn K (.type "int") (.ref C) = some false)
    (tyC : PySem.W.typeIn K (.ref C) = some (.type "type"))
    (aRatio_init : PySem.W.findIn K (.ref C) "__init__" = some (some (.ref fRatio_init)))
    (iRatio_init : PySem.W.isFn K (.ref fRatio_init) = true)
    (lRatio_init : K.lookup fRatio_init = some ⟨ocRatio_init, odRatio_init, .func (PySem.W.fnOf "__init__" "Ratio.__init__" (defArgs s_Ratio_init) (defBody s_Ratio_init) (defScope s_Ratio_init) (.ref tD) kVRatio_init dcRatio_init pmRatio_init anRatio_init cdRatio_init ctRatio_init), slRatio_init⟩)
    (cRatio_init : PySem.W.codeIn K cdRatio_init "Ratio.__init__" = true)
    (kRatio_init : PySem.W.keepIn K (.ref fRatio_init) = true)
    (lD : K.lookup tD = some ⟨ocD, odD, .seq #[.int 1 tkD] nD, slD⟩)
    (aGcd : PySem.W.nsIn K mainGlobals "gcd" = some (some (.builtin "math.gcd")))
    (aLE : PySem.W.nsIn K mainGlobals "LotError" = some (some (.ref LE)))
    (hdLE : PySem.W.hasDictIn K LE = true)
    (teLE : PySem.W.typeIn K (.ref LE) = some (.type "type"))
    (aBN : PySem.W.nsIn K mainGlobals "BadNumber" = some (some (.ref BN)))
    (xBN : K.lookup BN = some (excClassObj nmE qE BN NE bsE [.ref LE, .type "ValueError", .type "Exception", .type "BaseException", .type "object"] true snE subE abE colE ddE mE0 mE1 mE2 mE3 mE5 "ValueError.__new__"))
    (saBN : PySem.W.findIn K (.ref BN) "__setattr__" = some (some (.builtin "object.__setattr__")))
    (keBN : PySem.W.keepIn K (.ref BN) = true)
    (beBN : PySem.W.subIn K (.ref BN) (.type "BaseException") = some true)
    (teBN : PySem.W.typeIn K (.ref BN) = some (.type "type"))
    (seBN : PySem.W.subIn K (.ref BN) (.ref BN) = some true)
    (geBN : PySem.W.findIn K (.ref BN) "__getattribute__" = some (some (.builtin "BaseException.__getattribute__")))
    (ggBN : PySem.W.findIn K (.ref BN) "__getattr__" = some none)
    (hdBN : PySem.W.hasDictIn K BN = true)
    (hcBN : PySem.W.findIn K (.ref BN) "__class__" = some (some (.builtin "object.__class__")))
    (hoBN : PySem.W.mroIn K BN (.type "object") = some true)
    (veBN : PySem.W.subIn K (.ref BN) (.type "ValueError") = some true)
    (fnBN : PySem.W.findIn K (.ref BN) "name" = some none)
    (fvBN : PySem.W.findIn K (.ref BN) "value" = some none)
    (aBadNumber_init : PySem.W.findIn K (.ref BN) "__init__" = some (some (.ref fBadNumber_init)))
    (tBadNumber_init : PySem.W.typeIn K (.ref fBadNumber_init) = some (.type "function"))
    (lBadNumber_init : K.lookup fBadNumber_init = some ⟨ocBadNumber_init, odBadNumber_init, .func (PySem.W.fnOf "__init__" "BadNumber.__init__" (defArgs s_BadNumber_init) (defBody s_BadNumber_init) (defScope s_BadNumber_init) .none kVBadNumber_init dcBadNumber_init pmBadNumber_init anBadNumber_init cdBadNumber_init ctBadNumber_init), slBadNumber_init⟩)
    (cBadNumber_init : PySem.W.codeIn K cdBadNumber_init "BadNumber.__init__" = true)
    (kBadNumber_init : PySem.W.keepIn K (.ref fBadNumber_init) = true)
    (sBNLE : PySem.W.subIn K (.ref BN) (.ref LE) = some true)
    (kmV : PySem.W.kitMeta "ValueError" = true)
    (kmI : PySem.W.kitMeta "int" = true)
    (aZU : PySem.W.nsIn K mainGlobals "ZeroUnder" = some (some (.ref ZU)))
    (xZU : PySem.W.excIn K ZU [.type "ValueError", .type "Exception", .type "BaseException", .type "object"] "ValueError.__new__" = true)
    (keZU : PySem.W.keepIn K (.ref ZU) = true)
    (beZU : PySem.W.subIn K (.ref ZU) (.type "BaseException") = some true)
    (teZU : PySem.W.typeIn K (.ref ZU) = some (.type "type"))
    (seZU : PySem.W.subIn K (.ref ZU) (.ref ZU) = some true)
    (geZU : PySem.W.findIn K (.ref ZU) "__getattribute__" = some (some (.builtin "BaseException.__getattribute__")))
    (ggZU : PySem.W.findIn K (.ref ZU) "__getattr__" = some none)
    (hdZU : PySem.W.hasDictIn K ZU = true)
    (hcZU : PySem.W.findIn K (.ref ZU) "__class__" = some (some (.builtin "object.__class__")))
    (hoZU : PySem.W.mroIn K ZU (.type "object") = some true)
    (veZU : PySem.W.subIn K (.ref ZU) (.type "ValueError") = some true)
    (sBNZU : PySem.W.subIn K (.ref BN) (.ref ZU) = some false)
    (aMP : PySem.W.nsIn K mainGlobals "MOST_POWER" = some (some (.int 64 tkM)))
    (aRatio_lt : PySem.W.findIn K (.ref C) "__lt__" = some (some (.ref fRatio_lt)))
    (iRatio_lt : PySem.W.isFn K (.ref fRatio_lt) = true)
    (lRatio_lt : K.lookup fRatio_lt = some ⟨ocRatio_lt, odRatio_lt, .func (PySem.W.fnOf "__lt__" "Ratio.__lt__" (defArgs s_Ratio_lt) (defBody s_Ratio_lt) (defScope s_Ratio_lt) .none kVRatio_lt dcRatio_lt pmRatio_lt anRatio_lt cdRatio_lt ctRatio_lt), slRatio_lt⟩)
    (cRatio_lt : PySem.W.codeIn K cdRatio_lt "Ratio.__lt__" = true)
    (kRatio_lt : PySem.W.keepIn K (.ref fRatio_lt) = true)
    (aRatio_le : PySem.W.findIn K (.ref C) "__le__" = some (some (.ref fRatio_le)))
    (iRatio_le : PySem.W.isFn K (.ref fRatio_le) = true)
    (lRatio_le : K.lookup fRatio_le = some ⟨ocRatio_le, odRatio_le, .func (PySem.W.fnOf "__le__" "Ratio.__le__" (defArgs s_Ratio_le) (defBody s_Ratio_le) (defScope s_Ratio_le) .none kVRatio_le dcRatio_le pmRatio_le anRatio_le cdRatio_le ctRatio_le), slRatio_le⟩)
    (cRatio_le : PySem.W.codeIn K cdRatio_le "Ratio.__le__" = true)
    (kRatio_le : PySem.W.keepIn K (.ref fRatio_le) = true)
    (aRatio_gt : PySem.W.findIn K (.ref C) "__gt__" = some (some (.ref fRatio_gt)))
    (iRatio_gt : PySem.W.isFn K (.ref fRatio_gt) = true)
    (lRatio_gt : K.lookup fRatio_gt = some ⟨ocRatio_gt, odRatio_gt, .func (PySem.W.fnOf "__gt__" "Ratio.__gt__" (defArgs s_Ratio_gt) (defBody s_Ratio_gt) (defScope s_Ratio_gt) .none kVRatio_gt dcRatio_gt pmRatio_gt anRatio_gt cdRatio_gt ctRatio_gt), slRatio_gt⟩)
    (cRatio_gt : PySem.W.codeIn K cdRatio_gt "Ratio.__gt__" = true)
    (kRatio_gt : PySem.W.keepIn K (.ref fRatio_gt) = true)
    (aRatio_ge : PySem.W.findIn K (.ref C) "__ge__" = some (some (.ref fRatio_ge)))
    (iRatio_ge : PySem.W.isFn K (.ref fRatio_ge) = true)
    (lRatio_ge : K.lookup fRatio_ge = some ⟨ocRatio_ge, odRatio_ge, .func (PySem.W.fnOf "__ge__" "Ratio.__ge__" (defArgs s_Ratio_ge) (defBody s_Ratio_ge) (defScope s_Ratio_ge) .none kVRatio_ge dcRatio_ge pmRatio_ge anRatio_ge cdRatio_ge ctRatio_ge), slRatio_ge⟩)
    (cRatio_ge : PySem.W.codeIn K cdRatio_ge "Ratio.__ge__" = true)
    (kRatio_ge : PySem.W.keepIn K (.ref fRatio_ge) = true)
    (aRatio_eq : PySem.W.findIn K (.ref C) "__eq__" = some (some (.ref fRatio_eq)))
    (iRatio_eq : PySem.W.isFn K (.ref fRatio_eq) = true)
    (lRatio_eq : K.lookup fRatio_eq = some ⟨ocRatio_eq, odRatio_eq, .func (PySem.W.fnOf "__eq__" "Ratio.__eq__" (defArgs s_Ratio_eq) (defBody s_Ratio_eq) (defScope s_Ratio_eq) .none kVRatio_eq dcRatio_eq pmRatio_eq anRatio_eq cdRatio_eq ctRatio_eq), slRatio_eq⟩)
    (cRatio_eq : PySem.W.codeIn K cdRatio_eq "Ratio.__eq__" = true)
    (kRatio_eq : PySem.W.keepIn K (.ref fRatio_eq) = true)
    (aRatio_bool : PySem.W.findIn K (.ref C) "__bool__" = some (some (.ref fRatio_bool)))
    (iRatio_bool : PySem.W.isFn K (.ref fRatio_bool) = true)
    (lRatio_bool : K.lookup fRatio_bool = some ⟨ocRatio_bool, odRatio_bool, .func (PySem.W.fnOf "__bool__" "Ratio.__bool__" (defArgs s_Ratio_bool) (defBody s_Ratio_bool) (defScope s_Ratio_bool) .none kVRatio_bool dcRatio_bool pmRatio_bool anRatio_bool cdRatio_bool ctRatio_bool), slRatio_bool⟩)
    (cRatio_bool : PySem.W.codeIn K cdRatio_bool "Ratio.__bool__" = true)
    (kRatio_bool : PySem.W.keepIn K (.ref fRatio_bool) = true)
    (aRatio_str : PySem.W.findIn K (.ref C) "__str__" = some (some (.ref fRatio_str)))
    (iRatio_str : PySem.W.isFn K (.ref fRatio_str) = true)
    (lRatio_str : K.lookup fRatio_str = some ⟨ocRatio_str, odRatio_str, .func (PySem.W.fnOf "__str__" "Ratio.__str__" (defArgs s_Ratio_str) (defBody s_Ratio_str) (defScope s_Ratio_str) .none kVRatio_str dcRatio_str pmRatio_str anRatio_str cdRatio_str ctRatio_str), slRatio_str⟩)
    (cRatio_str : PySem.W.codeIn K cdRatio_str "Ratio.__str__" = true)
    (kRatio_str : PySem.W.keepIn K (.ref fRatio_str) = true)
    (aRatio_power : PySem.W.findIn K (.ref C) "power" = some (some (.ref fRatio_power)))
    (iRatio_power : PySem.W.isFn K (.ref fRatio_power) = true)
    (lRatio_power : K.lookup fRatio_power = some ⟨ocRatio_power, odRatio_power, .func (PySem.W.fnOf "power" "Ratio.power" (defArgs s_Ratio_power) (defBody s_Ratio_power) (defScope s_Ratio_power) .none kVRatio_power dcRatio_power pmRatio_power anRatio_power cdRatio_power ctRatio_power), slRatio_power⟩)
    (cRatio_power : PySem.W.codeIn K cdRatio_power "Ratio.power" = true)
    (kRatio_power : PySem.W.keepIn K (.ref fRatio_power) = true)
    (aRatio_pow : PySem.W.findIn K (.ref C) "__pow__" = some (some (.ref fRatio_pow)))
    (iRatio_pow : PySem.W.isFn K (.ref fRatio_pow) = true)
    (lRatio_pow : K.lookup fRatio_pow = some ⟨ocRatio_pow, odRatio_pow, .func (PySem.W.fnOf "__pow__" "Ratio.__pow__" (defArgs s_Ratio_pow) (defBody s_Ratio_pow) (defScope s_Ratio_pow) .none kVRatio_pow dcRatio_pow pmRatio_pow anRatio_pow cdRatio_pow ctRatio_pow), slRatio_pow⟩)
    (cRatio_pow : PySem.W.codeIn K cdRatio_pow "Ratio.__pow__" = true)
    (kRatio_pow : PySem.W.keepIn K (.ref fRatio_pow) = true)
    (hSF : PySem.W.selfFirst K C = true)
    (zrP : PySem.W.findIn K (.ref C) "__rpow__" = some none)
    (ziP : PySem.W.findIn K (.type "int") "__pow__" = some (some (.builtin "int.__pow__")))
    (zjP : PySem.W.findIn K (.type "int") "__rpow__" = some (some (.builtin "int.__rpow__")))
    (neC : PySem.W.findIn K (.ref C) "__ne__" = some (some (.builtin "object.__ne__")))
    (scI : PySem.W.subIn K (.ref C) (.type "int") = some false)
    (siStr : PySem.W.subIn K (.type "str") (.ref C) = some false)
    (sfStr : PySem.W.subIn K (.type "str") (.type "str") = some true)
    (siTup : PySem.W.subIn K (.type "tuple") (.ref C) = some false)
    (sfTup : PySem.W.subIn K (.type "tuple") (.type "tuple") = some true)
    (siLst : PySem.W.subIn K (.type "list") (.ref C) = some false)
    (sfLst : PySem.W.subIn K (.type "list") (.type "list") = some true)
    (siNon : PySem.W.subIn K (.type "NoneType") (.ref C) = some false)
    (sfNon : PySem.W.subIn K (.type "NoneType") (.type "NoneType") = some true)
    (apool : PySem.W.nsIn K mainGlobals "_law_pool" = some (some (.ref fpool)))
    (lpool : K.lookup fpool = some ⟨ocpool, odpool, .func (PySem.W.fnOf "_law_pool" "_law_pool" (defArgs s_pool) (defBody s_pool) (defScope s_pool) .none kVpool dcpool pmpool anpool cdpool ctpool), slpool⟩)
    (cpool : PySem.W.codeIn K cdpool "_law_pool" = true)
    (kpool : PySem.W.keepIn K (.ref fpool) = true)
    (amix : PySem.W.nsIn K mainGlobals "_law_mix" = some (some (.ref fmix)))
    (lmix : K.lookup fmix = some ⟨ocmix, odmix, .func (PySem.W.fnOf "_law_mix" "_law_mix" (defArgs s_mix) (defBody s_mix) (defScope s_mix) .none kVmix dcmix pmmix anmix cdmix ctmix), slmix⟩)
    (cmix : PySem.W.codeIn K cdmix "_law_mix" = true)
    (kmix : PySem.W.keepIn K (.ref fmix) = true)
    (adraw : PySem.W.nsIn K mainGlobals "_law_draw" = some (some (.ref fdraw)))
    (ldraw : K.lookup fdraw = some ⟨ocdraw, oddraw, .func (PySem.W.fnOf "_law_draw" "_law_draw" (defArgs s_draw) (defBody s_draw) (defScope s_draw) .none kVdraw dcdraw pmdraw andraw cddraw ctdraw), sldraw⟩)
    (cdraw : PySem.W.codeIn K cddraw "_law_draw" = true)
    (kdraw : PySem.W.keepIn K (.ref fdraw) = true)
    (awide : PySem.W.nsIn K mainGlobals "_law_wide" = some (some (.ref fwide)))
    (lwide : K.lookup fwide = some ⟨ocwide, odwide, .func (PySem.W.fnOf "_law_wide" "_law_wide" (defArgs s_wide) (defBody s_wide) (defScope s_wide) .none kVwide dcwide pmwide anwide cdwide ctwide), slwide⟩)
    (cwide : PySem.W.codeIn K cdwide "_law_wide" = true)
    (kwide : PySem.W.keepIn K (.ref fwide) = true)
    (aany : PySem.W.nsIn K mainGlobals "_law_any" = some (some (.ref fany)))
    (lany : K.lookup fany = some ⟨ocany, odany, .func (PySem.W.fnOf "_law_any" "_law_any" (defArgs s_any) (defBody s_any) (defScope s_any) .none kVany dcany pmany anany cdany ctany), slany⟩)
    (cany : PySem.W.codeIn K cdany "_law_any" = true)
    (kany : PySem.W.keepIn K (.ref fany) = true)
    (aeither : PySem.W.nsIn K mainGlobals "_law_either" = some (some (.ref feither)))
    (leither : K.lookup feither = some ⟨oceither, odeither, .func (PySem.W.fnOf "_law_either" "_law_either" (defArgs s_either) (defBody s_either) (defScope s_either) .none kVeither dceither pmeither aneither cdeither cteither), sleither⟩)
    (ceither : PySem.W.codeIn K cdeither "_law_either" = true)
    (keither : PySem.W.keepIn K (.ref feither) = true)
    (agcd : PySem.W.nsIn K mainGlobals "_law_gcd" = some (some (.ref fgcd)))
    (lgcd : K.lookup fgcd = some ⟨ocgcd, odgcd, .func (PySem.W.fnOf "_law_gcd" "_law_gcd" (defArgs s_gcd) (defBody s_gcd) (defScope s_gcd) .none kVgcd dcgcd pmgcd angcd cdgcd ctgcd), slgcd⟩)
    (cgcd : PySem.W.codeIn K cdgcd "_law_gcd" = true)
    (kgcd : PySem.W.keepIn K (.ref fgcd) = true)
    (awhole : PySem.W.nsIn K mainGlobals "_law_whole" = some (some (.ref fwhole)))
    (lwhole : K.lookup fwhole = some ⟨ocwhole, odwhole, .func (PySem.W.fnOf "_law_whole" "_law_whole" (defArgs s_whole) (defBody s_whole) (defScope s_whole) .none kVwhole dcwhole pmwhole anwhole cdwhole ctwhole), slwhole⟩)
    (cwhole : PySem.W.codeIn K cdwhole "_law_whole" = true)
    (kwhole : PySem.W.keepIn K (.ref fwhole) = true)
    (aratio : PySem.W.nsIn K mainGlobals "_law_ratio" = some (some (.ref fratio)))
    (lratio : K.lookup fratio = some ⟨ocratio, odratio, .func (PySem.W.fnOf "_law_ratio" "_law_ratio" (defArgs s_ratio) (defBody s_ratio) (defScope s_ratio) .none kVratio dcratio pmratio anratio cdratio ctratio), slratio⟩)
    (cratio : PySem.W.codeIn K cdratio "_law_ratio" = true)
    (kratio : PySem.W.keepIn K (.ref fratio) = true)
    (aexact : PySem.W.nsIn K mainGlobals "_law_exact" = some (some (.ref fexact)))
    (lexact : K.lookup fexact = some ⟨ocexact, odexact, .func (PySem.W.fnOf "_law_exact" "_law_exact" (defArgs s_exact) (defBody s_exact) (defScope s_exact) .none kVexact dcexact pmexact anexact cdexact ctexact), slexact⟩)
    (cexact : PySem.W.codeIn K cdexact "_law_exact" = true)
    (kexact : PySem.W.keepIn K (.ref fexact) = true)
    (asigns : PySem.W.nsIn K mainGlobals "_law_signs" = some (some (.ref fsigns)))
    (lsigns : K.lookup fsigns = some ⟨ocsigns, odsigns, .func (PySem.W.fnOf "_law_signs" "_law_signs" (defArgs s_signs) (defBody s_signs) (defScope s_signs) .none kVsigns dcsigns pmsigns ansigns cdsigns ctsigns), slsigns⟩)
    (csigns : PySem.W.codeIn K cdsigns "_law_signs" = true)
    (ksigns : PySem.W.keepIn K (.ref fsigns) = true)
    (awritten : PySem.W.nsIn K mainGlobals "_law_written" = some (some (.ref fwritten)))
    (lwritten : K.lookup fwritten = some ⟨ocwritten, odwritten, .func (PySem.W.fnOf "_law_written" "_law_written" (defArgs s_written) (defBody s_written) (defScope s_written) .none kVwritten dcwritten pmwritten anwritten cdwritten ctwritten), slwritten⟩)
    (cwritten : PySem.W.codeIn K cdwritten "_law_written" = true)
    (kwritten : PySem.W.keepIn K (.ref fwritten) = true)
    (apower_refused : PySem.W.nsIn K mainGlobals "_law_power_refused" = some (some (.ref fpower_refused)))
    (lpower_refused : K.lookup fpower_refused = some ⟨ocpower_refused, odpower_refused, .func (PySem.W.fnOf "_law_power_refused" "_law_power_refused" (defArgs s_power_refused) (defBody s_power_refused) (defScope s_power_refused) .none kVpower_refused dcpower_refused pmpower_refused anpower_refused cdpower_refused ctpower_refused), slpower_refused⟩)
    (cpower_refused : PySem.W.codeIn K cdpower_refused "_law_power_refused" = true)
    (kpower_refused : PySem.W.keepIn K (.ref fpower_refused) = true)
    (apowered : PySem.W.nsIn K mainGlobals "_law_powered" = some (some (.ref fpowered)))
    (lpowered : K.lookup fpowered = some ⟨ocpowered, odpowered, .func (PySem.W.fnOf "_law_powered" "_law_powered" (defArgs s_powered) (defBody s_powered) (defScope s_powered) .none kVpowered dcpowered pmpowered anpowered cdpowered ctpowered), slpowered⟩)
    (cpowered : PySem.W.codeIn K cdpowered "_law_powered" = true)
    (kpowered : PySem.W.keepIn K (.ref fpowered) = true)
    (ais_number : PySem.W.nsIn K mainGlobals "is_number" = some (some (.ref fis_number)))
    (lis_number : K.lookup fis_number = some ⟨ocis_number, odis_number, .func (PySem.W.fnOf "is_number" "is_number" (defArgs s_is_number) (defBody s_is_number) (defScope s_is_number) .none kVis_number dcis_number pmis_number anis_number cdis_number ctis_number), slis_number⟩)
    (cis_number : PySem.W.codeIn K cdis_number "is_number" = true)
    (kis_number : PySem.W.keepIn K (.ref fis_number) = true)
    (aas_ratio : PySem.W.nsIn K mainGlobals "as_ratio" = some (some (.ref fas_ratio)))
    (las_ratio : K.lookup fas_ratio = some ⟨ocas_ratio, odas_ratio, .func (PySem.W.fnOf "as_ratio" "as_ratio" (defArgs s_as_ratio) (defBody s_as_ratio) (defScope s_as_ratio) .none kVas_ratio dcas_ratio pmas_ratio anas_ratio cdas_ratio ctas_ratio), slas_ratio⟩)
    (cas_ratio : PySem.W.codeIn K cdas_ratio "as_ratio" = true)
    (kas_ratio : PySem.W.keepIn K (.ref fas_ratio) = true)
    (atop_of : PySem.W.nsIn K mainGlobals "_top_of" = some (some (.ref ftop_of)))
    (ltop_of : K.lookup ftop_of = some ⟨octop_of, odtop_of, .func (PySem.W.fnOf "_top_of" "_top_of" (defArgs s_top_of) (defBody s_top_of) (defScope s_top_of) .none kVtop_of dctop_of pmtop_of antop_of cdtop_of cttop_of), sltop_of⟩)
    (ctop_of : PySem.W.codeIn K cdtop_of "_top_of" = true)
    (ktop_of : PySem.W.keepIn K (.ref ftop_of) = true)
    (aunder_of : PySem.W.nsIn K mainGlobals "_under_of" = some (some (.ref funder_of)))
    (lunder_of : K.lookup funder_of = some ⟨ocunder_of, odunder_of, .func (PySem.W.fnOf "_under_of" "_under_of" (defArgs s_under_of) (defBody s_under_of) (defScope s_under_of) .none kVunder_of dcunder_of pmunder_of anunder_of cdunder_of ctunder_of), slunder_of⟩)
    (cunder_of : PySem.W.codeIn K cdunder_of "_under_of" = true)
    (kunder_of : PySem.W.keepIn K (.ref funder_of) = true)
    (alaw : PySem.W.nsIn K mainGlobals "law" = some (some (.ref flaw)))
    (llaw : K.lookup flaw = some ⟨oclaw, odlaw, .func (PySem.W.fnOf "law" "law" (defArgs s_law) (defBody s_law) (defScope s_law) .none kVlaw dclaw pmlaw anlaw cdlaw ctlaw), sllaw⟩)
    (claw : PySem.W.codeIn K cdlaw "law" = true)
    (klaw : PySem.W.keepIn K (.ref flaw) = true) :
    ∃ fd : FuncData, (∀ (s : Shared) (v : Value), BindsTo s fd ⟨[v], []⟩ [("_law_script", v)]) ∧ ∀ base : Heap, K.In base → base.Ns mainGlobals mg → FnOk l.prog w K mg base CX0 6 fa fd ["_law_script"] (spLaw K) := by
  have e := hfa.symm.trans (PySem.W.mg_of X G alaw)
  cases e
  have B : Blt mg := ⟨PySem.W.mg_none_of X G zlen, PySem.W.mg_none_of X G zint, PySem.W.mg_none_of X G zabs, PySem.W.mg_none_of X G zrange, PySem.W.mg_none_of X G zisinstance, PySem.W.mg_none_of X G zmax, PySem.W.mg_none_of X G zmin, PySem.W.mg_none_of X G zsum, PySem.W.mg_none_of X G zstr, PySem.W.mg_none_of X G zbool, PySem.W.mg_none_of X G zlist, PySem.W.mg_none_of X G zValueError⟩
  have gRatio := PySem.W.mg_of X G aC
  have T : RatC K mg C := ⟨⟨pgC, hdC, poC, saC⟩, nTC, nUC, gRatio, haC, hnO, htO, hmC, kit_int hdC tyC siC⟩
  have FI : FunD K "__init__" "Ratio.__init__" (defArgs s_Ratio_init) (defBody s_Ratio_init) (defScope s_Ratio_init) [.int 1] [] fRatio_init _ := ⟨⟨_, _, _, _, _, _, _, _, _, _, rfl, lRatio_init, cRatio_init, .inr ⟨(by intro e; cases e), tD, _, [Value.int 1 tkD], nD, rfl, lD, rfl, .cons ⟨_, rfl⟩ .nil⟩, .inl rfl⟩, kRatio_init⟩
  have hgcd := PySem.W.mg_of X G aGcd
  have gLotError := PySem.W.mg_of X G aLE
  have gBadNumber := PySem.W.mg_of X G aBN
  have rBN : PySem.HandSPX.refsVE [.ref LE, .type "ValueError", .type "Exception", .type "BaseException", .type "object"] = true := (show PySem.HandSPX.refsVE [.type "ValueError", .type "Exception", .type "BaseException", .type "object"] = true by decide +kernel)
  have TB : BnC K mg BN := ⟨⟨⟨nmE, qE, NE, bsE, _, snE, subE, abE, colE, ddE, mE0, mE1, mE2, mE3, mE5, xBN, rBN⟩, saBN, beBN, teBN, keBN⟩, gBadNumber, fnBN, fvBN, ⟨geBN, ggBN, beBN, hdBN, hcBN, hnO, htO, hoBN⟩, seBN⟩
  have FB := fun_mk (st := s_BadNumber_init) lBadNumber_init cBadNumber_init kBadNumber_init
  have bB := FB.binds (ps := ["self", "name", "value"]) fun _ _ _ _ _ _ us hl => match us, hl with | [_, _, _], _ => rfl
  have gZeroUnder := PySem.W.mg_of X G aZU
  have TZU : ExC K mg "ZeroUnder" ZU := ⟨xZU, gZeroUnder, keZU, beZU, teZU, seZU, ⟨geZU, ggZU, beZU, hdZU, hcZU, hnO, htO, hoZU⟩⟩
  have gMP := PySem.W.mg_of X G aMP
  have FRatio_lt := fun_mk (st := s_Ratio_lt) lRatio_lt cRatio_lt kRatio_lt
  have bRatio_lt := FRatio_lt.binds (ps := ["self", "other"]) fun _ _ _ _ _ _ us hl => match us, hl with | [_, _], _ => rfl
  have FRatio_le := fun_mk (st := s_Ratio_le) lRatio_le cRatio_le kRatio_le
  have bRatio_le := FRatio_le.binds (ps := ["self", "other"]) fun _ _ _ _ _ _ us hl => match us, hl with | [_, _], _ => rfl
  have FRatio_gt := fun_mk (st := s_Ratio_gt) lRatio_gt cRatio_gt kRatio_gt
  have bRatio_gt := FRatio_gt.binds (ps := ["self", "other"]) fun _ _ _ _ _ _ us hl => match us, hl with | [_, _], _ => rfl
  have FRatio_ge := fun_mk (st := s_Ratio_ge) lRatio_ge cRatio_ge kRatio_ge
  have bRatio_ge := FRatio_ge.binds (ps := ["self", "other"]) fun _ _ _ _ _ _ us hl => match us, hl with | [_, _], _ => rfl
  have FRatio_eq := fun_mk (st := s_Ratio_eq) lRatio_eq cRatio_eq kRatio_eq
  have bRatio_eq := FRatio_eq.binds (ps := ["self", "other"]) fun _ _ _ _ _ _ us hl => match us, hl with | [_, _], _ => rfl
  have FRatio_bool := fun_mk (st := s_Ratio_bool) lRatio_bool cRatio_bool kRatio_bool
  have bRatio_bool := FRatio_bool.binds (ps := ["self"]) fun _ _ _ _ _ _ us hl => match us, hl with | [_], _ => rfl
  have FRatio_str := fun_mk (st := s_Ratio_str) lRatio_str cRatio_str kRatio_str
  have bRatio_str := FRatio_str.binds (ps := ["self"]) fun _ _ _ _ _ _ us hl => match us, hl with | [_], _ => rfl
  have FRatio_power := fun_mk (st := s_Ratio_power) lRatio_power cRatio_power kRatio_power
  have bRatio_power := FRatio_power.binds (ps := ["self", "n"]) fun _ _ _ _ _ _ us hl => match us, hl with | [_, _], _ => rfl
  have FRatio_pow := fun_mk (st := s_Ratio_pow) lRatio_pow cRatio_pow kRatio_pow
  have bRatio_pow := FRatio_pow.binds (ps := ["self", "other"]) fun _ _ _ _ _ _ us hl => match us, hl with | [_, _], _ => rfl
  have Fpool := fun_mk (st := s_pool) lpool cpool kpool
  have Dpool : Dfn K mg "_law_pool" "_law_pool" s_pool ["_law_script"] := ⟨fpool, _, Fpool, PySem.W.mg_of X G apool, Fpool.binds (ps := ["_law_script"]) fun _ _ _ _ _ _ us hl => match us, hl with | [_], _ => rfl⟩
  have Fmix := fun_mk (st := s_mix) lmix cmix kmix
  have Dmix : Dfn K mg "_law_mix" "_law_mix" s_mix ["_law_state", "_law_turn", "_law_many"] := ⟨fmix, _, Fmix, PySem.W.mg_of X G amix, Fmix.binds (ps := ["_law_state", "_law_turn", "_law_many"]) fun _ _ _ _ _ _ us hl => match us, hl with | [_, _, _], _ => rfl⟩
  have Fdraw := fun_mk (st := s_draw) ldraw cdraw kdraw
  have Ddraw : Dfn K mg "_law_draw" "_law_draw" s_draw ["_law_pool_here", "_law_many"] := ⟨fdraw, _, Fdraw, PySem.W.mg_of X G adraw, Fdraw.binds (ps := ["_law_pool_here", "_law_many"]) fun _ _ _ _ _ _ us hl => match us, hl with | [_, _], _ => rfl⟩
  have Fwide := fun_mk (st := s_wide) lwide cwide kwide
  have Dwide : Dfn K mg "_law_wide" "_law_wide" s_wide ["_law_pool_here"] := ⟨fwide, _, Fwide, PySem.W.mg_of X G awide, Fwide.binds (ps := ["_law_pool_here"]) fun _ _ _ _ _ _ us hl => match us, hl with | [_], _ => rfl⟩
  have Fany := fun_mk (st := s_any) lany cany kany
  have Dany : Dfn K mg "_law_any" "_law_any" s_any ["_law_pool_here"] := ⟨fany, _, Fany, PySem.W.mg_of X G aany, Fany.binds (ps := ["_law_pool_here"]) fun _ _ _ _ _ _ us hl => match us, hl with | [_], _ => rfl⟩
  have Feither := fun_mk (st := s_either) leither ceither keither
  have Deither : Dfn K mg "_law_either" "_law_either" s_either ["_law_pool_here"] := ⟨feither, _, Feither, PySem.W.mg_of X G aeither, Feither.binds (ps := ["_law_pool_here"]) fun _ _ _ _ _ _ us hl => match us, hl with | [_], _ => rfl⟩
  have Fgcd := fun_mk (st := s_gcd) lgcd cgcd kgcd
  have Dgcd : Dfn K mg "_law_gcd" "_law_gcd" s_gcd ["_law_one", "_law_other"] := ⟨fgcd, _, Fgcd, PySem.W.mg_of X G agcd, Fgcd.binds (ps := ["_law_one", "_law_other"]) fun _ _ _ _ _ _ us hl => match us, hl with | [_, _], _ => rfl⟩
  have Fwhole := fun_mk (st := s_whole) lwhole cwhole kwhole
  have Dwhole : Dfn K mg "_law_whole" "_law_whole" s_whole ["_law_actual"] := ⟨fwhole, _, Fwhole, PySem.W.mg_of X G awhole, Fwhole.binds (ps := ["_law_actual"]) fun _ _ _ _ _ _ us hl => match us, hl with | [_], _ => rfl⟩
  have Fratio := fun_mk (st := s_ratio) lratio cratio kratio
  have Dratio : Dfn K mg "_law_ratio" "_law_ratio" s_ratio ["_law_actual"] := ⟨fratio, _, Fratio, PySem.W.mg_of X G aratio, Fratio.binds (ps := ["_law_actual"]) fun _ _ _ _ _ _ us hl => match us, hl with | [_], _ => rfl⟩
  have Fexact := fun_mk (st := s_exact) lexact cexact kexact
  have Dexact : Dfn K mg "_law_exact" "_law_exact" s_exact ["_law_actual", "_law_top", "_law_under"] := ⟨fexact, _, Fexact, PySem.W.mg_of X G aexact, Fexact.binds (ps := ["_law_actual", "_law_top", "_law_under"]) fun _ _ _ _ _ _ us hl => match us, hl with | [_, _, _], _ => rfl⟩
  have Fsigns := fun_mk (st := s_signs) lsigns csigns ksigns
  have Dsigns : Dfn K mg "_law_signs" "_law_signs" s_signs ["_law_x", "_law_y", "_law_gap"] := ⟨fsigns, _, Fsigns, PySem.W.mg_of X G asigns, Fsigns.binds (ps := ["_law_x", "_law_y", "_law_gap"]) fun _ _ _ _ _ _ us hl => match us, hl with | [_, _, _], _ => rfl⟩
  have Fwritten := fun_mk (st := s_written) lwritten cwritten kwritten
  have Dwritten : Dfn K mg "_law_written" "_law_written" s_written ["_law_a", "_law_at", "_law_au"] := ⟨fwritten, _, Fwritten, PySem.W.mg_of X G awritten, Fwritten.binds (ps := ["_law_a", "_law_at", "_law_au"]) fun _ _ _ _ _ _ us hl => match us, hl with | [_, _, _], _ => rfl⟩
  have Fpower_refused := fun_mk (st := s_power_refused) lpower_refused cpower_refused kpower_refused
  have Dpower_refused : Dfn K mg "_law_power_refused" "_law_power_refused" s_power_refused ["_law_a", "_law_power"] := ⟨fpower_refused, _, Fpower_refused, PySem.W.mg_of X G apower_refused, Fpower_refused.binds (ps := ["_law_a", "_law_power"]) fun _ _ _ _ _ _ us hl => match us, hl with | [_, _], _ => rfl⟩
  have Fpowered := fun_mk (st := s_powered) lpowered cpowered kpowered
  have Dpowered : Dfn K mg "_law_powered" "_law_powered" s_powered ["_law_a", "_law_at", "_law_au", "_law_power"] := ⟨fpowered, _, Fpowered, PySem.W.mg_of X G apowered, Fpowered.binds (ps := ["_law_a", "_law_at", "_law_au", "_law_power"]) fun _ _ _ _ _ _ us hl => match us, hl with | [_, _, _, _], _ => rfl⟩
  have Fis_number := fun_mk (st := s_is_number) lis_number cis_number kis_number
  have Dis_number : Dfn K mg "is_number" "is_number" s_is_number ["value"] := ⟨fis_number, _, Fis_number, PySem.W.mg_of X G ais_number, Fis_number.binds (ps := ["value"]) fun _ _ _ _ _ _ us hl => match us, hl with | [_], _ => rfl⟩
  have Fas_ratio := fun_mk (st := s_as_ratio) las_ratio cas_ratio kas_ratio
  have Das_ratio : Dfn K mg "as_ratio" "as_ratio" s_as_ratio ["number"] := ⟨fas_ratio, _, Fas_ratio, PySem.W.mg_of X G aas_ratio, Fas_ratio.binds (ps := ["number"]) fun _ _ _ _ _ _ us hl => match us, hl with | [_], _ => rfl⟩
  have Ftop_of := fun_mk (st := s_top_of) ltop_of ctop_of ktop_of
  have Dtop_of : Dfn K mg "_top_of" "_top_of" s_top_of ["number"] := ⟨ftop_of, _, Ftop_of, PySem.W.mg_of X G atop_of, Ftop_of.binds (ps := ["number"]) fun _ _ _ _ _ _ us hl => match us, hl with | [_], _ => rfl⟩
  have Funder_of := fun_mk (st := s_under_of) lunder_of cunder_of kunder_of
  have Dunder_of : Dfn K mg "_under_of" "_under_of" s_under_of ["number"] := ⟨funder_of, _, Funder_of, PySem.W.mg_of X G aunder_of, Funder_of.binds (ps := ["number"]) fun _ _ _ _ _ _ us hl => match us, hl with | [_], _ => rfl⟩
  have Flaw := fun_mk (st := s_law) llaw claw klaw
  refine ⟨PySem.W.fnOf "law" "law" (defArgs s_law) (defBody s_law) (defScope s_law) .none kVlaw dclaw pmlaw anlaw cdlaw ctlaw, fun s v => .of_eq rfl, fun base _ _ => ?_⟩
  have CE : CalE l.prog w K mg base 1 BN := ⟨_, _, aBadNumber_init, tBadNumber_init, ok_bn TB FB, bB⟩
  have ⟨M2, M1⟩ := mk_ratio (P := l.prog) (w := w) (base := base) B hgcd T TZU ⟨mkC, aRatio_init, iRatio_init, kcC⟩ FI
  have cmix := ok_mix (P := l.prog) (w := w) (base := base) B Dmix
  have cdraw := ok_draw B Ddraw cmix
  have cwide := ok_wide B Dwide cdraw
  have cany := ok_any B Dany cdraw cwide
  have cpool := ok_pool (P := l.prog) (w := w) (base := base) B Dpool
  have cwhole := ok_whole (P := l.prog) (w := w) (base := base) B Dwhole
  have ceither := ok_either B Deither cdraw cany
  have cgcd := ok_gcd1 (P := l.prog) (w := w) (base := base) B Dgcd
  have cratio := ok_ratio B T Dratio cwhole
  have cex := ok_exact B T Dexact cratio cgcd
  have cisn := ok_is_number (P := l.prog) (w := w) (base := base) B T (kit_type kmI scI) Dis_number
  have ctop := ok_top_of (P := l.prog) (w := w) (base := base) B T Dtop_of
  have cund := ok_under_of (P := l.prog) (w := w) (base := base) B T Dunder_of
  have Mlt : Bx.OpOwn l.prog w K mg base 2 C "__lt__" ["self", "other"] (spCmp C fun i j => decide (i < j)) := ⟨_, _, aRatio_lt, iRatio_lt, ok_lt T cisn ctop cund FRatio_lt, bRatio_lt⟩
  have Mle : Bx.OpOwn l.prog w K mg base 2 C "__le__" ["self", "other"] (spCmp C fun i j => decide (i ≤ j)) := ⟨_, _, aRatio_le, iRatio_le, ok_le T cisn ctop cund FRatio_le, bRatio_le⟩
  have Mgt : Bx.OpOwn l.prog w K mg base 2 C "__gt__" ["self", "other"] (spCmp C fun i j => decide (i > j)) := ⟨_, _, aRatio_gt, iRatio_gt, ok_gt T cisn ctop cund FRatio_gt, bRatio_gt⟩
  have Mge : Bx.OpOwn l.prog w K mg base 2 C "__ge__" ["self", "other"] (spCmp C fun i j => decide (i ≥ j)) := ⟨_, _, aRatio_ge, iRatio_ge, ok_ge T cisn ctop cund FRatio_ge, bRatio_ge⟩
  have Meq : Bx.OpOwn l.prog w K mg base 1 C "__eq__" ["self", "other"] (spEqR K C) := ⟨_, _, aRatio_eq, iRatio_eq, ok_eq B T FRatio_eq, bRatio_eq⟩
  have BOOL : Bx.OpOwn l.prog w K mg base 1 C "__bool__" ["self"] (spBool C) := ⟨_, _, aRatio_bool, iRatio_bool, ok_bool B T FRatio_bool, bRatio_bool⟩
  have STR : Bx.OpOwn l.prog w K mg base 1 C "__str__" ["self"] (spStrR C) := ⟨_, _, aRatio_str, iRatio_str, ok_str B T FRatio_str, bRatio_str⟩
  have NE : Bx.NeC K C := ⟨hmC, neC, siC, scI⟩
  have PW : Bx.OwnX l.prog w K mg base 3 C "power" ["self", "n"] (spPower C BN) := ⟨_, _, aRatio_power, iRatio_power, kRatio_power, ok_power B T TB CE M2 gMP FRatio_power, bRatio_power⟩
  have PWO : Bx.OwnX l.prog w K mg base 4 C (PySem.dunder (Operator.info .Pow).2) ["self", "other"] (spPower C BN) := ⟨_, _, (by rw [show PySem.dunder (Operator.info .Pow).2 = ("__pow__" : Str) from by decide +kernel]; exact aRatio_pow), iRatio_pow, kRatio_pow, ok_pow T PW FRatio_pow, bRatio_pow⟩
  have rPOW : PySem.W.findIn K (.ref C) (dunderR (Operator.info .Pow).2) = some none := (by rw [show dunderR (Operator.info .Pow).2 = ("__rpow__" : Str) from by decide +kernel]; exact zrP)
  have iPOW : PySem.W.findIn K (.type "int") (PySem.dunder (Operator.info .Pow).2) = some (some (.builtin "int.__pow__")) := (by rw [show PySem.dunder (Operator.info .Pow).2 = ("__pow__" : Str) from by decide +kernel]; exact ziP)
  have jPOW : PySem.W.findIn K (.type "int") (dunderR (Operator.info .Pow).2) = some (some (.builtin "int.__rpow__")) := (by rw [show dunderR (Operator.info .Pow).2 = ("__rpow__" : Str) from by decide +kernel]; exact zjP)
  have kSC := kit_own hdC tyC siStr sfStr
  have csig := ok_signs B T Mlt Mle Mgt Mge Meq NE Dsigns
  have cpr := ok_power_refused B T TB gLotError gZeroUnder (kit_own hdLE teLE sBNLE seBN) (kit_type kmV veBN) (kit_own hdZU teZU sBNZU seBN) PW Dpower_refused
  have cpw := ok_powered B T cratio PW Dpowered
  have cwr := ok_written B T cratio cex M1 NE Meq STR PWO hSF rPOW (.inl rfl) iPOW jPOW siStr kSC Dwritten
  exact ok_law B T Flaw M2 cpool cdraw cwide cany ceither cex csig cpr cwr cpw Meq BOOL siStr kSC siTup (kit_own hdC tyC siTup sfTup) siLst (kit_own hdC tyC siLst sfLst) siNon (kit_own hdC tyC siNon sfNon)
end L

set_option Elab.async false

set_option pp.maxSteps 160
set_option pp.deepTerms false
open PySem PySem.W PyProof.Rows
set_option maxRecDepth 100000 in
set_option maxHeartbeats 0 in
theorem PySem.Challenge.cw_fieldlots_k04_ratio_order_holds : PySem.Challenge.rw_fieldlots_k04_ratio_order.Holds := by
  w_on; o_law; k_head; (case hw => w_witness2)
  k_fill
  refine L2.walk_of (l := PySem.Challenge.rw_fieldlots_k04_ratio_order) (n := 63) (k := 6) (x := "_law_script") (CX := fun _ => L2.CX0) (sp := fun w => L.spLaw _) rfl (by decide) rfl ⟨rfl, by decide, by decide⟩ (fun w h Y => PySem.W.kIn_of Y) ?F (fun _ _ a ns hl _ hS => ⟨a, ns, rfl, hS, hl, fun _ => rfl⟩) (fun _ _ _ _ _ h => h)
  case F =>
    intro w mg fa h KX G hmg
    refine' L.all_mk KX G hmg ?zlen ?zint ?zabs ?zrange ?zisinstance ?zmax ?zmin ?zsum ?zstr ?zbool ?zlist ?zValueError ?aC ?pgC ?hdC ?poC ?saC ?mkC ?kcC ?nTC ?nUC ?haC ?hnO ?htO ?hmC ?siC ?tyC ?aRatio_init ?iRatio_init ?lRatio_init ?cRatio_init ?kRatio_init ?lD ?aGcd ?aLE ?hdLE ?teLE ?aBN ?xBN ?saBN ?keBN ?beBN ?teBN ?seBN ?geBN ?ggBN ?hdBN ?hcBN ?hoBN ?veBN ?fnBN ?fvBN ?aBadNumber_init ?tBadNumber_init ?lBadNumber_init ?cBadNumber_init ?kBadNumber_init ?sBNLE ?kmV ?kmI ?aZU ?xZU ?keZU ?beZU ?teZU ?seZU ?geZU ?ggZU ?hdZU ?hcZU ?hoZU ?veZU ?sBNZU ?aMP ?aRatio_lt ?iRatio_lt ?lRatio_lt ?cRatio_lt ?kRatio_lt ?aRatio_le ?iRatio_le ?lRatio_le ?cRatio_le ?kRatio_le ?aRatio_gt ?iRatio_gt ?lRatio_gt ?cRatio_gt ?kRatio_gt ?aRatio_ge ?iRatio_ge ?lRatio_ge ?cRatio_ge ?kRatio_ge ?aRatio_eq ?iRatio_eq ?lRatio_eq ?cRatio_eq ?kRatio_eq ?aRatio_bool ?iRatio_bool ?lRatio_bool ?cRatio_bool ?kRatio_bool ?aRatio_str ?iRatio_str ?lRatio_str ?cRatio_str ?kRatio_str ?aRatio_power ?iRatio_power ?lRatio_power ?cRatio_power ?kRatio_power ?aRatio_pow ?iRatio_pow ?lRatio_pow ?cRatio_pow ?kRatio_pow ?hSF ?zrP ?ziP ?zjP ?neC ?scI ?siStr ?sfStr ?siTup ?sfTup ?siLst ?sfLst ?siNon ?sfNon ?apool ?lpool ?cpool ?kpool ?amix ?lmix ?cmix ?kmix ?adraw ?ldraw ?cdraw ?kdraw ?awide ?lwide ?cwide ?kwide ?aany ?lany ?cany ?kany ?aeither ?leither ?ceither ?keither ?agcd ?lgcd ?cgcd ?kgcd ?awhole ?lwhole ?cwhole ?kwhole ?aratio ?lratio ?cratio ?kratio ?aexact ?lexact ?cexact ?kexact ?asigns ?lsigns ?csigns ?ksigns ?awritten ?lwritten ?cwritten ?kwritten ?apower_refused ?lpower_refused ?cpower_refused ?kpower_refused ?apowered ?lpowered ?cpowered ?kpowered ?ais_number ?lis_number ?cis_number ?kis_number ?aas_ratio ?las_ratio ?cas_ratio ?kas_ratio ?atop_of ?ltop_of ?ctop_of ?ktop_of ?aunder_of ?lunder_of ?cunder_of ?kunder_of ?alaw ?llaw ?claw ?klaw
    (case zlen => k_is)
    (case zint => k_is)
    (case zabs => k_is)
    (case zrange => k_is)
    (case zisinstance => k_is)
    (case zmax => k_is)
    (case zmin => k_is)
    (case zsum => k_is)
    (case zstr => k_is)
    (case zbool => k_is)
    (case zlist => k_is)
    (case zValueError => k_is)
    (case aC => k_is)
    (case pgC => k_is)
    (case hdC => k_is)
    (case poC => k_is)
    (case saC => k_is)
    (case mkC => k_is)
    (case kcC => k_is)
    (case nTC => k_is)
    (case nUC => k_is)
    (case haC => k_is)
    (case hnO => k_is)
    (case htO => k_is)
    (case hmC => k_is)
    (case siC => k_is)
    (case tyC => k_is)
    (case aRatio_init => k_is)
    (case iRatio_init => k_is)
    (case lRatio_init => k_is)
    (case cRatio_init => k_is)
    (case kRatio_init => k_is)
    (case lD => k_is)
    (case aGcd => k_is)
    (case aLE => k_is)
    (case hdLE => k_is)
    (case teLE => k_is)
    (case aBN => k_is)
    (case xBN => k_is)
    (case saBN => k_is)
    (case keBN => k_is)
    (case beBN => k_is)
    (case teBN => k_is)
    (case seBN => k_is)
    (case geBN => k_is)
    (case ggBN => k_is)
    (case hdBN => k_is)
    (case hcBN => k_is)
    (case hoBN => k_is)
    (case veBN => k_is)
    (case fnBN => k_is)
    (case fvBN => k_is)
    (case aBadNumber_init => k_is)
    (case tBadNumber_init => k_is)
    (case lBadNumber_init => k_is)
    (case cBadNumber_init => k_is)
    (case kBadNumber_init => k_is)
    (case sBNLE => k_is)
    (case kmV => decide +kernel)
    (case kmI => decide +kernel)
    (case aZU => k_is)
    (case xZU => k_exc)
    (case keZU => k_is)
    (case beZU => k_is)
    (case teZU => k_is)
    (case seZU => k_is)
    (case geZU => k_is)
    (case ggZU => k_is)
    (case hdZU => k_is)
    (case hcZU => k_is)
    (case hoZU => k_is)
    (case veZU => k_is)
    (case sBNZU => k_is)
    (case aMP => k_is)
    (case aRatio_lt => k_is)
    (case iRatio_lt => k_is)
    (case lRatio_lt => k_is)
    (case cRatio_lt => k_is)
    (case kRatio_lt => k_is)
    (case aRatio_le => k_is)
    (case iRatio_le => k_is)
    (case lRatio_le => k_is)
    (case cRatio_le => k_is)
    (case kRatio_le => k_is)
    (case aRatio_gt => k_is)
    (case iRatio_gt => k_is)
    (case lRatio_gt => k_is)
    (case cRatio_gt => k_is)
    (case kRatio_gt => k_is)
    (case aRatio_ge => k_is)
    (case iRatio_ge => k_is)
    (case lRatio_ge => k_is)
    (case cRatio_ge => k_is)
    (case kRatio_ge => k_is)
    (case aRatio_eq => k_is)
    (case iRatio_eq => k_is)
    (case lRatio_eq => k_is)
    (case cRatio_eq => k_is)
    (case kRatio_eq => k_is)
    (case aRatio_bool => k_is)
    (case iRatio_bool => k_is)
    (case lRatio_bool => k_is)
    (case cRatio_bool => k_is)
    (case kRatio_bool => k_is)
    (case aRatio_str => k_is)
    (case iRatio_str => k_is)
    (case lRatio_str => k_is)
    (case cRatio_str => k_is)
    (case kRatio_str => k_is)
    (case aRatio_power => k_is)
    (case iRatio_power => k_is)
    (case lRatio_power => k_is)
    (case cRatio_power => k_is)
    (case kRatio_power => k_is)
    (case aRatio_pow => k_is)
    (case iRatio_pow => k_is)
    (case lRatio_pow => k_is)
    (case cRatio_pow => k_is)
    (case kRatio_pow => k_is)
    (case hSF => k_is)
    (case zrP => k_is)
    (case ziP => k_is)
    (case zjP => k_is)
    (case neC => k_is)
    (case scI => k_is)
    (case siStr => k_is)
    (case sfStr => k_is)
    (case siTup => k_is)
    (case sfTup => k_is)
    (case siLst => k_is)
    (case sfLst => k_is)
    (case siNon => k_is)
    (case sfNon => k_is)
    (case apool => k_is)
    (case lpool => k_is)
    (case cpool => k_is)
    (case kpool => k_is)
    (case amix => k_is)
    (case lmix => k_is)
    (case cmix => k_is)
    (case kmix => k_is)
    (case adraw => k_is)
    (case ldraw => k_is)
    (case cdraw => k_is)
    (case kdraw => k_is)
    (case awide => k_is)
    (case lwide => k_is)
    (case cwide => k_is)
    (case kwide => k_is)
    (case aany => k_is)
    (case lany => k_is)
    (case cany => k_is)
    (case kany => k_is)
    (case aeither => k_is)
    (case leither => k_is)
    (case ceither => k_is)
    (case keither => k_is)
    (case agcd => k_is)
    (case lgcd => k_is)
    (case cgcd => k_is)
    (case kgcd => k_is)
    (case awhole => k_is)
    (case lwhole => k_is)
    (case cwhole => k_is)
    (case kwhole => k_is)
    (case aratio => k_is)
    (case lratio => k_is)
    (case cratio => k_is)
    (case kratio => k_is)
    (case aexact => k_is)
    (case lexact => k_is)
    (case cexact => k_is)
    (case kexact => k_is)
    (case asigns => k_is)
    (case lsigns => k_is)
    (case csigns => k_is)
    (case ksigns => k_is)
    (case awritten => k_is)
    (case lwritten => k_is)
    (case cwritten => k_is)
    (case kwritten => k_is)
    (case apower_refused => k_is)
    (case lpower_refused => k_is)
    (case cpower_refused => k_is)
    (case kpower_refused => k_is)
    (case apowered => k_is)
    (case lpowered => k_is)
    (case cpowered => k_is)
    (case kpowered => k_is)
    (case ais_number => k_is)
    (case lis_number => k_is)
    (case cis_number => k_is)
    (case kis_number => k_is)
    (case aas_ratio => k_is)
    (case las_ratio => k_is)
    (case cas_ratio => k_is)
    (case kas_ratio => k_is)
    (case atop_of => k_is)
    (case ltop_of => k_is)
    (case ctop_of => k_is)
    (case ktop_of => k_is)
    (case aunder_of => k_is)
    (case lunder_of => k_is)
    (case cunder_of => k_is)
    (case kunder_of => k_is)
    (case alaw => k_is)
    (case llaw => k_is)
    (case claw => k_is)
    (case klaw => k_is)
