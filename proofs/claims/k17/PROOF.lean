import PyProof.Rows.All
import Wide.All
import OpenK.AllK
import Wide.FinOn
import PyProof.NoPylong
import HandS.ForMost
import HandS.ForExc
import HandS.Wide
import HandS.Gcd
import HandS.IsInst
import HandS.ExcIs
import HandS.Property
import HandS.Defaults
import HandS.CallSlots
import HandS.ExcInit
import HandS.ExcField
import KE.KOpsOwn
import HandS.ClsMeth
import HandS.Evl
import KE.KCallOwn
import KE.KFmtOwn
import HandS.FStr
import PyProof.Rows.Range3
import PySem.Challenge.RW_fieldlots_k17_lines
set_option Elab.async false
set_option linter.all false
set_option maxRecDepth 100000
namespace Fl
open PySem PySem.Spec PyProof.Rows L2
/-! ### calls by a promise that names no address -/
structure Cal (P : Program) (w : World) (K : PySem.W.Frag) (mg : Str → Option Value) (base : Heap) (k : Nat) (x : Str) (ps : List Str) (sp : Sp) : Prop where
  ex : ∃ (f : Addr) (fd : FuncData), FnOk P w K mg base CX0 k f fd ps sp ∧ mg x = some (.ref f) ∧ PySem.W.keepIn K (.ref f) = true ∧ Binds K fd ps []
structure Dfn (K : PySem.W.Frag) (mg : Str → Option Value) (x qual : Str) (st : Stmt) (ps : List Str) : Prop where
  ex : ∃ (f : Addr) (fd : FuncData), Fun K x qual st f fd ∧ mg x = some (.ref f) ∧ Binds K fd ps []
section
variable {P : Program} {w : World} {K : PySem.W.Frag} {mg : Str → Option Value} {base : Heap}
theorem Dfn.cal {x qual : Str} {st : Stmt} {N ps : List Str} {k : Nat} {sp : Sp} (D : Dfn K mg x qual st ps) (S : FnScope N ps (defScope st)) (len : ∀ vs H Q E, sp vs H Q E → vs.length = ps.length)
    (hbody : ∀ (f : Addr) (cdv : Value) (A : Around) (outer : List Env) (s : Shared) (H : Hp) (vs : List V) (Q : VK) (E : XK), Room k (A.deeper (envOfC qual (defScope st) s.heap.objs.size f cdv)) → sp vs H Q E →
      ∃ t, PSs (cxOf CX0 P w K mg base N qual (defScope st) f cdv A outer s H E).nox (defBody st) t ∧ t { nx := fun _ H' => Q .non H', rt := Q } (start N vs) H) : Cal P w K mg base (k + 1) x ps sp := by
  obtain ⟨f, fd, F, m, b⟩ := D.ex
  exact ⟨f, fd, F.ok S len (hbody f), m, F.kp, b⟩
theorem Cal.mono {j k : Nat} {x : Str} {ps : List Str} {sp : Sp} (C : Cal P w K mg base j x ps sp) (h : j ≤ k) : Cal P w K mg base k x ps sp := by
  obtain ⟨f, fd, F, m, kp, b⟩ := C.ex
  exact ⟨f, fd, F.mono h, m, kp, b⟩
end
theorem pe_cal {X : Cx} {k : Nat} {x : Str} {ps : List Str} {sp : Sp} {p pos : Pos} {e : Expr} {es : List Expr} {t : TA} (C : Cal X.prog X.w X.K X.mg X.base k x ps sp) (hr : Room k X.A) (ha : PA X (e :: es) t) (hg : Gl X x := by rfl)
    (hdb : (x == ("__debug__" : Str)) = false := by decide) (he : starEach (e :: es) X.env = (false, eval e X.env) :: starEach es X.env := by rfl) (hpl : (backTo pos (starEach es X.env)).any (·.1) = false := by rfl) :
    PE X (.Call (.Name x p) (e :: es) [] pos) (tCall sp [] E0 t) := by
  obtain ⟨f, fd, F, m, kp, b⟩ := C.ex
  exact pe_call F hr hg m kp b .nil pass0 ha hdb he hpl
/-- the built-in names that the text leaves alone -/
structure Blt (mg : Str → Option Value) : Prop where
  len : mg "len" = none
  int : mg "int" = none
  abs : mg "abs" = none
  range : mg "range" = none
  isinstance : mg "isinstance" = none
  max : mg "max" = none
  min : mg "min" = none
  sum : mg "sum" = none
  str : mg "str" = none
  bool : mg "bool" = none
  list : mg "list" = none
  ve : mg "ValueError" = none
/-! ### great numbers -/
def CDivA (_ j : Int) : Prop := j ≠ 0 ∧ j.natAbs.log2 < 9000
theorem op_fdivA {X : Cx} : OpR X (binaryOp .FloorDiv) (rI CDivA fun i j => .int (i.fdiv j)) := opI fun i j _ _ _ _ _ hc q => floordiv_int hc.1 q (.inl (PyProof.noPylong_of_log2 hc.2))
theorem divA {i j : Int} {b : Nat} (h : j ≠ 0) (hb : j.natAbs < 2 ^ b) (h0 : 0 < b) (h9 : b ≤ 9000) : CDivA i j := ⟨h, Nat.lt_of_lt_of_le (PySem.Flt.log2_lt_of h0 hb) h9⟩
/-! ### heaps -/
/-- all that was tracked is as it was, but for p -/
def Keeps (H H' : Hp) (p : Addr) : Prop := ∀ b o, H b = some o → b ≠ p → H' b = some o
theorem Keeps.refl (H : Hp) (p : Addr) : Keeps H H p := fun _ _ h _ => h
theorem Keeps.trans {H H1 H2 : Hp} {p : Addr} (a : Keeps H H1 p) (b : Keeps H1 H2 p) : Keeps H H2 p := fun c o h n => b c o (a c o h n) n
theorem Keeps.upd {H : Hp} {p : Addr} {o : HO} : Keeps H (upd H p o) p := fun b u h n => by rw [upd_ne n]; exact h
theorem same_keeps {H H' : Hp} {p : Addr} (h : Same H H') : Keeps H H' p := fun b o e _ => h b o e
theorem same_upd {H : Hp} {p : Addr} {o : HO} (h : H p = none) : Same H (upd H p o) := fun b u e => by rw [upd_ne (ne_of_none e h)]; exact e
theorem Keeps.free {H H' : Hp} {p l : Addr} (k : Keeps H H' p) (h : H' l = none) (n : l ≠ p) : H l = none := by
  cases q : H l with
  | none => rfl
  | some o =>
    rw [k l o q n] at h
    cases h
theorem ints_at {ns : List Int} {j : Nat} (h : j < ns.length) : (ns.map V.int)[j]? = some (V.int ns[j]) := by
  rw [List.getElem?_map, List.getElem?_eq_getElem h]
  rfl
theorem int_of_map {ns : List Int} {i : Nat} {y : V} (h : (ns.map V.int)[i]? = some y) : ∃ z, ns[i]? = some z ∧ y = V.int z := by
  rw [List.getElem?_map] at h
  cases e : ns[i]? with
  | none => rw [e] at h; cases h
  | some z => rw [e] at h; exact ⟨z, rfl, (Option.some.inj h).symm⟩
/-- where the pool stands: its own list, the script's numbers -/
structure Pla where
  p : Addr
  q : Addr
instance : Coe Pla Addr := ⟨Pla.p⟩
/-- the pool: the script's numbers, how many are taken, what is left of one, a state, the draws -/
def Pool (H : Hp) (p : Pla) : Prop := ∃ (ns : List Int) (i b c d : Int), H p = some (.lst [.ref p.q, .int i, .int b, .int c, .int d]) ∧ H p.q = some (.lst (ns.map V.int)) ∧ 0 ≤ i ∧ p.q ≠ p
theorem Pool.same {H H' : Hp} {p : Pla} (h : Pool H p) (s : Same H H') : Pool H' p := by
  obtain ⟨ns, i, b, c, d, h1, h2, h3, h4⟩ := h
  exact ⟨ns, i, b, c, d, s _ _ h1, s _ _ h2, h3, h4⟩
theorem Pool.upd {H : Hp} {p : Pla} {x : Addr} {o : HO} (h : Pool H p) (hx : H x = none) : Pool (upd H x o) p := h.same (same_upd hx)
theorem Pool.store {H : Hp} {p : Pla} {x : Addr} {o : HO} (h : Pool H p) (hp : x ≠ p) (hq : x ≠ p.q) : Pool (L2.upd H x o) p := by
  obtain ⟨ns, i, b, c, d, h1, h2, h3, h4⟩ := h
  exact ⟨ns, i, b, c, d, by rw [upd_ne (Ne.symm hp)]; exact h1, by rw [upd_ne (Ne.symm hq)]; exact h2, h3, h4⟩
theorem Pool.apart {H : Hp} {p : Pla} {x : Addr} (h : Pool H p) (hx : H x = none) : x ≠ p ∧ x ≠ p.q := by
  obtain ⟨ns, i, b, c, d, h1, h2, _⟩ := h
  exact ⟨Ne.symm (ne_of_none h1 hx), Ne.symm (ne_of_none h2 hx)⟩
/-! ### tests -/
theorem ifD {p : Prop} [Decidable p] {A B : Prop} (h1 : p → A) (h2 : ¬ p → B) : if decide p = true then A else B := by
  by_cases h : p
  · rw [decide_eq_true h]; exact iteT (h1 h)
  · rw [decide_eq_false h]; exact iteF (h2 h)
theorem ifE {a b : Int} {A B : Prop} (h1 : a = b → A) (h2 : a ≠ b → B) : if decide (V.int a = V.int b) = true then A else B :=
  ifD (fun h => h1 (V.int.inj h)) fun h => h2 fun e => h (by rw [e])
theorem ifNE {a b : Int} {A B : Prop} (h1 : a ≠ b → A) (h2 : a = b → B) : if (!decide (V.int a = V.int b)) = true then A else B := by
  by_cases h : a = b
  · rw [decide_eq_true (show V.int a = V.int b by rw [h])]; exact iteF (h2 h)
  · rw [decide_eq_false (show ¬ V.int a = V.int b from fun e => h (V.int.inj e))]; exact iteT (h1 h)
theorem ifN {p : Prop} [Decidable p] {A B : Prop} (h1 : ¬ p → A) (h2 : p → B) : if (!decide p) = true then A else B := by
  by_cases h : p
  · rw [decide_eq_true h]; exact iteF (h2 h)
  · rw [decide_eq_false h]; exact iteT (h1 h)
theorem ifB {c : Bool} {A B : Prop} (h1 : c = true → A) (h2 : c = false → B) : if c = true then A else B := by
  cases c
  · exact iteF (h2 rfl)
  · exact iteT (h1 rfl)
theorem fm (a : Int) {b : Int} (h : 0 < b) : 0 ≤ a.fmod b ∧ a.fmod b < b := ⟨Int.fmod_nonneg_of_pos a h, Int.fmod_lt_of_pos a h⟩
/-! ### Euclid's steps -/
def fibp : Nat → Nat × Nat
  | 0 => (0, 1)
  | n + 1 => match fibp n with | (a, b) => (b, a + b)
def Eu : Nat → Nat → Nat → Prop
  | 0, _, y => y = 0
  | n + 1, x, y => y = 0 ∨ Eu n y (x % y)
theorem eu_mono : ∀ {n x y : Nat}, Eu n x y → Eu (n + 1) x y
  | 0, _, _, h => .inl h
  | _ + 1, _, _, .inl h => .inl h
  | n + 1, _, _, .inr h => .inr (eu_mono (n := n) h)
theorem fibp_step (n : Nat) : (fibp (n + 1)).1 = (fibp n).2 ∧ (fibp (n + 1)).2 = (fibp n).1 + (fibp n).2 := by
  show (match fibp n with | (a, b) => (b, a + b)).1 = _ ∧ (match fibp n with | (a, b) => (b, a + b)).2 = _
  cases fibp n
  exact ⟨rfl, rfl⟩
theorem eu_fib : ∀ (n x y : Nat), (y < (fibp n).2 → Eu n x y) ∧ (y < (fibp (n + 1)).2 → Eu (n + 1) x y) := by
  intro n
  induction n with
  | zero =>
    intro x y
    refine ⟨fun h => ?_, fun h => .inl ?_⟩
    · have h' : y < 1 := h
      show y = 0
      omega
    · have h' : y < 1 := h
      omega
  | succ n ih =>
    intro x y
    refine ⟨(ih x y).2, fun h => ?_⟩
    rw [(fibp_step (n + 1)).2, (fibp_step n).1] at h
    by_cases hy : y = 0
    · exact .inl hy
    refine .inr ?_
    have hr : x % y < y := Nat.mod_lt _ (by omega)
    by_cases hc : x % y < (fibp (n + 1)).2
    · exact (ih y (x % y)).2 hc
    · by_cases h0 : x % y = 0
      · exact .inl h0
      refine .inr ?_
      refine (ih (x % y) (y % (x % y))).1 ?_
      have e : y % (x % y) ≤ y - x % y := by
        rw [Nat.mod_eq_sub_mod (Nat.le_of_lt hr)]
        exact Nat.mod_le _ _
      omega
theorem fib_big : 10 ^ 124 ≤ (fibp 599).2 := by decide +kernel
theorem eu_all {x y : Nat} (h : y < 10 ^ 124) : Eu 599 x y := (eu_fib 599 x y).1 (Nat.lt_of_lt_of_le h fib_big)
end Fl

set_option Elab.async false
set_option linter.all false
set_option maxRecDepth 100000
set_option maxHeartbeats 4000000
namespace Fl
section
open PySem PySem.W PySem.Spec PySem.Calls PyProof.Rows
variable {prog : Program} {w : World} {A : Around} {E : Value → Shared → Prop} {s : Shared} {K : Frag} {x D : Addr} {ox : Obj} {od : Option Obj}
theorem findObj_dataE {C : Addr} {name : Str} {a g : Value} (hc : (clsIn K C).isSome = true) (ha : findIn K (.ref C) name = some (some a)) (hg : specialIn K a "__get__" = some (some g)) (ht : takesIn K a = some true) : findObj K C od name = some (.bind g a) := by
  obtain ⟨cd, hc⟩ := Option.isSome_iff_exists.mp hc
  unfold findObj
  rw [hc, Option.bind_some, ha, Option.bind_some]
  simp [hg, ht]
/-- __class__ of an exception of an own class, with or without a dict of its own -/
theorem kin_classX {Q : Option Value → Shared → Prop} (gAt : findIn K (.ref D) "__getattribute__" = some (some (.builtin "BaseException.__getattribute__"))) (gGt : findIn K (.ref D) "__getattr__" = some none) (sBe : subIn K (.ref D) (.type "BaseException") = some true)
    (dDc : hasDictIn K D = true) (ha : findIn K (.ref D) "__class__" = some (some (.builtin "object.__class__")))
    (hn : specialIn K (.builtin "object.__class__") "__get__" = some (some (.builtin "getset_descriptor.__get__"))) (tTk : takesIn K (.builtin "object.__class__") = some true) (hm : mroIn K D (.type "object") = some true)
    (X : K.In s.heap) (I : InstAt s.heap x ox D od) (h : Q (some (.ref D)) { s with toks := s.toks + 1 }) : wpAny (model prog w) A (getAttr? (.ref x) "__class__") Q E s := by
  have fnd : findObj K D od "__class__" = some (.bind (.builtin "getset_descriptor.__get__") (.builtin "object.__class__")) := findObj_dataE (by obtain ⟨cd, hc, _⟩ := any_some dDc; rw [hc]; rfl) ha hn tTk
  obtain ⟨heap0, g, d, t, os⟩ := s
  have lkT := I.type (M := model prog w)
  have lkG := looks_findIn (M := model prog w) X gAt
  have lkA := looks_findIn (M := model prog w) X gGt
  have lkF := looks_find (M := model prog w) X I fnd
  have isBe : Looks (model prog w) heap0 (isInstance (.ref x) (.type "BaseException")) true := lkT.andThen (looks_subIn X sBe)
  have nb0 : (false && onTheHeap (Value.builtin "BaseException.__getattribute__")) = false := rfl
  have nb2 : (Value.builtin "BaseException.__getattribute__" == Value.builtin "object.__getattribute__") = false := by decide +kernel
  have nb1 : (onTheHeap (Value.ref D) && Value.builtin "BaseException.__getattribute__" == Value.builtin "object.__getattribute__") = false := by rw [nb2]; rfl
  unfold getAttr? getAttrBy? getAttrBy
  refine wpAny_bind (wpAny_mkText (wpAny_bind (wpAny_attempt (wpAny_holding (wpAny_bind (lkT.at (wpAny_bind (lkG.at ?_))))))))
  show wpAny _ _ (if (onTheHeap (Value.ref D) && Value.builtin "BaseException.__getattribute__" == Value.builtin "object.__getattribute__") = true then _ else _) _ _ _
  rw [nb1, if_neg Bool.false_ne_true]
  unfold getAttrByItsOwn hookBefore
  refine wpAny_bind ?_
  rw [if_pos (show onTheHeap (Value.ref D) = true from rfl)]
  refine lkA.at ?_
  refine wpAny_bind (wpAny_attempt (wpAny_holding ?_))
  unfold callGetattribute
  rw [nb0, if_neg Bool.false_ne_true]
  unfold boundAndCalled
  rw [PySem.F.excAttr_ValueError.ga.bind (.ref x)]
  refine wpAny_bind (wpAny_pure ?_)
  show wpAny _ _ (call (.builtin "BaseException.__getattribute__") [.ref x, .str "__class__" t]) _ _ _
  refine wpAny_call (codeAny_call_builtin PySem.F.excAttr_ValueError.ga.plain PySem.F.entry_bexc_ga ?_)
  refine @check_slot (model prog w) _ _ ⟨heap0, g, d, t + 1, os⟩ "BaseException.__getattribute__" "BaseException" "__getattribute__" (.ref x) [.str "__class__" t] [] _ (by decide +kernel) (by decide +kernel) isBe (PySem.F.args_bexc_ga (.ref x) (.str "__class__" t)) ?_
  unfold Builtin.«object.__getattribute__»
  refine wpAny_bind (wpAny_of_eq (a := ((Value.ref x : Value), [Value.str "__class__" t])) (by first | rfl | (simp only [slotArgs]; rfl)) ?_)
  refine wpAny_bind (wpAny_pure (wpAny_bind (lkT.at (wpAny_bind (lkF.at ?_)))))
  show wpAny _ _ (holding [Value.builtin "object.__class__"] (call (.builtin "getset_descriptor.__get__") [.builtin "object.__class__", .ref x, .ref D]) >>= ret) _ _ _
  refine wpAny_bind (wpAny_holding (wpAny_call (class_get (s := ⟨heap0, g, d, t + 1, os⟩) (ox := ox) (od := od) X I hm ?_)))
  refine wpAny_pure ?_
  show wpAny _ _ (handedOut (.ref D)) _ _ _
  rw [handedOut_of (v := .ref D) rfl]
  first
    | exact wpAny_pure (wpAny_pure h)
    | exact wpAny_pure h
    | exact wpAny_pure (wpAny_bind (wpAny_pure (wpAny_pure h)))
theorem kitx_excX (gAt : findIn K (.ref D) "__getattribute__" = some (some (.builtin "BaseException.__getattribute__"))) (gGt : findIn K (.ref D) "__getattr__" = some none) (sBe : subIn K (.ref D) (.type "BaseException") = some true) (dDc : hasDictIn K D = true) (ha : findIn K (.ref D) "__class__" = some (some (.builtin "object.__class__")))
    (hn : specialIn K (.builtin "object.__class__") "__get__" = some (some (.builtin "getset_descriptor.__get__"))) (tTk : takesIn K (.builtin "object.__class__") = some true) (hm : mroIn K D (.type "object") = some true) :
    KitX K (.ref x) (.ref D) (fun h => InstAt h x ox D od) where
  ty := fun _ _ _ I => I.type
  it := fun _ _ X _ => by
    obtain ⟨cdE, hcE, _⟩ := any_some dDc
    unfold clsIn at hcE
    split at hcE
    · rename_i c' d' cd' sl' ho
      intro A' Q' E' s' k q
      unfold isType loadHead
      exact wpAny_bind (wpAny_loadPart (k _ _ (X _ _ ho)) (wpAny_pure q))
    · cases hcE
  ne := fun h tp dd its n sl X htp => by
    obtain ⟨cdE, hcE, _⟩ := any_some dDc
    refine Bool.eq_false_iff.mpr fun q => ?_
    have e : D = tp := Value.ref.inj (beq_iff_eq.mp q)
    subst e
    unfold clsIn at hcE
    split at hcE
    · rename_i c' d' cd' sl' ho
      have z := (X _ _ ho).symm.trans htp
      cases z
    · cases hcE
  ca := fun X I k => kin_classX gAt gGt sBe dDc ha hn tTk hm X I k
end
section
open PySem PySem.Spec PyProof.Rows L2
/-- the caught error at a: of the class D, its dict d -/
def Err (H : Hp) (d : Option Addr) : Prop := d = none ∨ ∃ dd fs, d = some dd ∧ H dd = some (.xd fs)
theorem exc_inst {X : Cx} {a D : Addr} {oe : Obj} {pn pins : List (Addr × Obj)} {d : Option Addr} {σ : L2.St} {H : Hp} {s : Shared} (hz : Zc (.ref D) d oe) (hf : ∃ vs, oe.data = .fields vs) (I : Inv (X.suite a ((a, oe) :: pn)) pins σ H s) (he : Err H d) :
    ∃ od, PySem.W.InstAt s.heap a oe D od := by
  obtain ⟨hget, _⟩ := I.pin (a, oe) (List.mem_append.mpr (.inl List.mem_cons_self))
  obtain ⟨vs, hv⟩ := hf
  obtain ⟨oc, oda, odt, osl⟩ := oe
  obtain ⟨h1, h2⟩ := hz
  dsimp only at h1 h2 hv
  subst h1 h2 hv
  rcases he with rfl | ⟨dd, fs, rfl, hd⟩
  · exact ⟨none, hget, rfl, rfl, trivial⟩
  · have hx : ObjOk X.prog X.w H s.heap dd (.xd fs) := I.hok dd _ hd
    obtain ⟨mA, hns, hr⟩ := hx
    obtain ⟨od, ho, hl⟩ := lookIn_ns hns
    exact ⟨some od, hget, rfl, rfl, ho⟩
def rIsX (K : PySem.W.Frag) (D a : Addr) (cls : Value) (d : Option Addr) : List V → Hp → VK → Prop := fun xs H Q => cls = .ref D ∧ Err H d ∧ ∃ (c : V) (cv : Value) (b : Bool), xs = [.ref a, c] ∧ ClsV c cv ∧ PySem.W.kitOne K (.ref D) cv = some b ∧ Q (.bl b) H
def rIsXT (K : PySem.W.Frag) (D a : Addr) (cls : Value) (d : Option Addr) : List V → Hp → VK → Prop := fun xs H Q => cls = .ref D ∧ Err H d ∧ ∃ (tp : Addr) (cs : List V) (us : List Value) (b : Bool), xs = [.ref a, .ref tp] ∧ H tp = some (.tup cs) ∧ Paired ClsV cs us ∧ PySem.W.kitAny K (.ref D) us = some b ∧ Q (.bl b) H
theorem call_isX {X : Cx} {a D : Addr} {cls : Value} {d : Option Addr} {oe : Obj} {pn : List (Addr × Obj)} (C : ExcC X.K D) (hz : Zc cls d oe) (hf : ∃ vs, oe.data = .fields vs) : CallR (X.suite a ((a, oe) :: pn)) (.builtin "isinstance") (rIsX X.K D a cls d) := by
  intro pins s σ H xs us Q I r h
  obtain ⟨rfl, he, c, cv, b, rfl, hcv, e, q⟩ := h
  obtain ⟨od, J⟩ := exc_inst hz hf I he
  obtain ⟨u1, u2, rfl, r1, r2⟩ := vals2 r
  have ec := hcv.eq r2
  subst ec
  cases (show u1 = Value.ref a from r1)
  exact PySem.W.kia_one (kitx_excX C.hg C.hk C.hs C.hd C.ha C.hn C.ht C.hm) I.kIn J e (fun z => nomatch z) fun tk => ⟨.bl b, H, I.kept (t' := tk) fun _ _ z => z, rfl, q⟩
theorem call_isXT {X : Cx} {a D : Addr} {cls : Value} {d : Option Addr} {oe : Obj} {pn : List (Addr × Obj)} (C : ExcC X.K D) (hz : Zc cls d oe) (hf : ∃ vs, oe.data = .fields vs) : CallR (X.suite a ((a, oe) :: pn)) (.builtin "isinstance") (rIsXT X.K D a cls d) := by
  intro pins s σ H xs us Q I r h
  obtain ⟨rfl, he, tp, cs, ws, b, rfl, hT, k, e, q⟩ := h
  obtain ⟨od, J⟩ := exc_inst hz hf I he
  obtain ⟨u1, u2, rfl, r1, r2⟩ := vals2 r
  cases (show u1 = Value.ref a from r1)
  cases (show u2 = Value.ref tp from r2)
  obtain ⟨_, its, rv, o, h1, h2, n, h3⟩ := (show ObjOk X.prog X.w H s.heap tp (.tup cs) from I.hok tp _ hT)
  have e3 := ClsV.all k rv
  subst e3
  obtain ⟨oc, od', dt, sl⟩ := o
  simp only at h2 h3
  subst h2 h3
  exact PySem.W.kia_tup (kitx_excX C.hg C.hk C.hs C.hd C.ha C.hn C.ht C.hm) I.kIn J h1 e (fun z => nomatch z) fun tk => ⟨.bl b, H, I.kept (t' := tk) fun _ _ z => z, rfl, q⟩
/-! ### making an instance where what is raised is wished for at the caller's slots -/
def tMakeS (C : Addr) (sp : Sp) (dvs : List V) (E : L2.St → XK) (t : TA) : TE := fun σ H Q => t σ H fun vs H1 => ∀ x dx, H1 x = none → H1 dx = none → dx ≠ x →
  sp (.ref x :: (vs ++ dvs)) (upd (upd H1 dx (.own x)) x (.ins C dx [])) (fun v H2 => v = .non ∧ Q (.ref x) H2) (E σ)
section
variable {X : Cx} {CX : CXT} {k : Nat} {f C : Addr} {fd : FuncData} {ps : List Str} {sp : Sp} {dvs : List V} {ds : List Value} {E : L2.St → XK} {x m : Str} {p pos apos : Pos} {e o : Expr} {es : List Expr} {ta : TE} {t : TA}
theorem run_makeS {pins : List (Addr × Obj)} {σ : L2.St} {H : Hp} {s : Shared} {Q : VK} {us : List Value} {vs : List V} (M : Mk X.K C f) (F : FnOk X.prog X.w X.K X.mg X.base CX k f fd ps sp) (hr : Room (k + 1) X.A) (hb : Binds X.K fd ps ds) (hd : Vals dvs ds)
    (hx : PassesAt CX X σ (E σ)) (I : Inv X pins σ H s) (r : Vals vs us)
    (h : ∀ x dx, H x = none → H dx = none → dx ≠ x → sp (.ref x :: (vs ++ dvs)) (upd (upd H dx (.own x)) x (.ins C dx [])) (fun v H2 => v = .non ∧ Q (.ref x) H2) (E σ)) :
    wpAny (model X.prog X.w) X.A (call (.ref C) us) (EP X pins σ Q) X.xe s := by
  have hnew := h (s.heap.objs.size + 1) s.heap.objs.size (I.hok.fresh (Nat.le_succ _)) (I.hok.fresh (Nat.le_refl _)) (Nat.ne_of_lt (Nat.lt_succ_self _))
  have Inew := Inv.made (C := C) I
  have rAll : Vals (V.ref (s.heap.objs.size + 1) :: (vs ++ dvs)) (Value.ref (s.heap.objs.size + 1) :: (us ++ ds)) := .cons rfl (r.append hd)
  have hlen : (Value.ref (s.heap.objs.size + 1) :: us ++ ds).length = ps.length := by
    have e := rAll.length
    rw [F.len _ _ _ _ hnew] at e
    exact e.symm
  refine wpAny_call (make_map (f := f) I.kIn M.makes M.init (beq_iff_eq.mp M.fn) (codeAny_mono (F.run _ X.stack _ _ ⟨Value.ref (s.heap.objs.size + 1) :: us, []⟩ (Value.ref (s.heap.objs.size + 1) :: (us ++ ds)) _ _ (E σ) (hr.make C us [])
    (Inew.env0.make C us []) (hb _ (Value.ref (s.heap.objs.size + 1) :: us) Inew.kIn hlen) rAll hnew) fun r s' hend => ?_))
  cases r with
  | error e => exact hx pins _ _ e s' Inew hend
  | ok fl =>
    cases fl with
    | ret u =>
      obtain ⟨v, H', Iend, rVal, ev, qEnd⟩ := Inew.after hend
      subst ev
      exact ⟨rVal, ⟨V.ref (s.heap.objs.size + 1), H', Iend, rfl, qEnd⟩⟩
    | next => exact False.elim hend
    | brk => exact False.elim hend
    | cont => exact False.elim hend
theorem pe_makeS (M : Mk X.K C f) (F : FnOk X.prog X.w X.K X.mg X.base CX k f fd ps sp) (hr : Room (k + 1) X.A) (hg : Gl X x) (hm : X.mg x = some (.ref C)) (hb : Binds X.K fd ps ds) (hd : Vals dvs ds) (hx : ∀ σ, PassesAt CX X σ (E σ))
    (ha : PA X (e :: es) t) (hdb : (x == ("__debug__" : Str)) = false := by decide) (he : starEach (e :: es) X.env = (false, eval e X.env) :: starEach es X.env := by rfl) (hpl : (backTo pos (starEach es X.env)).any (·.1) = false := by rfl) :
    PE X (.Call (.Name x p) (e :: es) [] pos) (tMakeS C sp dvs E t) := by
  refine ⟨fun pins s σ H Q I h => ?_⟩
  refine wpAny_Call_Name_kw (ld_glob I hg hm ?_ hdb)
  refine PySem.W.callWith_K (h₀ := X.base) I.ok.mod.kin M.kp (thn (ha.run pos pins s σ H _ I h) fun us s1 ⟨vs, H1, I1, r, q⟩ => ⟨I1.kIn, ?_⟩) he hpl
  exact run_makeS M F hr hb hd (hx σ) I1 r q
end
/-- a class that is called: C(..), the promise of its __init__; dvs the defaults that fill up -/
structure CalC (P : Program) (w : World) (K : PySem.W.Frag) (mg : Str → Option Value) (base : Heap) (CX : CXT) (k : Nat) (C : Addr) (x : Str) (ps : List Str) (dvs : List V) (sp : Sp) : Prop where
  ex : ∃ (f : Addr) (fd : FuncData) (ds : List Value), Mk K C f ∧ FnOk P w K mg base CX k f fd ps sp ∧ mg x = some (.ref C) ∧ Binds K fd ps ds ∧ Vals dvs ds
theorem pe_mk {X : Cx} {k : Nat} {C : Addr} {x : Str} {ps : List Str} {dvs : List V} {sp : Sp} {p pos : Pos} {e : Expr} {es : List Expr} {t : TA} (M : CalC X.prog X.w X.K X.mg X.base (L2.CX X.prog X.w) k C x ps dvs sp) (hr : Room (k + 1) X.A) (ha : PA X (e :: es) t) (hg : Gl X x := by rfl)
    (hdb : (x == ("__debug__" : Str)) = false := by decide) (he : starEach (e :: es) X.env = (false, eval e X.env) :: starEach es X.env := by rfl) (hpl : (backTo pos (starEach es X.env)).any (·.1) = false := by rfl) :
    PE X (.Call (.Name x p) (e :: es) [] pos) (tMake C sp dvs E0 t) := by
  obtain ⟨f, fd, ds, M, F, m, b, d⟩ := M.ex
  exact pe_make M F hr hg m b d passL ha hdb he hpl
theorem pe_mkS {X : Cx} {W : WX} {k : Nat} {C : Addr} {x : Str} {ps : List Str} {dvs : List V} {sp : Sp} {p pos : Pos} {e : Expr} {es : List Expr} {t : TA} (M : CalC X.prog X.w X.K X.mg X.base (L2.CX X.prog X.w) k C x ps dvs sp) (tk : Takes X W) (hr : Room (k + 1) X.A) (ha : PA X (e :: es) t) (hg : Gl X x := by rfl)
    (hdb : (x == ("__debug__" : Str)) = false := by decide) (he : starEach (e :: es) X.env = (false, eval e X.env) :: starEach es X.env := by rfl) (hpl : (backTo pos (starEach es X.env)).any (·.1) = false := by rfl) :
    PE X (.Call (.Name x p) (e :: es) [] pos) (tMakeS C sp dvs (WE W) t) := by
  obtain ⟨f, fd, ds, M, F, m, b, d⟩ := M.ex
  exact pe_makeS M F hr hg m b d (fun σ => passAt tk σ) ha hdb he hpl
/-! ### a def that may raise -/
structure CalX (P : Program) (w : World) (K : PySem.W.Frag) (mg : Str → Option Value) (base : Heap) (k : Nat) (x : Str) (ps : List Str) (sp : Sp) : Prop where
  ex : ∃ (f : Addr) (fd : FuncData), FnOk P w K mg base (L2.CX P w) k f fd ps sp ∧ mg x = some (.ref f) ∧ PySem.W.keepIn K (.ref f) = true ∧ Binds K fd ps []
theorem Dfn.calX {P : Program} {w : World} {K : PySem.W.Frag} {mg : Str → Option Value} {base : Heap} {x qual : Str} {st : Stmt} {N ps : List Str} {k : Nat} {sp : Sp} (D : Dfn K mg x qual st ps) (S : FnScope N ps (defScope st)) (len : ∀ vs H Q E, sp vs H Q E → vs.length = ps.length)
    (hbody : ∀ (f : Addr) (cdv : Value) (A : Around) (outer : List Env) (s : Shared) (H : Hp) (vs : List V) (Q : VK) (E : XK), Room k (A.deeper (envOfC qual (defScope st) s.heap.objs.size f cdv)) → sp vs H Q E →
      ∃ t, PSs (cxOf (L2.CX P w) P w K mg base N qual (defScope st) f cdv A outer s H E) (defBody st) t ∧ t { nx := fun _ H' => Q .non H', rt := Q } (start N vs) H) : CalX P w K mg base (k + 1) x ps sp := by
  obtain ⟨f, fd, F, m, b⟩ := D.ex
  exact ⟨f, fd, F.okX S len (hbody f), m, F.kp, b⟩
theorem pe_calX {X : Cx} {k : Nat} {x : Str} {ps : List Str} {sp : Sp} {p pos : Pos} {e : Expr} {es : List Expr} {t : TA} (C : CalX X.prog X.w X.K X.mg X.base k x ps sp) (hr : Room k X.A) (ha : PA X (e :: es) t) (hg : Gl X x := by rfl)
    (hdb : (x == ("__debug__" : Str)) = false := by decide) (he : starEach (e :: es) X.env = (false, eval e X.env) :: starEach es X.env := by rfl) (hpl : (backTo pos (starEach es X.env)).any (·.1) = false := by rfl) :
    PE X (.Call (.Name x p) (e :: es) [] pos) (tCall sp [] E0 t) := by
  obtain ⟨f, fd, F, m, kp, b⟩ := C.ex
  exact pe_call F hr hg m kp b .nil passL ha hdb he hpl
theorem pe_calS {X : Cx} {W : WX} {k : Nat} {x : Str} {ps : List Str} {sp : Sp} {p pos : Pos} {e : Expr} {es : List Expr} {t : TA} (C : CalX X.prog X.w X.K X.mg X.base k x ps sp) (tk : Takes X W) (hr : Room k X.A) (ha : PA X (e :: es) t) (hg : Gl X x := by rfl)
    (hdb : (x == ("__debug__" : Str)) = false := by decide) (he : starEach (e :: es) X.env = (false, eval e X.env) :: starEach es X.env := by rfl) (hpl : (backTo pos (starEach es X.env)).any (·.1) = false := by rfl) :
    PE X (.Call (.Name x p) (e :: es) [] pos) (tCallS sp (WE W) t) := by
  obtain ⟨f, fd, F, m, kp, b⟩ := C.ex
  exact pe_callS F hr hg m kp b (fun σ => passAt tk σ) ha hdb he hpl
theorem exm_self {K : PySem.W.Frag} {S : Addr} (h1 : PySem.W.subIn K (.ref S) (.type "BaseException") = some true) (h2 : PySem.W.hasDictIn K S = true) (h3 : PySem.W.typeIn K (.ref S) = some (.type "type")) (h4 : PySem.W.subIn K (.ref S) (.ref S) = some true) :
    PySem.W.exmOne K (.ref S) (.ref S) = some true := PySem.W.exm_ref h1 h2 h3 h4
end
end Fl

set_option Elab.async false
set_option linter.all false
set_option maxRecDepth 100000
set_option maxHeartbeats 4000000
namespace Fl
open PySem PySem.Spec PyProof.Rows L2
/-! ### lowest terms -/
def sh (t u : Int) : Int := if u < 0 then -(Nat.gcd t.natAbs u.natAbs : Nat) else (Nat.gcd t.natAbs u.natAbs : Nat)
def nT (t u : Int) : Int := t.fdiv (sh t u)
def nU (t u : Int) : Int := u.fdiv (sh t u)
theorem sh_abs (t u : Int) : (sh t u).natAbs = Nat.gcd t.natAbs u.natAbs := by
  unfold sh
  split <;> omega
theorem sh_ne {t u : Int} (h : u ≠ 0) : sh t u ≠ 0 := by
  have h1 : 0 < Nat.gcd t.natAbs u.natAbs := Nat.gcd_pos_of_pos_right _ (by omega)
  have := sh_abs t u
  omega
theorem sh_dvd_t (t u : Int) : sh t u ∣ t := Int.natAbs_dvd_natAbs.mp (by rw [sh_abs]; exact Nat.gcd_dvd_left _ _)
theorem sh_dvd_u (t u : Int) : sh t u ∣ u := Int.natAbs_dvd_natAbs.mp (by rw [sh_abs]; exact Nat.gcd_dvd_right _ _)
theorem nT_mul (t u : Int) : nT t u * sh t u = t := by
  unfold nT
  exact Int.fdiv_mul_cancel (sh_dvd_t t u)
theorem nU_mul (t u : Int) : nU t u * sh t u = u := by
  unfold nU
  exact Int.fdiv_mul_cancel (sh_dvd_u t u)
theorem nU_pos {t u : Int} (h : u ≠ 0) : 0 < nU t u := by
  have h1 : 0 < Nat.gcd t.natAbs u.natAbs := Nat.gcd_pos_of_pos_right _ (by omega)
  have e := nU_mul t u
  by_cases hn : u < 0
  · have hs : sh t u < 0 := by
      unfold sh
      rw [if_pos hn]
      omega
    rcases Int.lt_trichotomy (nU t u) 0 with hc | hc | hc
    · have := Int.mul_pos_of_neg_of_neg hc hs
      omega
    · rw [hc] at e
      omega
    · exact hc
  · have hs : 0 < sh t u := by
      unfold sh
      rw [if_neg hn]
      omega
    rcases Int.lt_trichotomy (nU t u) 0 with hc | hc | hc
    · have := Int.mul_neg_of_neg_of_pos hc hs
      omega
    · rw [hc] at e
      omega
    · exact hc
theorem n_cross (t u : Int) : nT t u * u = t * nU t u := by
  have e1 := nT_mul t u
  have e2 := nU_mul t u
  calc nT t u * u = nT t u * (nU t u * sh t u) := by rw [e2]
    _ = nT t u * sh t u * nU t u := by rw [Int.mul_comm (nU t u), Int.mul_assoc]
    _ = t * nU t u := by rw [e1]
theorem n_gcd {t u : Int} (h : u ≠ 0) : Nat.gcd (nT t u).natAbs (nU t u).natAbs = 1 := by
  have h1 : 0 < Nat.gcd t.natAbs u.natAbs := Nat.gcd_pos_of_pos_right _ (by omega)
  have e1 : (nT t u).natAbs * Nat.gcd t.natAbs u.natAbs = t.natAbs := by rw [← sh_abs, ← Int.natAbs_mul, nT_mul]
  have e2 : (nU t u).natAbs * Nat.gcd t.natAbs u.natAbs = u.natAbs := by rw [← sh_abs, ← Int.natAbs_mul, nU_mul]
  have e3 : Nat.gcd ((nT t u).natAbs * Nat.gcd t.natAbs u.natAbs) ((nU t u).natAbs * Nat.gcd t.natAbs u.natAbs) = Nat.gcd t.natAbs u.natAbs := by
    rw [e1, e2]
  rw [Nat.gcd_mul_right] at e3
  exact Nat.eq_of_mul_eq_mul_right h1 (by rw [e3, Nat.one_mul])
theorem nU_le {t u : Int} (h : u ≠ 0) : (nU t u).natAbs ≤ u.natAbs := by
  have h1 : 0 < Nat.gcd t.natAbs u.natAbs := Nat.gcd_pos_of_pos_right _ (by omega)
  have e2 : (nU t u).natAbs * Nat.gcd t.natAbs u.natAbs = u.natAbs := by rw [← sh_abs, ← Int.natAbs_mul, nU_mul]
  rw [← e2]
  exact Nat.le_mul_of_pos_right _ h1
theorem nT_le {t u : Int} (h : u ≠ 0) : (nT t u).natAbs ≤ t.natAbs := by
  have h1 : 0 < Nat.gcd t.natAbs u.natAbs := Nat.gcd_pos_of_pos_right _ (by omega)
  have e2 : (nT t u).natAbs * Nat.gcd t.natAbs u.natAbs = t.natAbs := by rw [← sh_abs, ← Int.natAbs_mul, nT_mul]
  rw [← e2]
  exact Nat.le_mul_of_pos_right _ h1
/-- a fraction has one form in lowest terms -/
theorem low_one {a b c d : Int} (hb : 0 < b) (hd : 0 < d) (g1 : Nat.gcd a.natAbs b.natAbs = 1) (g2 : Nat.gcd c.natAbs d.natAbs = 1) (e : a * d = c * b) : a = c ∧ b = d := by
  have en : a.natAbs * d.natAbs = c.natAbs * b.natAbs := by rw [← Int.natAbs_mul, ← Int.natAbs_mul, e]
  have d1 : b.natAbs ∣ d.natAbs := (Nat.Coprime.dvd_of_dvd_mul_left (k := b.natAbs) (m := a.natAbs) (n := d.natAbs) (by rw [Nat.Coprime, Nat.gcd_comm]; exact g1) (by rw [en]; exact Nat.dvd_mul_left _ _))
  have d2 : d.natAbs ∣ b.natAbs := (Nat.Coprime.dvd_of_dvd_mul_left (k := d.natAbs) (m := c.natAbs) (n := b.natAbs) (by rw [Nat.Coprime, Nat.gcd_comm]; exact g2) (by rw [← en]; exact Nat.dvd_mul_left _ _))
  have e3 : b.natAbs = d.natAbs := Nat.dvd_antisymm d1 d2
  have e4 : b = d := by omega
  subst e4
  exact ⟨Int.eq_of_mul_eq_mul_right (by omega) e, rfl⟩
theorem n_uniq {a b t u : Int} (hu : u ≠ 0) (hb : 0 < b) (g : Nat.gcd a.natAbs b.natAbs = 1) (e : a * u = t * b) : a = nT t u ∧ b = nU t u := by
  refine low_one hb (nU_pos hu) g (n_gcd hu) ?_
  have e1 := n_cross t u
  refine Int.eq_of_mul_eq_mul_right hu ?_
  calc a * nU t u * u = a * u * nU t u := by rw [Int.mul_assoc, Int.mul_comm (nU t u), ← Int.mul_assoc]
    _ = t * b * nU t u := by rw [e]
    _ = t * nU t u * b := by rw [Int.mul_assoc, Int.mul_comm b, ← Int.mul_assoc]
    _ = nT t u * u * b := by rw [e1]
    _ = nT t u * b * u := by rw [Int.mul_assoc, Int.mul_comm u, ← Int.mul_assoc]
theorem n_self {a b : Int} (hb : 0 < b) (g : Nat.gcd a.natAbs b.natAbs = 1) : nT a b = a ∧ nU a b = b := by
  obtain ⟨h1, h2⟩ := n_uniq (a := a) (b := b) (t := a) (u := b) (by omega) hb g rfl
  exact ⟨h1.symm, h2.symm⟩
theorem n_one (t : Int) : nT t 1 = t ∧ nU t 1 = 1 := n_self (by decide) (by simp)
theorem n_scale {t u f : Int} (hu : u ≠ 0) (hf : f ≠ 0) : nT (t * f) (u * f) = nT t u ∧ nU (t * f) (u * f) = nU t u := by
  have hne : u * f ≠ 0 := Int.mul_ne_zero hu hf
  obtain ⟨h1, h2⟩ := n_uniq (a := nT t u) (b := nU t u) (t := t * f) (u := u * f) hne (nU_pos hu) (n_gcd hu) (by
    have e1 := n_cross t u
    calc nT t u * (u * f) = nT t u * u * f := by rw [Int.mul_assoc]
      _ = t * nU t u * f := by rw [e1]
      _ = t * f * nU t u := by rw [Int.mul_assoc, Int.mul_comm (nU t u), ← Int.mul_assoc])
  exact ⟨h1.symm, h2.symm⟩
/-! ### instances of Ratio -/
def rf (t u : Int) : List (Str × V) := putF "under" (.int u) (putF "top" (.int t) [])
theorem tu : ¬ (("top" : Str) = "under") := by decide +kernel
theorem ut : ¬ (("under" : Str) = "top") := by decide +kernel
theorem rf_top (t u : Int) : (rf t u).lookup ("top" : Str) = some (.int t) := by
  unfold rf
  rw [lookup_putF, if_neg tu, lookup_putF, if_pos rfl]
theorem rf_under (t u : Int) : (rf t u).lookup ("under" : Str) = some (.int u) := by
  unfold rf
  rw [lookup_putF, if_pos rfl]
theorem rf_no (t u : Int) {m : Str} (h1 : ¬ m = "under") (h2 : ¬ m = "top") : (rf t u).lookup m = none := by
  unfold rf
  rw [lookup_putF, if_neg h1, lookup_putF, if_neg h2]
  rfl
/-- a Ratio t / u stands at x -/
def RatAt (C : Addr) (H : Hp) (x : Addr) (t u : Int) : Prop := ∃ dx, H x = some (.ins C dx (rf t u))
theorem RatAt.keep {C p : Addr} {H H' : Hp} {x : Addr} {t u : Int} (h : RatAt C H x t u) (k : Keeps H H' p) (hp : x ≠ p) : RatAt C H' x t u := by
  obtain ⟨dx, h⟩ := h
  exact ⟨dx, k _ _ h hp⟩
theorem RatAt.same {C : Addr} {H H' : Hp} {x : Addr} {t u : Int} (h : RatAt C H x t u) (k : Same H H') : RatAt C H' x t u := by
  obtain ⟨dx, h⟩ := h
  exact ⟨dx, k _ _ h⟩
theorem RatAt.ne_pool {C : Addr} {p : Pla} {H : Hp} {x : Addr} {t u : Int} (h : RatAt C H x t u) (hp : Pool H p) : x ≠ p := by
  obtain ⟨dx, h⟩ := h
  obtain ⟨ns, i, b, c, d, h1, _⟩ := hp
  exact ne_of h h1 (by intro z; cases z)
/-- the class Ratio as the top has left it -/
structure RatC (K : PySem.W.Frag) (mg : Str → Option Value) (C : Addr) : Prop where
  cl : Cls K C
  nT : NoAttr K C "top"
  nU : NoAttr K C "under"
  g : mg "Ratio" = some (.ref C)
  ha : PySem.W.findIn K (.ref C) "__class__" = some (some (.builtin "object.__class__"))
  hn : PySem.W.specialIn K (.builtin "object.__class__") "__get__" = some (some (.builtin "getset_descriptor.__get__"))
  htk : PySem.W.takesIn K (.builtin "object.__class__") = some true
  hm : PySem.W.mroIn K C (.type "object") = some true
  ki : PySem.W.kitOne K (.type "int") (.ref C) = some false
theorem RatC.tyX {K : PySem.W.Frag} {mg : Str → Option Value} {C : Addr} (T : RatC K mg C) {H : Hp} {x dx : Addr} {fs : List (Str × V)} (h : H x = some (.ins C dx fs)) : TyX K H (.ref x) (.ref C) := .base (.ins h T.cl T.ha T.hn T.htk T.hm)
theorem kit_self {K : PySem.W.Frag} (v : Value) : PySem.W.kitOne K v v = some true := by
  unfold PySem.W.kitOne
  rw [if_pos (beq_self_eq_true v)]
/-- an error class of the program without __init__ -/
structure ExC (K : PySem.W.Frag) (mg : Str → Option Value) (nm : Str) (C : Addr) : Prop where
  x : PySem.W.excIn K C [.type "ValueError", .type "Exception", .type "BaseException", .type "object"] "ValueError.__new__" = true
  g : mg nm = some (.ref C)
  k : PySem.W.keepIn K (.ref C) = true
  b : PySem.W.subIn K (.ref C) (.type "BaseException") = some true
  t : PySem.W.typeIn K (.ref C) = some (.type "type")
  s : PySem.W.subIn K (.ref C) (.ref C) = some true
  e : ExcC K C
theorem ExC.exm {K : PySem.W.Frag} {mg : Str → Option Value} {x : Str} {C : Addr} (T : ExC K mg x C) : PySem.W.exmOne K (.ref C) (.ref C) = some true := exm_self T.b T.e.hd T.t T.s
theorem beq_ref_ne {a b : Addr} (h : a ≠ b) : (Value.ref a == Value.ref b) = false := by
  rw [beq_eq_false_iff_ne]
  intro e
  injection e with e
  exact h e
end Fl

set_option Elab.async false
set_option linter.all false
set_option maxRecDepth 100000
set_option maxHeartbeats 4000000
namespace Fl
open PySem PySem.Spec PyProof.Rows L2
/-! ### the error with a name and a value -/
structure BnC (K : PySem.W.Frag) (mg : Str → Option Value) (C : Addr) : Prop where
  o : OexC K C
  g : mg "BadNumber" = some (.ref C)
  nN : PySem.W.findIn K (.ref C) "name" = some none
  nV : PySem.W.findIn K (.ref C) "value" = some none
  e : ExcC K C
  s : PySem.W.subIn K (.ref C) (.ref C) = some true
theorem BnC.exm {K : PySem.W.Frag} {mg : Str → Option Value} {C : Addr} (T : BnC K mg C) : PySem.W.exmOne K (.ref C) (.ref C) = some true := exm_self T.o.exC T.e.hd T.o.tyC T.s
theorem BnC.xf {K : PySem.W.Frag} {mg : Str → Option Value} {C : Addr} (T : BnC K mg C) : XfC K C := ⟨T.e.hg, T.e.hk, T.e.hs, T.e.hd⟩
def bnf (n v : V) : List (Str × V) := [("value", v), ("name", n)]
theorem nv : ¬ (("name" : Str) = "value") := by decide +kernel
theorem look_ne {f g : Str} {v : V} {fs : List (Str × V)} (h : ¬ f = g) : List.lookup f ((g, v) :: fs) = List.lookup f fs := by
  have e : (f == g) = false := by simpa using h
  rw [List.lookup_cons, e]
theorem look_eq {f : Str} {v : V} {fs : List (Str × V)} : List.lookup f ((f, v) :: fs) = some v := by
  rw [List.lookup_cons, beq_self_eq_true]
theorem bnf_name (n v : V) : (bnf n v).lookup ("name" : Str) = some n := by
  unfold bnf
  rw [look_ne nv, look_eq]
theorem bnf_value (n v : V) : (bnf n v).lookup ("value" : Str) = some v := look_eq
def spBN (C : Addr) : Sp := fun vs H Q _ => ∃ (a : Addr) (n v : V), vs = [.ref a, n, v] ∧ H a = some (exo a C none) ∧ ∀ (dx : Addr), H dx = none → dx ≠ a → Q .non (upd (upd (upd H dx (exd dx [("name", n)])) a (exo a C (some dx))) dx (exd dx (bnf n v)))
structure CalE (P : Program) (w : World) (K : PySem.W.Frag) (mg : Str → Option Value) (base : Heap) (k : Nat) (C : Addr) : Prop where
  ex : ∃ (fI : Addr) (fd : FuncData), PySem.W.findIn K (.ref C) "__init__" = some (some (.ref fI)) ∧ PySem.W.typeIn K (.ref fI) = some (.type "function") ∧ FnOk P w K mg base CX0 k fI fd ["self", "name", "value"] (spBN C) ∧ Binds K fd ["self", "name", "value"] []
theorem pmk_bn {X : Cx} {k : Nat} {C : Addr} {p pos : Pos} {e : Expr} {es : List Expr} {ta : TA} (T : BnC X.K X.mg C) (B : CalE X.prog X.w X.K X.mg X.base k C) (hr : Room (k + 1) X.A) (ha : PA X (e :: es) ta) (hg : Gl X "BadNumber" := by rfl)
    (he : starEach (e :: es) X.env = (false, eval e X.env) :: starEach es X.env := by rfl) (hpl : (backTo pos (starEach es X.env)).any (·.1) = false := by rfl) : PMk X (.Call (.Name "BadNumber" p) (e :: es) [] pos) (tMkO C (spBN C) [] ta) := by
  obtain ⟨fI, fd, iC, tI, F, b⟩ := B.ex
  exact pmk_oex T.o iC tI F hr b .nil (fun _ _ _ _ _ _ _ h => h.elim) hg T.g ha (by decide +kernel) he hpl
/-- what is wished where BadNumber(n, v) leaves -/
def Ref (E : XK) (C : Addr) (H : Hp) (n : Str) (v : Int) : Prop := ∀ (d : Addr) (H' : Hp), Same H H' → H d = none → H' d = some (.xd (bnf (.str n) (.int v))) → E (.ref C) (some d) H'
theorem Ref.same {E : XK} {C : Addr} {H H1 : Hp} {n : Str} {v : Int} (h : Ref E C H n v) (s : Same H H1) : Ref E C H1 n v := fun d H' s' hd he => h d H' (s.trans s') (s.free hd) he
theorem bn_made {C : Addr} {n : Str} {v : Int} {H : Hp} {Q : XK} (k : Ref Q C H n v) : [V.str n, V.int v].length ≤ 1000 ∧ ∀ a, H a = none → spBN C (.ref a :: ([V.str n, V.int v] ++ [])) (upd H a (exo a C none))
    (fun z H2 => z = .non ∧ ∃ (d : Addr) (fs : List (Str × V)), H2 a = some (exo a C (some d)) ∧ H2 d = some (exd d fs) ∧ H d = none ∧ Q (.ref C) (some d) (upd (del H2 a) d (.xd fs))) (fun _ _ _ => False) := by
  refine ⟨(show 2 ≤ 1000 by decide), fun a ha => ⟨a, .str n, .int v, rfl, upd_same, fun dx hdx hne => ⟨rfl, dx, bnf (.str n) (.int v), ?_, upd_same, ?_, ?_⟩⟩⟩
  · rw [upd_ne (Ne.symm hne), upd_same]
  · rw [upd_ne hne] at hdx
    exact hdx
  · rw [upd_ne hne] at hdx
    refine k dx _ (fun b o e => ?_) hdx upd_same
    have h1 : b ≠ a := ne_of_none e ha
    have h2 : b ≠ dx := ne_of_none e hdx
    rw [upd_ne h2, del_ne h1, upd_ne h2, upd_ne h1, upd_ne h2, upd_ne h1]
    exact e
end Fl

set_option Elab.async false
set_option linter.all false
set_option maxRecDepth 100000
set_option maxHeartbeats 4000000
namespace Fl
/-! ### the sum of the whole parts of (a i + b) / m, i below n -/
def fs (m a b : Nat) : Nat → Nat
  | 0 => 0
  | n + 1 => fs m a b n + (a * n + b) / m
theorem tri_succ (n : Nat) : (n + 1) * n / 2 = n * (n - 1) / 2 + n := by
  cases n with
  | zero => rfl
  | succ k =>
    have e : (k + 1 + 1) * (k + 1) = (k + 1) * (k + 1 - 1) + 2 * (k + 1) := by
      rw [Nat.add_sub_cancel, show k + 1 + 1 = k + 2 from rfl, Nat.add_mul, Nat.mul_comm k (k + 1)]
    rw [e, Nat.add_mul_div_left _ _ (by decide)]
theorem fs_split {m : Nat} (hm : 0 < m) (a b : Nat) : ∀ n : Nat, fs m a b n = n * (n - 1) / 2 * (a / m) + n * (b / m) + fs m (a % m) (b % m) n
  | 0 => by simp [fs]
  | n + 1 => by
    have ih := fs_split hm a b n
    have e : (a * n + b) / m = n * (a / m) + b / m + ((a % m) * n + b % m) / m := by
      have e1 : a * n + b = (a % m * n + b % m) + m * (n * (a / m) + b / m) := by
        have h1 := Nat.mod_add_div a m
        have h2 := Nat.mod_add_div b m
        calc a * n + b = (a % m + m * (a / m)) * n + (b % m + m * (b / m)) := by rw [h1, h2]
          _ = (a % m * n + b % m) + m * (n * (a / m) + b / m) := by
            rw [Nat.add_mul, Nat.mul_add, Nat.mul_assoc, Nat.mul_comm (a / m) n]
            omega
      rw [e1, Nat.add_mul_div_left _ _ hm]
      omega
    show fs m a b n + (a * n + b) / m = (n + 1) * (n + 1 - 1) / 2 * (a / m) + (n + 1) * (b / m) + (fs m (a % m) (b % m) n + (a % m * n + b % m) / m)
    rw [Nat.add_sub_cancel, tri_succ, ih, e, Nat.add_mul, Nat.add_mul]
    omega
theorem fs_up {a m r : Nat} (ha : 0 < a) : ∀ k : Nat, fs a m (r + a) k = fs a m r k + k
  | 0 => rfl
  | k + 1 => by
    have ih := fs_up (m := m) (r := r) ha k
    show fs a m (r + a) k + (m * k + (r + a)) / a = fs a m r k + (m * k + r) / a + (k + 1)
    rw [ih, ← Nat.add_assoc, Nat.add_div_right _ ha]
    omega
theorem fs_shift {a m r : Nat} : ∀ k : Nat, fs a m r (k + 1) = r / a + fs a m (r + m) k
  | 0 => by
    show 0 + (m * 0 + r) / a = r / a + 0
    rw [Nat.mul_zero, Nat.zero_add, Nat.zero_add, Nat.add_zero]
  | k + 1 => by
    have ih := fs_shift (a := a) (m := m) (r := r) k
    show fs a m r (k + 1) + (m * (k + 1) + r) / a = r / a + (fs a m (r + m) k + (m * k + (r + m)) / a)
    rw [ih, Nat.mul_add, Nat.mul_one, Nat.add_assoc (m * k), Nat.add_comm m r]
    omega
theorem fs_swap {m a b : Nat} (ham : a < m) (hbm : b < m) (ha : 0 < a) : ∀ n : Nat, fs m a b n = fs a m ((a * n + b) % m) ((a * n + b) / m)
  | 0 => by
    have e : (a * 0 + b) / m = 0 := by
      rw [Nat.mul_zero, Nat.zero_add]
      exact Nat.div_eq_of_lt hbm
    rw [e]
    rfl
  | n + 1 => by
    have hm : 0 < m := by omega
    have ih := fs_swap ham hbm ha n
    show fs m a b n + (a * n + b) / m = _
    rw [ih]
    have hr := Nat.mod_lt (a * n + b) hm
    have hd := Nat.mod_add_div (a * n + b) m
    generalize hR : (a * n + b) % m = r at *
    generalize hK : (a * n + b) / m = K at *
    have e : a * (n + 1) + b = m * K + (r + a) := by
      rw [Nat.mul_add, Nat.mul_one]
      omega
    rw [e, Nat.mul_add_mod, Nat.mul_add_div hm]
    by_cases hc : r + a < m
    · rw [Nat.mod_eq_of_lt hc, Nat.div_eq_of_lt hc, Nat.add_zero, fs_up ha]
    · have h1 : (r + a) / m = 1 := by
        rw [Nat.div_eq_sub_div hm (by omega), Nat.div_eq_of_lt (by omega)]
      have h2 : (r + a) % m = r + a - m := by
        rw [Nat.mod_eq_sub_mod (by omega), Nat.mod_eq_of_lt (by omega)]
      rw [h1, h2, fs_shift, Nat.div_eq_of_lt (by omega : r + a - m < a), show r + a - m + m = r + a by omega, fs_up ha]
      omega
theorem fs_zero {m b : Nat} (hbm : b < m) : ∀ n : Nat, fs m 0 b n = 0
  | 0 => rfl
  | n + 1 => by
    show fs m 0 b n + (0 * n + b) / m = 0
    rw [fs_zero hbm n, Nat.zero_mul, Nat.zero_add, Nat.zero_add, Nat.div_eq_of_lt hbm]
/-- one turn of Euclid's rule -/
theorem fs_turn {m : Nat} (hm : 0 < m) (a b n : Nat) : fs m a b n = n * (n - 1) / 2 * (a / m) + n * (b / m) + fs (a % m) m ((a % m * n + b % m) % m) ((a % m * n + b % m) / m) := by
  rw [fs_split hm]
  have h1 := Nat.mod_lt a hm
  have h2 := Nat.mod_lt b hm
  by_cases h0 : a % m = 0
  · rw [h0, Nat.zero_mul, Nat.zero_add, fs_zero h2, Nat.div_eq_of_lt h2]
    rfl
  · rw [fs_swap h1 h2 (by omega)]
theorem fs_tot {n m a b tot : Nat} (hn : 0 < n) : (tot : Int) + (n : Int) * ((n : Int) - 1) / 2 * ((a : Int) / (m : Int)) + (n : Int) * ((b : Int) / (m : Int)) = ((tot + n * (n - 1) / 2 * (a / m) + n * (b / m) : Nat) : Int) := by
  have e : (n : Int) - 1 = ((n - 1 : Nat) : Int) := by omega
  rw [e]
  simp only [Int.natCast_add, Int.natCast_mul, Int.natCast_ediv]
  rfl
theorem fs_many_le {n m a b : Nat} (hm : 0 < m) (hn : 0 < n) : (a % m * n + b % m) / m ≤ n := by
  have h1 := Nat.mod_lt a hm
  have h2 := Nat.mod_lt b hm
  have h3 : a % m * n ≤ (m - 1) * n := Nat.mul_le_mul_right n (by omega)
  have h4 : (m - 1) * n = m * n - n := by rw [Nat.sub_mul, Nat.one_mul]
  have h5 : n ≤ m * n := Nat.le_mul_of_pos_left n hm
  refine Nat.le_of_lt_succ (Nat.div_lt_of_lt_mul ?_)
  rw [Nat.mul_succ]
  omega
end Fl

set_option Elab.async false
set_option linter.all false
set_option maxRecDepth 100000
set_option maxHeartbeats 4000000
namespace Bx
open PySem PySem.Spec PyProof.Rows L2 Fl
theorem int_add_own (a : Int) (t : Tok) (x C dx : Addr) : Meets (Builtin.«int.__add__» ⟨[.int a t, .ref x], []⟩) (fun _ R s => s.heap.get? x = some (PySem.W.instObj C dx) ∧ R (.ok (.ret Value.notImplemented)) s) :=
  .of_wp fun prog w A R s h => by obtain ⟨hp, g, d, tk, os⟩ := s; obtain ⟨hl, h⟩ := h; unfold PySem.W.instObj at hl; wp_walk; exact ⟨_, rfl, h⟩
theorem int_sub_own (a : Int) (t : Tok) (x C dx : Addr) : Meets (Builtin.«int.__sub__» ⟨[.int a t, .ref x], []⟩) (fun _ R s => s.heap.get? x = some (PySem.W.instObj C dx) ∧ R (.ok (.ret Value.notImplemented)) s) :=
  .of_wp fun prog w A R s h => by obtain ⟨hp, g, d, tk, os⟩ := s; obtain ⟨hl, h⟩ := h; unfold PySem.W.instObj at hl; wp_walk; exact ⟨_, rfl, h⟩
theorem int_mul_own (a : Int) (t : Tok) (x C dx : Addr) : Meets (Builtin.«int.__mul__» ⟨[.int a t, .ref x], []⟩) (fun _ R s => s.heap.get? x = some (PySem.W.instObj C dx) ∧ R (.ok (.ret Value.notImplemented)) s) :=
  .of_wp fun prog w A R s h => by obtain ⟨hp, g, d, tk, os⟩ := s; obtain ⟨hl, h⟩ := h; unfold PySem.W.instObj at hl; wp_walk; exact ⟨_, rfl, h⟩
section
open PySem.W PySem.Calls
variable {prog : Program} {w : World} {A : Around} {E : Value → Shared → Prop} {s : Shared} {K : Frag} {x C L f g dx : Addr} {h₀ : Heap} {m : Str → Option Value} {od : Option Obj}
theorem bin_refl {op : Operator} {n : Int} {t : Tok} {id : String} {B : Builtin} {Q : Value → Shared → Prop} (F : Fr h₀ L s.heap m) (X₀ : K.In h₀) (I : PySem.W.InstAt s.heap x (PySem.W.instObj C dx) C od) (hc : selfFirst K C = true)
    (hs : findIn K (.ref C) (PySem.dunder op.info.2) = some (some (.ref f))) (hr : findIn K (.ref C) (dunderR op.info.2) = some (some (.ref g))) (hg : isFn K (.ref g) = true)
    (hsub : subIn K (.ref C) (.type "int") = some false) (fills : fillsNumberSlot (.type "int") op.info.2 = pure true) (slot : Slot "int" (PySem.dunder op.info.2) id) (entry : entryFor table id = some B) (args : argsOk id ⟨[.int n t, .ref x], []⟩)
    (mt : Meets (B ⟨[.int n t, .ref x], []⟩) (fun _ R s => s.heap.get? x = some (PySem.W.instObj C dx) ∧ R (.ok (.ret Value.notImplemented)) s))
    (h : wpAny (model prog w) A (call (.ref g) [.ref x, .int n t]) (PySem.W.CmpBack Q) E s) : wpAny (model prog w) A (binaryOp op (.int n t) (.ref x)) Q E s := by
  have X := X₀.keeps F.keep
  obtain ⟨cd, rest, hcd, hm⟩ := ksp_first hc
  rcases hi : op.info with ⟨sym, nm'⟩
  rw [hi] at hs hr fills slot
  dsimp only at hs hr fills slot
  have one := ksp_try X I hr hg h
  simp only [binaryOp, hi]
  refine wpAny_holding (wpAny_bind ?_)
  simp only [binaryOp1]
  refine wpAny_bind (wpAny_typeOf (typeIs_int s n t) (wpAny_bind (I.type.here (wpAny_bind (wpAny_of_eq fills ?_)))))
  have hne : (Value.type "int" == Value.ref C) = false := Bool.eq_false_iff.mpr fun q => by cases beq_iff_eq.mp q
  simp only [hne, Bool.false_eq_true, if_false]
  refine wpAny_bind ((fills_K X hcd hm hs).here ?_)
  simp only [Bool.and_self, if_true]
  refine wpAny_bind ((looks_subIn X hsub).here ?_)
  have hpy : numberSlotInPython (.type "int") nm' = pure false := rfl
  simp only [Bool.false_eq_true, if_false, pure_bind, Bool.not_false, Bool.and_self, if_true, hpy]
  refine wpAny_bind (wpAny_tryMethod_declines (typeIs_int s n t) slot (call_meets slot (typeIs_int s n t) entry args mt ⟨I.at_, ?_⟩))
  refine ⟨rfl, ?_⟩
  refine wpAny_bind (wpAny_mono one (fun r s' hr' => ?_) fun _ _ e => e)
  obtain ⟨v, rfl, hq⟩ := hr'
  exact wpAny_bind (wpAny_rule (wpAny_pure (wpAny_pure hq)))
end

section
open PySem.W PySem.Calls
variable {prog : Program} {w : World} {A : Around} {E : Value → Shared → Prop} {s : Shared} {K : Frag} {x C f : Addr} {ox : Obj} {od : Option Obj}
theorem call_abs_own {Q : Value → Shared → Prop} (X : K.In s.heap) (I : PySem.W.InstAt s.heap x ox C od) (hs : findIn K (.ref C) "__abs__" = some (some (.ref f))) (hf : isFn K (.ref f) = true)
    (h : wpAny (model prog w) A.in1 (call (.ref f) [.ref x]) Q E s) : wpAny (model prog w) A (call (.builtin "abs") [.ref x]) Q E s := by
  refine call_function_entry kind_abs plain_abs entry_abs (args_abs _) ?_
  unfold Builtin.«abs»
  refine wpAny_bind (wpAny_pure ?_)
  refine wpAny_bind (m := callSpecial? (.ref x) (Str.ofString "__abs__")) (special_fn X I hs (beq_iff_eq.mp hf) (wpAny_mono h (fun v s' hv => ?_) fun _ _ z => ?_))
  · exact wpAny_pure ⟨_, rfl, hv⟩
  · exact z
end
section
/-- the def that an operator's special name of the class C finds -/
structure OpOwn (P : Program) (w : World) (K : PySem.W.Frag) (mg : Str → Option Value) (base : Heap) (k : Nat) (C : Addr) (nm : Str) (ps : List Str) (sp : Sp) : Prop where
  ex : ∃ (f : Addr) (fd : FuncData), PySem.W.findIn K (.ref C) nm = some (some (.ref f)) ∧ PySem.W.isFn K (.ref f) = true ∧ FnOk P w K mg base CX0 k f fd ps sp ∧ Binds K fd ps []
def oR (Q : VK) : VK := fun v H2 => ∃ z, v = .ref z ∧ Q (.ref z) H2
def rOO (C : Addr) (sp : Sp) : R2 := fun x y H Q => ∃ (a dx : Addr) (gs : List (Str × V)) (b dy : Addr) (hs : List (Str × V)), x = .ref a ∧ H a = some (.ins C dx gs) ∧ y = .ref b ∧ H b = some (.ins C dy hs) ∧ sp [.ref a, .ref b] H (oR Q) E0
def rOI (C : Addr) (sp : Sp) : R2 := fun x y H Q => ∃ (a dx : Addr) (gs : List (Str × V)) (n : Int), x = .ref a ∧ H a = some (.ins C dx gs) ∧ y = .int n ∧ sp [.ref a, .int n] H (oR Q) E0
def rIO (C : Addr) (sp : Sp) : R2 := fun x y H Q => ∃ (a dx : Addr) (gs : List (Str × V)) (n : Int), y = .ref a ∧ H a = some (.ins C dx gs) ∧ x = .int n ∧ sp [.ref a, .int n] H (oR Q) E0
variable {X : Cx} {k : Nat} {C : Addr} {ps : List Str} {sp : Sp} {op : Operator}
theorem op_oo (M : OpOwn X.prog X.w X.K X.mg X.base k C (PySem.dunder op.info.2) ps sp) (hc : PySem.W.selfFirst X.K C = true) (hr : Room k X.A) : OpR X (binaryOp op) (rOO C sp) := by
  obtain ⟨f, fd, hs, hf, F, b⟩ := M.ex
  intro pins s σ H x y v u Q I rx ry h
  obtain ⟨a, dx, gs, b', dy, gs', rfl, ea, rfl, eb, q⟩ := h
  cases rx
  cases ry
  obtain ⟨mA, J, _⟩ := ins_get I.hok ea
  obtain ⟨od, J, _⟩ := J.look
  obtain ⟨mB, J', _⟩ := ins_get I.hok eb
  obtain ⟨od', J', _⟩ := J'.look
  obtain ⟨m, hF⟩ := I.fr
  refine PySem.W.binop_K hF I.ok.mod.kin J J'.type hc hs hf (wpAny_mono (run_fn F hr b (dvs := []) .nil pass0 I (.cons (show RelV (.ref a) (.ref a) from rfl) (.cons (show RelV (.ref b') (.ref b') from rfl) .nil)) q) (fun r s' hr => ?_) fun _ _ z => z)
  obtain ⟨z, H2, I2, rz, c, rfl, q2⟩ := hr
  cases rz
  exact ⟨V.ref c, H2, I2, rfl, q2⟩
theorem op_oi {rc : Option Value} {fo ro : Option Value} (M : OpOwn X.prog X.w X.K X.mg X.base k C (PySem.dunder op.info.2) ps sp) (hc : PySem.W.selfFirst X.K C = true) (hR : PySem.W.findIn X.K (.ref C) (dunderR op.info.2) = some rc) (hp : rc = none ∨ ∃ g : Addr, rc = some (.ref g))
    (h1 : PySem.W.findIn X.K (.type "int") (PySem.dunder op.info.2) = some fo) (h2 : PySem.W.findIn X.K (.type "int") (dunderR op.info.2) = some ro) (hsub : PySem.W.subIn X.K (.type "int") (.ref C) = some false) (hr : Room k X.A) : OpR X (binaryOp op) (rOI C sp) := by
  obtain ⟨f, fd, hs, hf, F, b⟩ := M.ex
  intro pins s σ H x y v u Q I rx ry h
  obtain ⟨a, dx, gs, n, rfl, ea, rfl, q⟩ := h
  cases rx
  obtain ⟨t, rfl⟩ := ry
  obtain ⟨mA, J, _⟩ := ins_get I.hok ea
  obtain ⟨od, J, _⟩ := J.look
  obtain ⟨m, hF⟩ := I.fr
  refine PySem.W.ksp_binT hF I.ok.mod.kin J (T := "int") rfl hc hs hf hR hp h1 h2 hsub (wpAny_mono (run_fn F hr b (dvs := []) .nil pass0 I (.cons (show RelV (.ref a) (.ref a) from rfl) (.cons (show RelV (.int n) (.int n t) from ⟨_, rfl⟩) .nil)) q) (fun r s' hr => ?_) fun _ _ z => z)
  obtain ⟨z, H2, I2, rz, c, rfl, q2⟩ := hr
  cases rz
  exact ⟨V.ref c, H2, I2, rfl, q2⟩
theorem op_io {f0 : Addr} {id : String} {B : Builtin} (M : OpOwn X.prog X.w X.K X.mg X.base k C (dunderR op.info.2) ps sp) (hc : PySem.W.selfFirst X.K C = true) (hs0 : PySem.W.findIn X.K (.ref C) (PySem.dunder op.info.2) = some (some (.ref f0))) (hsub : PySem.W.subIn X.K (.ref C) (.type "int") = some false)
    (fills : fillsNumberSlot (.type "int") op.info.2 = pure true) (slot : Slot "int" (PySem.dunder op.info.2) id) (entry : entryFor table id = some B) (args : ∀ a b, argsOk id ⟨[a, b], []⟩)
    (mt : ∀ (n : Int) (t : Tok) (x C dx : Addr), Meets (B ⟨[.int n t, .ref x], []⟩) (fun _ R s => s.heap.get? x = some (PySem.W.instObj C dx) ∧ R (.ok (.ret Value.notImplemented)) s)) (hr : Room k X.A) : OpR X (binaryOp op) (rIO C sp) := by
  obtain ⟨f, fd, hs, hf, F, b⟩ := M.ex
  intro pins s σ H x y v u Q I rx ry h
  obtain ⟨a, dx, gs, n, rfl, ea, rfl, q⟩ := h
  cases ry
  obtain ⟨t, rfl⟩ := rx
  obtain ⟨mA, J, _⟩ := ins_get I.hok ea
  obtain ⟨od, J, _⟩ := J.look
  obtain ⟨m, hF⟩ := I.fr
  refine bin_refl hF I.ok.mod.kin J hc hs0 hs hf hsub fills slot entry (args _ _) (mt n t a C dx) (wpAny_mono (run_fn F hr b (dvs := []) .nil pass0 I (.cons (show RelV (.ref a) (.ref a) from rfl) (.cons (show RelV (.int n) (.int n t) from ⟨_, rfl⟩) .nil)) q) (fun r s' hr => ?_) fun _ _ z => z)
  obtain ⟨z, H2, I2, rz, c, rfl, q2⟩ := hr
  cases rz
  exact ⟨V.ref c, H2, I2, rfl, q2⟩
def rNegO (C : Addr) (sp : Sp) : V → Hp → VK → Prop := fun x H Q => ∃ (a dx : Addr) (gs : List (Str × V)), x = .ref a ∧ H a = some (.ins C dx gs) ∧ sp [.ref a] H Q E0
theorem un_negO (M : OpOwn X.prog X.w X.K X.mg X.base k C "__neg__" ps sp) (hr : Room k X.A) : UnR X (unaryOp .USub) (rNegO C sp) := by
  obtain ⟨f, fd, hs, hf, F, b⟩ := M.ex
  intro pins s σ H x v Q I rx h
  obtain ⟨a, dx, gs, rfl, ea, q⟩ := h
  cases rx
  obtain ⟨mA, J, _⟩ := ins_get I.hok ea
  obtain ⟨od, J, _⟩ := J.look
  obtain ⟨m, hF⟩ := I.fr
  exact PySem.W.ksp_neg hF I.ok.mod.kin J hs hf (run_fn F hr b (dvs := []) .nil pass0 I (.cons (show RelV (.ref a) (.ref a) from rfl) .nil) q)
def rAbsO (C : Addr) (sp : Sp) : List V → Hp → VK → Prop := fun xs H Q => ∃ (a dx : Addr) (gs : List (Str × V)), xs = [.ref a] ∧ H a = some (.ins C dx gs) ∧ sp [.ref a] H Q E0
theorem call_absO (M : OpOwn X.prog X.w X.K X.mg X.base k C "__abs__" ps sp) (hr : Room (k + 1) X.A) : CallR X (.builtin "abs") (rAbsO C sp) := by
  obtain ⟨f, fd, hs, hf, F, b⟩ := M.ex
  intro pins s σ H xs us Q I r h
  obtain ⟨a, dx, gs, rfl, ea, q⟩ := h
  obtain ⟨u, rfl, rx⟩ := vals1 r
  cases rx
  obtain ⟨mA, J, _⟩ := ins_get I.hok ea
  obtain ⟨od, J, _⟩ := J.look
  have hl := F.len _ _ _ _ q
  have r2 : Vals [V.ref a] [Value.ref a] := .cons (show RelV (.ref a) (.ref a) from rfl) .nil
  have bb := b s [.ref a] I.kIn (by simpa using hl)
  rw [List.append_nil] at bb
  refine call_abs_own I.kIn J hs hf (wpAny_call (codeAny_mono (F.run X.A.in1 X.stack s H ⟨[.ref a], []⟩ [.ref a] [.ref a] Q E0 hr.in1 I.env0.in1 bb r2 q) fun r s' hq => ?_))
  cases r with
  | error e => exact (pass0 pins σ H s e s' I hq)
  | ok fl =>
    cases fl with
    | ret z => exact I.after hq
    | next => exact False.elim hq
    | brk => exact False.elim hq
    | cont => exact False.elim hq
end
end Bx

set_option Elab.async false
set_option linter.all false
set_option maxRecDepth 100000
set_option maxHeartbeats 4000000
namespace Bx
open PySem PySem.Spec PyProof.Rows L2 Fl
section
/-- a def of the class that may raise what its spec says -/
structure OwnX (P : Program) (w : World) (K : PySem.W.Frag) (mg : Str → Option Value) (base : Heap) (k : Nat) (C : Addr) (nm : Str) (ps : List Str) (sp : Sp) : Prop where
  ex : ∃ (f : Addr) (fd : FuncData), PySem.W.findIn K (.ref C) nm = some (some (.ref f)) ∧ PySem.W.isFn K (.ref f) = true ∧ PySem.W.keepIn K (.ref f) = true ∧ FnOk P w K mg base (L2.CX P w) k f fd ps sp ∧ Binds K fd ps []
variable {X : Cx} {k : Nat} {C : Addr} {ps : List Str} {sp : Sp} {op : Operator} {E : L2.St → XK}
def tMethX (C : Addr) (m : Str) (sp : Sp) (E : L2.St → XK) (ta : TE) (t : TA) : TE := fun σ H Q => ta σ H fun x H1 => ∃ a dx fs, x = .ref a ∧ H1 a = some (.ins C dx fs) ∧ fs.lookup m = none ∧ t σ H1 fun vs H2 => sp (x :: vs) H2 Q (E σ)
theorem pe_methX {pl : Sem Bool} {m : Str} {o e : Expr} {es : List Expr} {apos pos : Pos} {ta : TE} {t : TA} (M : OwnX X.prog X.w X.K X.mg X.base k C m ps sp) (c : Cls X.K C) (hx : ∀ σ, PassesAt (L2.CX X.prog X.w) X σ (E σ)) (hr : Room k X.A) (he : PE X o ta) (ha : PA X (e :: es) t)
    (hst : starEach (e :: es) X.env = (false, eval e X.env) :: starEach es X.env := by rfl) (hpl : (backTo pos (starEach es X.env)).any (·.1) = false := by rfl)
    (ht : eval (.Call (.Attribute o m apos) (e :: es) [] pos) X.env = (do
      let ov ← eval o X.env
      standAt apos.atName
      let (f, first) ← holding [ov] (getMethod ov m pl)
      callWith pos f first (backTo pos (starEach (e :: es) X.env)) (backToKw pos (keywordEach [] X.env))) := by rfl) :
    PE X (.Call (.Attribute o m apos) (e :: es) [] pos) (tMethX C m sp E ta t) := by
  obtain ⟨f, fd, h1, h2, h3, F, b⟩ := M.ex
  refine ⟨fun pins s σ H Q I h => ?_⟩
  refine PySem.W.methodCall_KW (pl := pl) (thn (he.run pins s σ H _ I h) fun u s1 ⟨x, H1, I1, rx, a, dx, fs, ex, ea, l, q⟩ => ?_) ht
  subst ex
  obtain rfl : u = Value.ref a := rx
  refine getmeth_ok I1 ea c ⟨h1, h2, h3⟩ l ?_
  refine PySem.W.callWith_K (first := [.ref a]) (h₀ := X.base) I.ok.mod.kin h3 (thn (ha.run pos pins s1 σ H1 _ I1 q) fun us s2 ⟨vs, H2, I2, r, q2⟩ => ⟨I2.kIn, ?_⟩) hst hpl
  exact run_fnS (us := .ref a :: us) (vs := .ref a :: vs) (E := E) F hr b (hx σ) I2 (.cons rfl r) q2
/-- what comes back: a reference or a whole number -/
def oA (Q : VK) : VK := fun v H2 => ((∃ z, v = .ref z) ∨ ∃ i, v = .int i) ∧ Q v H2
def rOwnX (C : Addr) (sp : Sp) (E : L2.St → XK) : L2.St → R2 := fun σ x y H Q => ∃ (a dx : Addr) (gs : List (Str × V)), x = .ref a ∧ H a = some (.ins C dx gs) ∧ ((∃ (b dy : Addr) (hs : List (Str × V)), y = .ref b ∧ H b = some (.ins C dy hs)) ∨ ∃ n : Int, y = .int n) ∧ sp [x, y] H (oA Q) (E σ)
def tOpS (R : L2.St → R2) (ta tb : TE) : TE := fun σ H Q => ta σ H fun x H1 => tb σ H1 fun y H2 => R σ x y H2 Q
theorem back {pins : List (Addr × Obj)} {σ : L2.St} {Q : VK} {r : Value} {s' : Shared} (h : EP X pins σ (oA Q) r s') : PySem.W.CmpBack (EP X pins σ Q) r s' := by
  obtain ⟨z, H2, I2, rz, c, q2⟩ := h
  rcases c with ⟨c, rfl⟩ | ⟨i, rfl⟩
  · cases rz
    exact ⟨V.ref c, H2, I2, rfl, q2⟩
  · obtain ⟨t, rfl⟩ := rz
    exact ⟨V.int i, H2, I2, ⟨t, rfl⟩, q2⟩
theorem pe_ownX {rc fo ro : Option Value} {a b : Expr} {ta tb : TE} {pos : Pos} (M : OwnX X.prog X.w X.K X.mg X.base k C (PySem.dunder op.info.2) ps sp) (hx : ∀ σ, PassesAt (L2.CX X.prog X.w) X σ (E σ)) (hc : PySem.W.selfFirst X.K C = true)
    (hR : PySem.W.findIn X.K (.ref C) (dunderR op.info.2) = some rc) (hp : rc = none ∨ ∃ g : Addr, rc = some (.ref g)) (h1 : PySem.W.findIn X.K (.type "int") (PySem.dunder op.info.2) = some fo) (h2 : PySem.W.findIn X.K (.type "int") (dunderR op.info.2) = some ro)
    (hsub : PySem.W.subIn X.K (.type "int") (.ref C) = some false) (hr : Room k X.A) (ha : PE X a ta) (hb : PE X b tb) : PE X (.BinOp a op b pos) (tOpS (rOwnX C sp E) ta tb) := by
  obtain ⟨f, fd, hs, hf, hk, F, bd⟩ := M.ex
  refine ⟨fun pins s σ H Q I h => ?_⟩
  refine wpAny_BinOp (binT ha hb I h fun v u s2 x y H2 I2 rx ry q => ?_)
  obtain ⟨a', dx, gs, rfl, ea, hy, q⟩ := q
  cases rx
  obtain ⟨mA, J, _⟩ := ins_get I2.hok ea
  obtain ⟨od, J, _⟩ := J.look
  obtain ⟨m, hF⟩ := I2.fr
  have run := run_fnS (E := E) F hr bd (hx σ) I2 (.cons (show RelV (.ref a') (.ref a') from rfl) (.cons ry .nil)) q
  rcases hy with ⟨b', dy, gs', rfl, eb⟩ | ⟨n, rfl⟩
  · cases ry
    obtain ⟨mB, J', _⟩ := ins_get I2.hok eb
    obtain ⟨od', J', _⟩ := J'.look
    exact PySem.W.binop_K hF I2.ok.mod.kin J J'.type hc hs hf (wpAny_mono run (fun r s' hr => back hr) fun _ _ z => z)
  · obtain ⟨t, rfl⟩ := ry
    exact PySem.W.ksp_binT hF I2.ok.mod.kin J (T := "int") rfl hc hs hf hR hp h1 h2 hsub (wpAny_mono run (fun r s' hr => back hr) fun _ _ z => z)
theorem op_or {f : Value → Value → Sem Value} {r1 r2 : R2} (h1 : OpR X f r1) (h2 : OpR X f r2) : OpR X f (fun x y H Q => r1 x y H Q ∨ r2 x y H Q) := fun pins s σ H x y v u Q I rx ry h => h.elim (h1 pins s σ H x y v u Q I rx ry) (h2 pins s σ H x y v u Q I rx ry)
end
end Bx

set_option Elab.async false
set_option linter.all false
set_option maxRecDepth 100000
set_option maxHeartbeats 4000000
namespace Bx
open PySem PySem.Spec PyProof.Rows L2 Fl
theorem int_lt_own (a : Int) (t : Tok) (x C dx : Addr) : Meets (Builtin.«int.__lt__» ⟨[.int a t, .ref x], []⟩) (fun _ R s => s.heap.get? x = some (PySem.W.instObj C dx) ∧ R (.ok (.ret Value.notImplemented)) s) :=
  .of_wp fun prog w A R s h => by obtain ⟨hp, g, d, tk, os⟩ := s; obtain ⟨hl, h⟩ := h; unfold PySem.W.instObj at hl; wp_walk; exact ⟨_, rfl, h⟩
theorem int_le_own (a : Int) (t : Tok) (x C dx : Addr) : Meets (Builtin.«int.__le__» ⟨[.int a t, .ref x], []⟩) (fun _ R s => s.heap.get? x = some (PySem.W.instObj C dx) ∧ R (.ok (.ret Value.notImplemented)) s) :=
  .of_wp fun prog w A R s h => by obtain ⟨hp, g, d, tk, os⟩ := s; obtain ⟨hl, h⟩ := h; unfold PySem.W.instObj at hl; wp_walk; exact ⟨_, rfl, h⟩
theorem int_gt_own (a : Int) (t : Tok) (x C dx : Addr) : Meets (Builtin.«int.__gt__» ⟨[.int a t, .ref x], []⟩) (fun _ R s => s.heap.get? x = some (PySem.W.instObj C dx) ∧ R (.ok (.ret Value.notImplemented)) s) :=
  .of_wp fun prog w A R s h => by obtain ⟨hp, g, d, tk, os⟩ := s; obtain ⟨hl, h⟩ := h; unfold PySem.W.instObj at hl; wp_walk; exact ⟨_, rfl, h⟩
theorem int_ge_own (a : Int) (t : Tok) (x C dx : Addr) : Meets (Builtin.«int.__ge__» ⟨[.int a t, .ref x], []⟩) (fun _ R s => s.heap.get? x = some (PySem.W.instObj C dx) ∧ R (.ok (.ret Value.notImplemented)) s) :=
  .of_wp fun prog w A R s h => by obtain ⟨hp, g, d, tk, os⟩ := s; obtain ⟨hl, h⟩ := h; unfold PySem.W.instObj at hl; wp_walk; exact ⟨_, rfl, h⟩
theorem int_eq_own (a : Int) (t : Tok) (x C dx : Addr) : Meets (Builtin.«int.__eq__» ⟨[.int a t, .ref x], []⟩) (fun _ R s => s.heap.get? x = some (PySem.W.instObj C dx) ∧ R (.ok (.ret Value.notImplemented)) s) :=
  .of_wp fun prog w A R s h => by obtain ⟨hp, g, d, tk, os⟩ := s; obtain ⟨hl, h⟩ := h; unfold PySem.W.instObj at hl; wp_walk; exact ⟨_, rfl, h⟩
theorem int_ne_own (a : Int) (t : Tok) (x C dx : Addr) : Meets (Builtin.«int.__ne__» ⟨[.int a t, .ref x], []⟩) (fun _ R s => s.heap.get? x = some (PySem.W.instObj C dx) ∧ R (.ok (.ret Value.notImplemented)) s) :=
  .of_wp fun prog w A R s h => by obtain ⟨hp, g, d, tk, os⟩ := s; obtain ⟨hl, h⟩ := h; unfold PySem.W.instObj at hl; wp_walk; exact ⟨_, rfl, h⟩
section
open PySem.W PySem.Calls
variable {prog : Program} {w : World} {A : Around} {E : Value → Shared → Prop} {s : Shared} {K : Frag} {x C L f g dx : Addr} {h₀ : Heap} {m : Str → Option Value} {od : Option Obj}
theorem cmp_refl {op : CmpOp} {n : Int} {t : Tok} {id : String} {B : Builtin} {Q : Value → Shared → Prop} (hu : A.units < cLine) (F : Fr h₀ L s.heap m) (X₀ : K.In h₀) (I : PySem.W.InstAt s.heap x (PySem.W.instObj C dx) C od)
    (hr : findIn K (.ref C) (cmpInfo op).2.2 = some (some (.ref g))) (hg : isFn K (.ref g) = true)
    (hsub : subIn K (.ref C) (.type "int") = some false) (slot : Slot "int" (cmpInfo op).2.1 id) (entry : entryFor table id = some B) (args : argsOk id ⟨[.int n t, .ref x], []⟩)
    (mt : Meets (B ⟨[.int n t, .ref x], []⟩) (fun _ R s => s.heap.get? x = some (PySem.W.instObj C dx) ∧ R (.ok (.ret Value.notImplemented)) s))
    (h : wpAny (model prog w) A (call (.ref g) [.ref x, .int n t]) (PySem.W.CmpBack Q) E s) : wpAny (model prog w) A (richCompare op (.int n t) (.ref x)) Q E s := by
  have X := X₀.keeps F.keep
  have one : wpAny (model prog w) A (tryCompare (.ref x) (cmpInfo op).2.2 (.int n t)) (fun r s' => ∃ v, r = some v ∧ Q v s') E s := by
    unfold tryCompare
    refine wpAny_bind (ifBound_K X I hr hg (wpAny_mono h (fun v s' hv => ?_) fun _ _ e => e))
    cases v <;> first | exact hv.elim | exact wpAny_pure ⟨_, rfl, hv⟩
  have ot : oneThing? op (.int n t) (.ref x) = none := rfl
  unfold richCompare
  simp only [ot]
  refine wpAny_holding (wpAny_bind (wpAny_cRoomFor hu ?_))
  refine wpAny_bind (wpAny_typeOf (typeIs_int s n t) (wpAny_bind (I.type.here ?_)))
  have hne : (Value.type "int" != Value.ref C) = true := by
    rw [bne_iff_ne]
    intro q
    cases q
  simp only [hne, if_true]
  refine wpAny_bind ((looks_subIn X hsub).here ?_)
  simp only [Bool.false_eq_true, if_false, Bool.not_false, if_true]
  refine wpAny_bind (wpAny_tryCompare_declines (typeIs_int s n t) slot (call_meets slot (typeIs_int s n t) entry args mt ⟨I.at_, ?_⟩))
  refine ⟨rfl, ?_⟩
  refine wpAny_bind (wpAny_mono one (fun r s' hr' => ?_) fun _ _ e => e)
  obtain ⟨v, rfl, hq⟩ := hr'
  exact wpAny_pure hq
end
section
variable {X : Cx} {k : Nat} {C : Addr} {ps : List Str} {sp : Sp} {op : CmpOp}
def oB (Q : VK) : VK := fun v H2 => ∃ b, v = .bl b ∧ Q (.bl b) H2
/-- own op y: y of the same class -/
def cOO (C : Addr) (sp : Sp) : R2 := fun x y H Q => ∃ (a dx : Addr) (gs : List (Str × V)) (b dy : Addr) (hs : List (Str × V)), x = .ref a ∧ H a = some (.ins C dx gs) ∧ y = .ref b ∧ H b = some (.ins C dy hs) ∧ sp [.ref a, .ref b] H (oB Q) E0
def cOI (C : Addr) (sp : Sp) : R2 := fun x y H Q => ∃ (a dx : Addr) (gs : List (Str × V)) (n : Int), x = .ref a ∧ H a = some (.ins C dx gs) ∧ y = .int n ∧ sp [.ref a, .int n] H (oB Q) E0
def cIO (C : Addr) (sp : Sp) : R2 := fun x y H Q => ∃ (a dx : Addr) (gs : List (Str × V)) (n : Int), y = .ref a ∧ H a = some (.ins C dx gs) ∧ x = .int n ∧ sp [.ref a, .int n] H (oB Q) E0
theorem backB {pins : List (Addr × Obj)} {σ : L2.St} {Q : VK} {r : Value} {s' : Shared} (h : EP X pins σ (oB Q) r s') : PySem.W.CmpBack (EP X pins σ Q) r s' := by
  obtain ⟨z, H2, I2, rz, c, rfl, q2⟩ := h
  cases rz
  exact ⟨V.bl c, H2, I2, rfl, q2⟩
theorem cmp_oo (hop : ∀ a b, compareOp op a b = richCompare op a b) (M : OpOwn X.prog X.w X.K X.mg X.base k C (cmpInfo op).2.1 ps sp) (hu : X.A.units < cLine) (hr : Room k X.A) : OpR X (compareOp op) (cOO C sp) := by
  obtain ⟨f, fd, hs, hf, F, b⟩ := M.ex
  intro pins s σ H x y v u Q I rx ry h
  obtain ⟨a, dx, gs, b', dy, gs', rfl, ea, rfl, eb, q⟩ := h
  cases rx
  cases ry
  obtain ⟨mA, J, _⟩ := ins_get I.hok ea
  obtain ⟨od, J, _⟩ := J.look
  obtain ⟨mB, J', _⟩ := ins_get I.hok eb
  obtain ⟨od', J', _⟩ := J'.look
  obtain ⟨m, hF⟩ := I.fr
  rw [hop]
  refine PySem.W.cmp_K hu hF I.ok.mod.kin J J'.type (by unfold PySem.W.notFirst; simp) hs hf (wpAny_mono (run_fn F hr b (dvs := []) .nil pass0 I (.cons (show RelV (.ref a) (.ref a) from rfl) (.cons (show RelV (.ref b') (.ref b') from rfl) .nil)) q) (fun r s' hr => backB hr) fun _ _ z => z)
theorem cmp_oi (hop : ∀ a b, compareOp op a b = richCompare op a b) (M : OpOwn X.prog X.w X.K X.mg X.base k C (cmpInfo op).2.1 ps sp) (hsub : PySem.W.subIn X.K (.type "int") (.ref C) = some false) (hu : X.A.units < cLine) (hr : Room k X.A) : OpR X (compareOp op) (cOI C sp) := by
  obtain ⟨f, fd, hs, hf, F, b⟩ := M.ex
  intro pins s σ H x y v u Q I rx ry h
  obtain ⟨a, dx, gs, n, rfl, ea, rfl, q⟩ := h
  cases rx
  obtain ⟨t, rfl⟩ := ry
  obtain ⟨mA, J, _⟩ := ins_get I.hok ea
  obtain ⟨od, J, _⟩ := J.look
  obtain ⟨m, hF⟩ := I.fr
  rw [hop]
  refine PySem.W.cmp_K (tb := .type "int") hu hF I.ok.mod.kin J (PySem.W.Looks.of_pure rfl) (by unfold PySem.W.notFirst; rw [hsub]; simp) hs hf (wpAny_mono (run_fn F hr b (dvs := []) .nil pass0 I (.cons (show RelV (.ref a) (.ref a) from rfl) (.cons (show RelV (.int n) (.int n t) from ⟨_, rfl⟩) .nil)) q) (fun r s' hr => backB hr) fun _ _ z => z)
theorem cmp_io {id : String} {B : Builtin} (hop : ∀ a b, compareOp op a b = richCompare op a b) (M : OpOwn X.prog X.w X.K X.mg X.base k C (cmpInfo op).2.2 ps sp) (hsub : PySem.W.subIn X.K (.ref C) (.type "int") = some false) (slot : Slot "int" (cmpInfo op).2.1 id) (entry : entryFor table id = some B) (args : ∀ a b, argsOk id ⟨[a, b], []⟩)
    (mt : ∀ (n : Int) (t : Tok) (x C dx : Addr), Meets (B ⟨[.int n t, .ref x], []⟩) (fun _ R s => s.heap.get? x = some (PySem.W.instObj C dx) ∧ R (.ok (.ret Value.notImplemented)) s)) (hu : X.A.units < cLine) (hr : Room k X.A) : OpR X (compareOp op) (cIO C sp) := by
  obtain ⟨f, fd, hs, hf, F, b⟩ := M.ex
  intro pins s σ H x y v u Q I rx ry h
  obtain ⟨a, dx, gs, n, rfl, ea, rfl, q⟩ := h
  cases ry
  obtain ⟨t, rfl⟩ := rx
  obtain ⟨mA, J, _⟩ := ins_get I.hok ea
  obtain ⟨od, J, _⟩ := J.look
  obtain ⟨m, hF⟩ := I.fr
  rw [hop]
  refine cmp_refl hu hF I.ok.mod.kin J hs hf hsub slot entry (args _ _) (mt n t a C dx) (wpAny_mono (run_fn F hr b (dvs := []) .nil pass0 I (.cons (show RelV (.ref a) (.ref a) from rfl) (.cons (show RelV (.int n) (.int n t) from ⟨_, rfl⟩) .nil)) q) (fun r s' hr => backB hr) fun _ _ z => z)
end
end Bx

set_option Elab.async false
set_option linter.all false
set_option maxRecDepth 100000
set_option maxHeartbeats 4000000
namespace Bx
open PySem PySem.Spec PyProof.Rows L2 Fl
section
variable {X : Cx} {k : Nat} {C : Addr} {x m : Str} {ps : List Str} {dvs : List V} {sp : Sp} {E : L2.St → XK} {p pos apos : Pos} {e o : Expr} {es : List Expr} {t : TA} {tv ta : TE}
/-- v(e, ..), v a local that holds the class at C -/
def tMakeV (C : Addr) (sp : Sp) (dvs : List V) (E : L2.St → XK) (tv : TE) (t : TA) : TE := fun σ H Q => tv σ H fun v H1 => v = .ref C ∧ t σ H1 fun vs H2 => ∀ x dx, H2 x = none → H2 dx = none → dx ≠ x →
  sp (.ref x :: (vs ++ dvs)) (upd (upd H2 dx (.own x)) x (.ins C dx [])) (fun v H2 => v = .non ∧ Q (.ref x) H2) (E σ)
theorem pe_mkV (M : CalC X.prog X.w X.K X.mg X.base (L2.CX X.prog X.w) k C x ps dvs sp) (hx : ∀ σ, PassesAt (L2.CX X.prog X.w) X σ (E σ)) (hr : Room (k + 1) X.A) {y : Str} (hv : PE X (.Name y p) tv) (ha : PA X (e :: es) t)
    (he : starEach (e :: es) X.env = (false, eval e X.env) :: starEach es X.env := by rfl) (hpl : (backTo pos (starEach es X.env)).any (·.1) = false := by rfl) :
    PE X (.Call (.Name y p) (e :: es) [] pos) (tMakeV C sp dvs E tv t) := by
  obtain ⟨f, fd, ds, M, F, hm, hb, hd⟩ := M.ex
  refine ⟨fun pins s σ H Q I h => ?_⟩
  refine wpAny_Call_Name_kw (thn (hv.run pins s σ H _ I h) fun u s1 ⟨v, H1, I1, rv, ev, q⟩ => ?_)
  subst ev
  cases rv
  refine PySem.W.callWith_K (h₀ := X.base) I1.ok.mod.kin M.kp (thn (ha.run pos pins s1 σ H1 _ I1 q) fun us s2 ⟨vs, H2, I2, r, q2⟩ => ⟨I2.kIn, ?_⟩) he hpl
  exact run_makeS (E := E) M F hr hb hd (hx σ) I2 r q2
/-- a classmethod of C by the name m -/
structure CalCM (P : Program) (w : World) (K : PySem.W.Frag) (mg : Str → Option Value) (base : Heap) (k : Nat) (C : Addr) (m : Str) (ps : List Str) (sp : Sp) : Prop where
  ex : ∃ (mc : Value) (p g : Addr) (fd : FuncData), ClX.CRead K C mc ∧ ClX.CMet K C mc m p g ∧ FnOk P w K mg base (L2.CX P w) k g fd ps sp ∧ Binds K fd ps []
def tCMethS (C : Addr) (sp : Sp) (E : L2.St → XK) (ta : TE) (t : TA) : TE := fun σ H Q => ta σ H fun x H1 => x = .ref C ∧ t σ H1 fun vs H2 => sp (.ref C :: vs) H2 Q (E σ)
theorem pe_cm {pl : Sem Bool} (M : CalCM X.prog X.w X.K X.mg X.base k C m ps sp) (hx : ∀ σ, PassesAt (L2.CX X.prog X.w) X σ (E σ)) (hr : Room k X.A) (he : PE X o ta) (ha : PA X (e :: es) t)
    (hst : starEach (e :: es) X.env = (false, eval e X.env) :: starEach es X.env := by rfl) (hpl : (backTo pos (starEach es X.env)).any (·.1) = false := by rfl)
    (ht : eval (.Call (.Attribute o m apos) (e :: es) [] pos) X.env = (do
      let ov ← eval o X.env
      standAt apos.atName
      let (f, first) ← holding [ov] (getMethod ov m pl)
      callWith pos f first (backTo pos (starEach (e :: es) X.env)) (backToKw pos (keywordEach [] X.env))) := by rfl) :
    PE X (.Call (.Attribute o m apos) (e :: es) [] pos) (tCMethS C sp E ta t) := by
  obtain ⟨mc, pp, g, fd, r, c, F, b⟩ := M.ex
  refine ⟨fun pins s σ H Q I h => ?_⟩
  refine PySem.W.methodCall_KW (pl := pl) (thn (he.run pins s σ H _ I h) fun u s1 ⟨x, H1, I1, rx, ex, q⟩ => ?_) ht
  subst ex
  obtain rfl : u = Value.ref C := rx
  refine ClX.getmethcm_ok I1 r c fun s2 I2 => ?_
  refine ClX.callwith_cm I2 (ClX.base_none I1 (Nat.le_refl _)) c.fi (thn (ha.run pos _ s2 σ H1 _ I2 q) fun us s3 ⟨vs, H2, I3, rv, q2⟩ => ⟨⟨ClX.pin_at I3, I3.kIn⟩, ?_⟩) hst hpl
  have hl := F.len _ _ _ _ q2
  have r2 : Vals (V.ref C :: vs) (Value.ref C :: us) := .cons (show RelV (.ref C) (.ref C) from rfl) rv
  have bb := b s3 (Value.ref C :: us) I3.kIn (by rw [List.append_nil, ← r2.length]; exact hl)
  rw [List.append_nil] at bb
  have z : wpAny (model X.prog X.w) X.A (call (.ref s1.heap.objs.size) us) (EP X ((s1.heap.objs.size, PySem.W.methodObj (.ref g) (.ref C)) :: pins) σ Q) X.xe s3 := by
    refine wpAny_call (PySem.W.method_call (ClX.pin_at I3) (codeAny_mono (F.run X.A X.stack s3 H2 ⟨Value.ref C :: us, []⟩ (Value.ref C :: us) (V.ref C :: vs) Q (E σ) hr I3.env0 bb r2 q2) fun r s' hq => ?_))
    cases r with
    | error e => exact hx σ _ H2 s3 e s' I3 hq
    | ok fl =>
      cases fl with
      | ret u => exact I3.after hq
      | next => exact False.elim hq
      | brk => exact False.elim hq
      | cont => exact False.elim hq
  exact thn z fun _ _ y => ClX.unpinE y
end
end Bx

set_option Elab.async false
set_option linter.all false
set_option maxRecDepth 100000
set_option maxHeartbeats 4000000
namespace Fl
open PySem PySem.Spec PyProof.Rows L2
/-! ### what stands in a heap, as a list of places and objects -/
def Al (fs : List (Addr × HO)) (H : Hp) : Prop := ∀ a o, (a, o) ∈ fs → H a = some o
theorem Al.nil {H : Hp} : Al [] H := fun _ _ h => nomatch h
theorem Al.at {fs : List (Addr × HO)} {H : Hp} {a : Addr} {o : HO} (W : Al fs H) (h : (a, o) ∈ fs) : H a = some o := W a o h
theorem Al.same {fs : List (Addr × HO)} {H H' : Hp} (W : Al fs H) (s : Same H H') : Al fs H' := fun a o h => s a o (W a o h)
theorem Al.got {fs : List (Addr × HO)} {H : Hp} {a : Addr} {o : HO} (W : Al fs H) (h : H a = some o) : Al ((a, o) :: fs) H := fun b u hm => by
  rcases List.mem_cons.mp hm with e | e
  · cases e
    exact h
  · exact W b u e
theorem Al.new {fs : List (Addr × HO)} {H : Hp} {a : Addr} {o : HO} (W : Al fs H) (h : H a = none) : Al ((a, o) :: fs) (upd H a o) := (W.same (same_upd h)).got upd_same
structure Wd (p : Pla) (fs : List (Addr × HO)) (H : Hp) : Prop where
  P : Pool H p
  W : Al fs H
  n : ∀ a o, (a, o) ∈ fs → a ≠ p.p
theorem Wd.nil {p : Pla} {H : Hp} (h : Pool H p) : Wd p [] H := ⟨h, Al.nil, fun _ _ h => nomatch h⟩
theorem Wd.at {p : Pla} {fs : List (Addr × HO)} {H : Hp} {a : Addr} {o : HO} (W : Wd p fs H) (h : (a, o) ∈ fs) : H a = some o := W.W a o h
theorem Wd.same {p : Pla} {fs : List (Addr × HO)} {H H' : Hp} (W : Wd p fs H) (s : Same H H') : Wd p fs H' := ⟨W.P.same s, W.W.same s, W.n⟩
theorem Wd.keep {p : Pla} {fs : List (Addr × HO)} {H H' : Hp} (W : Wd p fs H) (hP : Pool H' p) (k : Keeps H H' p.p) : Wd p fs H' := ⟨hP, fun a o h => k a o (W.W a o h) (W.n a o h), W.n⟩
theorem Wd.got {p : Pla} {fs : List (Addr × HO)} {H : Hp} {a : Addr} {o : HO} (W : Wd p fs H) (h : H a = some o) (ne : ∀ xs, o ≠ .lst xs) : Wd p ((a, o) :: fs) H := ⟨W.P, W.W.got h, fun b u hm => by
  rcases List.mem_cons.mp hm with e | e
  · cases e
    obtain ⟨ns, i, b, c, d, h1, _⟩ := W.P
    exact ne_of h h1 (ne _)
  · exact W.n b u e⟩
theorem Wd.new {p : Pla} {fs : List (Addr × HO)} {H : Hp} {a : Addr} {o : HO} (W : Wd p fs H) (h : H a = none) : Wd p ((a, o) :: fs) (upd H a o) := ⟨W.P.upd h, W.W.new h, fun b u hm => by
  rcases List.mem_cons.mp hm with e | e
  · cases e
    exact (W.P.apart h).1
  · exact W.n b u e⟩
/-! ### tests whose answer is known -/
theorem itT {p : Prop} [Decidable p] {A B : Prop} (h : p) (a : A) : if decide p = true then A else B := by rw [decide_eq_true h]; exact iteT a
theorem itF {p : Prop} [Decidable p] {A B : Prop} (h : ¬ p) (b : B) : if decide p = true then A else B := by rw [decide_eq_false h]; exact iteF b
theorem niT {p : Prop} [Decidable p] {A B : Prop} (h : p) (b : B) : if (!decide p) = true then A else B := by rw [decide_eq_true h]; exact iteF b
theorem niF {p : Prop} [Decidable p] {A B : Prop} (h : ¬ p) (a : A) : if (!decide p) = true then A else B := by rw [decide_eq_false h]; exact iteT a
theorem ieT {a b : Int} {A B : Prop} (h : a = b) (x : A) : if decide (V.int a = V.int b) = true then A else B := itT (by rw [h]) x
theorem ieF {a b : Int} {A B : Prop} (h : a ≠ b) (x : B) : if decide (V.int a = V.int b) = true then A else B := itF (fun e => h (V.int.inj e)) x
theorem jeT {a b : Int} {A B : Prop} (h : a = b) (x : B) : if (!decide (V.int a = V.int b)) = true then A else B := niT (by rw [h]) x
theorem jeF {a b : Int} {A B : Prop} (h : a ≠ b) (x : A) : if (!decide (V.int a = V.int b)) = true then A else B := niF (fun e => h (V.int.inj e)) x
/-! ### values that are known -/
theorem vT {Q : VK} {H : Hp} {p : Prop} [Decidable p] (h : p) (q : Q (.bl true) H) : Q (.bl (decide p)) H := by rw [decide_eq_true h]; exact q
theorem vF {Q : VK} {H : Hp} {p : Prop} [Decidable p] (h : ¬ p) (q : Q (.bl false) H) : Q (.bl (decide p)) H := by rw [decide_eq_false h]; exact q
theorem veT {Q : VK} {H : Hp} {a b : Int} (h : a = b) (q : Q (.bl true) H) : Q (.bl (decide (V.int a = V.int b))) H := vT (by rw [h]) q
theorem veF {Q : VK} {H : Hp} {a b : Int} (h : a ≠ b) (q : Q (.bl false) H) : Q (.bl (decide (V.int a = V.int b))) H := vF (fun e => h (V.int.inj e)) q
/-! ### bounds -/
theorem ba {i j : Int} {a : Nat} (h1 : i.natAbs < 2 ^ a) (h2 : j.natAbs < 2 ^ a) : (i + j).natAbs < 2 ^ (a + 1) := by
  rw [Nat.pow_succ]
  generalize 2 ^ a = z at *
  omega
theorem bs {i j : Int} {a : Nat} (h1 : i.natAbs < 2 ^ a) (h2 : j.natAbs < 2 ^ a) : (i - j).natAbs < 2 ^ (a + 1) := by
  rw [Nat.pow_succ]
  generalize 2 ^ a = z at *
  omega
theorem bn {i : Int} {a : Nat} (h1 : i.natAbs < 2 ^ a) : (-i).natAbs < 2 ^ a := by
  rw [Int.natAbs_neg]
  exact h1
theorem ub {n : Int} {a b : Nat} (h : n.natAbs < 2 ^ a) (k : a ≤ b) : n.natAbs < 2 ^ b := Nat.lt_of_lt_of_le h (Nat.pow_le_pow_right (by decide) k)
end Fl
namespace Fl
open PySem PySem.Spec PyProof.Rows L2
theorem Al.drop {x : Addr × HO} {fs : List (Addr × HO)} {H : Hp} (W : Al (x :: fs) H) : Al fs H := fun a o h => W a o (List.mem_cons_of_mem _ h)
theorem Wd.drop {p : Pla} {x : Addr × HO} {fs : List (Addr × HO)} {H : Hp} (W : Wd p (x :: fs) H) : Wd p fs H := ⟨W.P, W.W.drop, fun a o h => W.n a o (List.mem_cons_of_mem _ h)⟩
end Fl

set_option Elab.async false
set_option linter.all false
set_option maxRecDepth 100000
set_option maxHeartbeats 4000000
namespace Bx
open PySem PySem.Spec PyProof.Rows L2 Fl
section
open PySem.W PySem.Calls
variable {prog : Program} {w : World} {A : Around} {E : Value → Shared → Prop} {s : Shared} {K : Frag} {x C L f dx : Addr} {h₀ : Heap} {m : Str → Option Value} {od : Option Obj} {ox : Obj} {b tb : Value}
open Builtin in
theorem obj_ne {Q : Value → Shared → Prop} (hu : A.in1.units < cLine) (X : K.In s.heap) (I : PySem.W.InstAt s.heap x ox C od) (hm : mroIn K C (.type "object") = some true) (hs : findIn K (.ref C) "__eq__" = some (some (.ref f))) (hf : isFn K (.ref f) = true)
    (h : wpAny (model prog w) A.in1 (call (.ref f) [.ref x, b]) (fun v s' => ∃ c, v = .bool c ∧ Q (.bool (!c)) s') E s) : wpAny (model prog w) A (call (.builtin "object.__ne__") [.ref x, b]) Q E s := by
  refine wpAny_call (codeAny_call_builtin PySem.F.slot_object_ne.plain PySem.F.entry_object_ne (check_slot (i := "object.__ne__") (owner := "object") (n := "__ne__") (by decide +kernel) (by decide +kernel) (I.type.andThen (looks_mroIn X hm)) (PySem.F.args_object_ne_2 _ _) ?_))
  unfold Builtin.«object.__ne__»
  refine wpAny_bind (m := slotArgs "__ne__" 1 _) (wpAny_pure ?_)
  refine wpAny_bind (m := cRoomFor _ _) (wpAny_cRoomFor hu ?_)
  refine wpAny_bind (m := callSpecialIfBound? (.ref x) (Str.ofString "__eq__") _) (ifBound_K X I hs hf (wpAny_mono h (fun r s' hq => ?_) fun _ _ y => y))
  obtain ⟨c, rfl, hq⟩ := hq
  exact wpAny_bind (m := truthy (.bool _)) (wpAny_truthy_bool (wpAny_pure hq))
theorem try_ne {Q : Value → Shared → Prop} (hu : A.in1.units < cLine) (X : K.In s.heap) (I : PySem.W.InstAt s.heap x ox C od) (hm : mroIn K C (.type "object") = some true) (hN : findIn K (.ref C) "__ne__" = some (some (.builtin "object.__ne__"))) (hs : findIn K (.ref C) "__eq__" = some (some (.ref f))) (hf : isFn K (.ref f) = true)
    (h : wpAny (model prog w) A.in1 (call (.ref f) [.ref x, b]) (fun v s' => ∃ c, v = .bool c ∧ Q (.bool (!c)) s') E s) : wpAny (model prog w) A (tryCompare (.ref x) "__ne__" b) (fun r s' => ∃ v, r = some v ∧ Q v s') E s := by
  have fin : wpAny (model prog w) A (call (.builtin "object.__ne__") [.ref x, b] >>= fun v => pure (some v)) (fun r s' => ∃ c, r = some (.bool c) ∧ Q (.bool c) s') E s :=
    wpAny_bind (wpAny_mono (obj_ne (Q := fun v s' => ∃ c, v = .bool c ∧ Q (.bool c) s') hu X I hm hs hf (wpAny_mono h (fun v s' ⟨c, e, q⟩ => ⟨c, e, _, rfl, q⟩) fun _ _ e => e)) (fun v s' ⟨c, e, q⟩ => wpAny_pure ⟨c, by rw [e], q⟩) fun _ _ e => e)
  unfold tryCompare
  refine wpAny_bind (wpAny_mono (Q := fun r s' => ∃ c, r = some (.bool c) ∧ Q (.bool c) s') ?_ (fun r s' ⟨c, e, q⟩ => ?_) fun _ _ e => e)
  · simp only [callSpecialIfBound?, bindSpecialIfBound?]
    refine wpAny_holding (wpAny_bind (wpAny_bind (wpAny_bind (I.type.here ((looks_findIn X hN).here ?_)))))
    refine wpAny_bind (wpAny_askSetting (wpAny_ite ?_))
    split
    · exact wpAny_bind ((Looks.of_pure (PySem.F.slot_object_ne.bind _)).here (wpAny_pure (by exact fin)))
    · exact wpAny_tryCatch (wpAny_bind ((Looks.of_pure (PySem.F.slot_object_ne.bind _)).here (wpAny_pure (by exact fin))))
  · subst e
    exact wpAny_pure ⟨_, rfl, q⟩
theorem ne_K {Q : Value → Shared → Prop} (hu : A.in1.units < cLine) (hu0 : A.units < cLine) (F : Fr h₀ L s.heap m) (X₀ : K.In h₀) (I : PySem.W.InstAt s.heap x ox C od) (hb : Looks (model prog w) s.heap (typeOf b) tb) (hn : notFirst K C tb = true) (hm : mroIn K C (.type "object") = some true)
    (hN : findIn K (.ref C) "__ne__" = some (some (.builtin "object.__ne__"))) (hs : findIn K (.ref C) "__eq__" = some (some (.ref f))) (hf : isFn K (.ref f) = true)
    (h : wpAny (model prog w) A.in1 (call (.ref f) [.ref x, b]) (fun v s' => ∃ c, v = .bool c ∧ Q (.bool (!c)) s') E s) : wpAny (model prog w) A (richCompare .NotEq (.ref x) b) Q E s := by
  have X := X₀.keeps F.keep
  have one := try_ne (Q := Q) hu X I hm hN hs hf h
  unfold richCompare
  simp only [oneThing_ref]
  refine wpAny_holding (wpAny_bind (wpAny_cRoomFor hu0 ?_))
  refine wpAny_bind (I.type.here (wpAny_bind (hb.here ?_)))
  unfold notFirst at hn
  by_cases hne : (Value.ref C != tb) = true
  · simp only [hne, if_true]
    by_cases h0 : subIn K tb (.ref C) = some false
    · refine wpAny_bind ((looks_subIn X h0).here ?_)
      simp only [Bool.false_eq_true, if_false]
      refine wpAny_bind (wpAny_mono one (fun r s' hr' => ?_) fun _ _ e => e)
      obtain ⟨v, rfl, hq⟩ := hr'
      exact wpAny_pure hq
    · exfalso
      have e : (tb == Value.ref C) = false := by
        rw [beq_eq_false_iff_ne]
        intro q
        rw [q] at hne
        simp at hne
      simp [e, h0] at hn
  · simp only [hne, Bool.false_eq_true, if_false]
    refine wpAny_bind (wpAny_pure ?_)
    simp only [Bool.false_eq_true, if_false]
    refine wpAny_bind (wpAny_mono one (fun r s' hr' => ?_) fun _ _ e => e)
    obtain ⟨v, rfl, hq⟩ := hr'
    exact wpAny_pure hq
theorem ne_refl {n : Int} {t : Tok} {Q : Value → Shared → Prop} (hu : A.in1.units < cLine) (hu0 : A.units < cLine) (F : Fr h₀ L s.heap m) (X₀ : K.In h₀) (I : PySem.W.InstAt s.heap x (PySem.W.instObj C dx) C od) (hm : mroIn K C (.type "object") = some true)
    (hN : findIn K (.ref C) "__ne__" = some (some (.builtin "object.__ne__"))) (hs : findIn K (.ref C) "__eq__" = some (some (.ref f))) (hf : isFn K (.ref f) = true) (hsub : subIn K (.ref C) (.type "int") = some false)
    (h : wpAny (model prog w) A.in1 (call (.ref f) [.ref x, .int n t]) (fun v s' => ∃ c, v = .bool c ∧ Q (.bool (!c)) s') E s) : wpAny (model prog w) A (richCompare .NotEq (.int n t) (.ref x)) Q E s := by
  have X := X₀.keeps F.keep
  have one := try_ne (Q := Q) hu X I hm hN hs hf h
  have ot : oneThing? .NotEq (.int n t) (.ref x) = none := rfl
  unfold richCompare
  simp only [ot]
  refine wpAny_holding (wpAny_bind (wpAny_cRoomFor hu0 ?_))
  refine wpAny_bind (wpAny_typeOf (typeIs_int s n t) (wpAny_bind (I.type.here ?_)))
  have hne : (Value.type "int" != Value.ref C) = true := by
    rw [bne_iff_ne]
    intro q
    cases q
  simp only [hne, if_true]
  refine wpAny_bind ((looks_subIn X hsub).here ?_)
  simp only [Bool.false_eq_true, if_false, Bool.not_false, if_true]
  refine wpAny_bind (wpAny_tryCompare_declines (typeIs_int s n t) PySem.F.slot_int_ne (call_meets PySem.F.slot_int_ne (typeIs_int s n t) PySem.F.entry_int_ne (PySem.F.args_int_ne_2 _ _) (int_ne_own n t x C dx) ⟨I.at_, ?_⟩))
  refine ⟨rfl, ?_⟩
  refine wpAny_bind (wpAny_mono one (fun r s' hr' => ?_) fun _ _ e => e)
  obtain ⟨v, rfl, hq⟩ := hr'
  exact wpAny_pure hq
end
end Bx

set_option Elab.async false
set_option linter.all false
set_option maxRecDepth 100000
set_option maxHeartbeats 4000000
namespace Bx
open PySem PySem.Spec PyProof.Rows L2 Fl
section
open PySem.W PySem.Calls
variable {prog : Program} {w : World} {A : Around} {E : Value → Shared → Prop} {s : Shared}
theorem bool_in (x : Value) : MeetsIn prog w (Builtin.«bool.__new__» ⟨[.type "bool", x], []⟩) (fun A R s => wpAny (model prog w) A.in1 (truthy x) (fun c s' => R (.ok (.ret (.bool c))) s') (fun e s' => R (.error e) s') s) :=
  .of_wp fun A R s h => by
    have f1 := F.conv_sub_bool
    obtain ⟨hp, g, d, tk, os⟩ := s
    repeat (any_goals (first | assumption | (with_reducible refine wpAny_mono h (fun c s' q => ?_) fun _ _ z => z) | wp_step))
    all_goals first | exact ⟨_, rfl, q⟩ | exact q | skip
theorem call_bool_own {x : Value} {Q : Value → Shared → Prop} (h : wpAny (model prog w) A.in1.in1 (truthy x) (fun c s' => Q (.bool c) s') E s) : wpAny (model prog w) A (call (.type "bool") [x]) Q E s :=
  callType_newIn F.called_bool F.newNe_bool (F.typeCall_bool_1 x) (F.newCall_bool_1 x) (fun obj => F.args_object_init_2 obj x) F.entry_bool_new (bool_in x) (wpAny_mono h (fun c s' q => ⟨rfl, q⟩) fun _ _ z => z)
end
end Bx
namespace Bx
open PySem PySem.Spec PyProof.Rows L2 Fl
section
variable {X : Cx} {k : Nat} {C : Addr} {ps : List Str} {sp : Sp}
/-- a def of one's own run one frame in -/
theorem run_in1 {pins : List (Addr × Obj)} {s : Shared} {σ : L2.St} {H : Hp} {f : Addr} {fd : FuncData} {us : List Value} {vs : List V} {Q : VK} (F : FnOk X.prog X.w X.K X.mg X.base CX0 k f fd ps sp) (bd : Binds X.K fd ps []) (hr : Room (k + 1) X.A) (I : Inv X pins σ H s) (r : Vals vs us) (q : sp vs H Q E0) :
    wpAny (model X.prog X.w) X.A.in1 (call (.ref f) us) (EP X pins σ Q) X.xe s := by
  have hl := F.len _ _ _ _ q
  have bb := bd s us I.kIn (by rw [List.append_nil]; rw [← r.length]; exact hl)
  rw [List.append_nil] at bb
  refine wpAny_call (codeAny_mono (F.run X.A.in1 X.stack s H ⟨us, []⟩ us vs Q E0 hr.in1 I.env0.in1 bb r q) fun r s' hq => ?_)
  cases r with
  | error e => exact pass0 pins σ H s e s' I hq
  | ok fl =>
    cases fl with
    | ret z => exact I.after hq
    | next => exact False.elim hq
    | brk => exact False.elim hq
    | cont => exact False.elim hq
theorem run_in2 {pins : List (Addr × Obj)} {s : Shared} {σ : L2.St} {H : Hp} {f : Addr} {fd : FuncData} {us : List Value} {vs : List V} {Q : VK} (F : FnOk X.prog X.w X.K X.mg X.base CX0 k f fd ps sp) (bd : Binds X.K fd ps []) (hr : Room (k + 2) X.A) (I : Inv X pins σ H s) (r : Vals vs us) (q : sp vs H Q E0) :
    wpAny (model X.prog X.w) X.A.in1.in1 (call (.ref f) us) (EP X pins σ Q) X.xe s := by
  have hl := F.len _ _ _ _ q
  have bb := bd s us I.kIn (by rw [List.append_nil]; rw [← r.length]; exact hl)
  rw [List.append_nil] at bb
  refine wpAny_call (codeAny_mono (F.run X.A.in1.in1 X.stack s H ⟨us, []⟩ us vs Q E0 hr.in1.in1 I.env0.in1.in1 bb r q) fun r s' hq => ?_)
  cases r with
  | error e => exact pass0 pins σ H s e s' I hq
  | ok fl =>
    cases fl with
    | ret z => exact I.after hq
    | next => exact False.elim hq
    | brk => exact False.elim hq
    | cont => exact False.elim hq
def oN (Q : VK) : VK := fun v H2 => ∃ c, v = .bl c ∧ Q (.bl (!c)) H2
theorem backN {pins : List (Addr × Obj)} {σ : L2.St} {Q : VK} {r : Value} {s' : Shared} (h : EP X pins σ (oN Q) r s') : ∃ c, r = .bool c ∧ EP X pins σ Q (.bool (!c)) s' := by
  obtain ⟨z, H2, I2, rz, c, rfl, q2⟩ := h
  cases rz
  exact ⟨c, rfl, V.bl (!c), H2, I2, rfl, q2⟩
structure NeC (K : PySem.W.Frag) (C : Addr) : Prop where
  hm : PySem.W.mroIn K C (.type "object") = some true
  hN : PySem.W.findIn K (.ref C) "__ne__" = some (some (.builtin "object.__ne__"))
  si : PySem.W.subIn K (.type "int") (.ref C) = some false
  sc : PySem.W.subIn K (.ref C) (.type "int") = some false
def nOX (C : Addr) (sp : Sp) : R2 := fun x y H Q => ∃ (a dx : Addr) (gs : List (Str × V)), x = .ref a ∧ H a = some (.ins C dx gs) ∧ ((∃ n : Int, y = .int n) ∨ ∃ (b dy : Addr) (hs : List (Str × V)), y = .ref b ∧ H b = some (.ins C dy hs)) ∧ sp [.ref a, y] H (oN Q) E0
def nIO (C : Addr) (sp : Sp) : R2 := fun x y H Q => ∃ (a dx : Addr) (gs : List (Str × V)) (n : Int), y = .ref a ∧ H a = some (.ins C dx gs) ∧ x = .int n ∧ sp [.ref a, .int n] H (oN Q) E0
theorem op_ne_ox (N : NeC X.K C) (M : OpOwn X.prog X.w X.K X.mg X.base k C "__eq__" ps sp) (hr : Room (k + 1) X.A) : OpR X (compareOp .NotEq) (nOX C sp) := by
  obtain ⟨f, fd, hs, hf, F, b⟩ := M.ex
  intro pins s σ H x y v u Q I rx ry h
  obtain ⟨a, dx, gs, rfl, ea, hy, q⟩ := h
  cases rx
  obtain ⟨mA, J, _⟩ := ins_get I.hok ea
  obtain ⟨od, J, _⟩ := J.look
  obtain ⟨m, hF⟩ := I.fr
  have run := run_in1 F b hr I (.cons (show RelV (.ref a) (.ref a) from rfl) (.cons ry .nil)) q
  have fin := wpAny_mono run (fun r s' z => backN z) fun _ _ z => z
  rcases hy with ⟨n, rfl⟩ | ⟨b', dy, gs', rfl, eb⟩
  · obtain ⟨t, rfl⟩ := ry
    exact ne_K (tb := .type "int") hr.in1.units0 hr.units0 hF I.ok.mod.kin J (PySem.W.Looks.of_pure rfl) (by unfold PySem.W.notFirst; rw [N.si]; simp) N.hm N.hN hs hf fin
  · cases ry
    obtain ⟨mB, J', _⟩ := ins_get I.hok eb
    obtain ⟨od', J', _⟩ := J'.look
    exact ne_K hr.in1.units0 hr.units0 hF I.ok.mod.kin J J'.type (by unfold PySem.W.notFirst; simp) N.hm N.hN hs hf fin
theorem op_ne_io (N : NeC X.K C) (M : OpOwn X.prog X.w X.K X.mg X.base k C "__eq__" ps sp) (hr : Room (k + 1) X.A) : OpR X (compareOp .NotEq) (nIO C sp) := by
  obtain ⟨f, fd, hs, hf, F, b⟩ := M.ex
  intro pins s σ H x y v u Q I rx ry h
  obtain ⟨a, dx, gs, n, rfl, ea, rfl, q⟩ := h
  cases ry
  obtain ⟨t, rfl⟩ := rx
  obtain ⟨mA, J, _⟩ := ins_get I.hok ea
  obtain ⟨od, J, _⟩ := J.look
  obtain ⟨m, hF⟩ := I.fr
  have run := run_in1 F b hr I (.cons (show RelV (.ref a) (.ref a) from rfl) (.cons (show RelV (.int n) (.int n t) from ⟨_, rfl⟩) .nil)) q
  exact ne_refl hr.in1.units0 hr.units0 hF I.ok.mod.kin J N.hm N.hN hs hf N.sc (wpAny_mono run (fun r s' z => backN z) fun _ _ z => z)
/-- own == y, y of a built-in type -/
def cOX (K : PySem.W.Frag) (C : Addr) (sp : Sp) : R2 := fun x y H Q => ∃ (a dx : Addr) (gs : List (Str × V)) (T : String), x = .ref a ∧ H a = some (.ins C dx gs) ∧ TyX K H y (.type T) ∧ PySem.W.subIn K (.type T) (.ref C) = some false ∧ sp [.ref a, y] H (oB Q) E0
theorem cmp_ox (M : OpOwn X.prog X.w X.K X.mg X.base k C "__eq__" ps sp) (hr : Room (k + 1) X.A) : OpR X (compareOp .Eq) (cOX X.K C sp) := by
  obtain ⟨f, fd, hs, hf, F, b⟩ := M.ex
  intro pins s σ H x y v u Q I rx ry h
  obtain ⟨a, dx, gs, T, rfl, ea, ty, hsub, q⟩ := h
  cases rx
  obtain ⟨mA, J, _⟩ := ins_get I.hok ea
  obtain ⟨od, J, _⟩ := J.look
  obtain ⟨m, hF⟩ := I.fr
  obtain ⟨P, kx, hp, _⟩ := kit_of I ry ty
  refine PySem.W.cmp_K (op := .Eq) hr.units0 hF I.ok.mod.kin J (kx.ty _ _ I.kIn hp) (by unfold PySem.W.notFirst; rw [hsub]; simp) hs hf ?_
  exact wpAny_mono (run_fn F (hr.mono (Nat.le_succ _)) b (dvs := []) .nil pass0 I (.cons (show RelV (.ref a) (.ref a) from rfl) (.cons ry .nil)) q) (fun r s' hr => backB hr) fun _ _ z => z
def rBoolO (C : Addr) (sp : Sp) : List V → Hp → VK → Prop := fun xs H Q => ∃ (a dx : Addr) (gs : List (Str × V)), xs = [.ref a] ∧ H a = some (.ins C dx gs) ∧ sp [.ref a] H (oB Q) E0
theorem call_boolO (M : OpOwn X.prog X.w X.K X.mg X.base k C "__bool__" ps sp) (hr : Room (k + 2) X.A) : CallR X (.type "bool") (rBoolO C sp) := by
  obtain ⟨f, fd, hs, hf, F, b⟩ := M.ex
  intro pins s σ H xs us Q I r h
  obtain ⟨a, dx, gs, rfl, ea, q⟩ := h
  obtain ⟨u, rfl, rx⟩ := vals1 r
  cases rx
  obtain ⟨mA, J, _⟩ := ins_get I.hok ea
  obtain ⟨od, J, _⟩ := J.look
  obtain ⟨m, hF⟩ := I.fr
  refine call_bool_own (PySem.W.truthy_K hF I.ok.mod.kin J hs hf (wpAny_mono (run_in2 F b hr I r q) (fun v s' hv => ?_) fun _ _ z => z))
  obtain ⟨z, H2, I2, rz, c, rfl, q2⟩ := hv
  cases rz
  exact ⟨V.bl c, H2, I2, rfl, q2⟩
def oS (Q : VK) : VK := fun v H2 => ∃ z, v = .str z ∧ Q (.str z) H2
def rStrO (C : Addr) (sp : Sp) : List V → Hp → VK → Prop := fun xs H Q => ∃ (a dx : Addr) (gs : List (Str × V)), xs = [.ref a] ∧ H a = some (.ins C dx gs) ∧ sp [.ref a] H (oS Q) E0
theorem call_strO (M : OpOwn X.prog X.w X.K X.mg X.base k C "__str__" ps sp) (hr : Room (k + 2) X.A) : CallR X (.type "str") (rStrO C sp) := by
  obtain ⟨f, fd, hs, hf, F, b⟩ := M.ex
  intro pins s σ H xs us Q I r h
  obtain ⟨a, dx, gs, rfl, ea, q⟩ := h
  obtain ⟨u, rfl, rx⟩ := vals1 r
  cases rx
  obtain ⟨mA, J, _⟩ := ins_get I.hok ea
  obtain ⟨od, J, _⟩ := J.look
  refine PySem.W.kso_call hr.in1.in1.units0 I.kIn J hs hf (wpAny_mono (run_in2 F b hr I r q) (fun v s' hv => ?_) fun _ _ z => z)
  obtain ⟨z, H2, I2, rz, c, rfl, q2⟩ := hv
  obtain ⟨t, rfl⟩ := rz
  exact ⟨V.str c, H2, I2, ⟨t, rfl⟩, q2⟩
def CPowW (i j : Int) : Prop := 0 ≤ j ∧ (Builtin.Int.intBits i : Int) * j ≤ 2 ^ 27
theorem op_powW : OpR X (binaryOp .Pow) (rI CPowW fun i j => .int (i ^ j.toNat)) := opI fun _ _ _ _ _ _ _ hc q => PyProof.Rows.pow_int hc.1 hc.2 q
end
end Bx

set_option Elab.async false
set_option linter.all false
set_option maxRecDepth 100000
set_option maxHeartbeats 4000000
set_option pp.maxSteps 160
set_option pp.deepTerms false
namespace L
open PySem PySem.Spec PyProof.Rows L2 Fl
local macro_rules | `(tactic| walk_at "side") => `(tactic| first | (exact .inl ⟨by omega, by omega⟩) | (exact .inr ⟨by omega, by omega⟩) | (exact .inr ⟨by decide, by decide⟩) | (show (_ : Int) ≠ _; omega) | (exact ⟨by omega, by decide⟩) | (exact ⟨by decide, by decide, by decide⟩))
local macro_rules | `(tactic| walk_at "go") => `(tactic| repeat (first | refine ⟨_, rfl, ?_⟩ | refine ⟨_, _, rfl, rfl, ?_⟩ | refine .inl ⟨_, rfl, ?_⟩ | refine ⟨rfl, ?_⟩ | refine ⟨(by walk_at "side"), ?_⟩))
local macro_rules | `(tactic| walk_at "see") => `(tactic| (set_option pp.maxSteps 110 in set_option pp.deepTerms false in trace_state))
local macro_rules | `(tactic| walk_at "if") => `(tactic| first | refine ifE ?_ ?_ | refine ifNE ?_ ?_ | refine ifD ?_ ?_ | refine ifN ?_ ?_ | refine ifB ?_ ?_)
def topS (i : Nat) : Stmt := PySem.Challenge.pw_fieldlots_k17_lines.main.body.getD i (.Pass ⟨0, 0, 0, 0⟩)
abbrev s_wall : Stmt := topS 1
theorem sc_wall : FnScope ["k"] ["k"] (defScope s_wall) := ⟨rfl, rfl, rfl, by decide +kernel, rfl, by decide +kernel, by decide +kernel⟩
abbrev s_BadNumber_init : Stmt := inClass (topS 5) 0
theorem sc_BadNumber_init : FnScope ["self", "name", "value"] ["self", "name", "value"] (defScope s_BadNumber_init) := ⟨rfl, rfl, rfl, by decide +kernel, rfl, by decide +kernel, by decide +kernel⟩
abbrev s_is_number : Stmt := topS 8
theorem sc_is_number : FnScope ["value"] ["value"] (defScope s_is_number) := ⟨rfl, rfl, rfl, by decide +kernel, rfl, by decide +kernel, by decide +kernel⟩
abbrev s_as_ratio : Stmt := topS 9
theorem sc_as_ratio : FnScope ["number"] ["number"] (defScope s_as_ratio) := ⟨rfl, rfl, rfl, by decide +kernel, rfl, by decide +kernel, by decide +kernel⟩
abbrev s_top_of : Stmt := topS 10
theorem sc_top_of : FnScope ["number"] ["number"] (defScope s_top_of) := ⟨rfl, rfl, rfl, by decide +kernel, rfl, by decide +kernel, by decide +kernel⟩
abbrev s_under_of : Stmt := topS 11
theorem sc_under_of : FnScope ["number"] ["number"] (defScope s_under_of) := ⟨rfl, rfl, rfl, by decide +kernel, rfl, by decide +kernel, by decide +kernel⟩
abbrev s_rounded_quotient : Stmt := topS 12
theorem sc_rounded_quotient : FnScope ["number", "divisor", "under"] ["number", "divisor"] (defScope s_rounded_quotient) := ⟨rfl, rfl, rfl, by decide +kernel, rfl, by decide +kernel, by decide +kernel⟩
abbrev s_remainder : Stmt := topS 13
theorem sc_remainder : FnScope ["number", "divisor"] ["number", "divisor"] (defScope s_remainder) := ⟨rfl, rfl, rfl, by decide +kernel, rfl, by decide +kernel, by decide +kernel⟩
abbrev s_Ratio_init : Stmt := inClass (topS 14) 0
theorem sc_Ratio_init : FnScope ["self", "top", "under", "shared"] ["self", "top", "under"] (defScope s_Ratio_init) := ⟨rfl, rfl, rfl, by decide +kernel, rfl, by decide +kernel, by decide +kernel⟩
abbrev s_Ratio_whole : Stmt := inClass (topS 14) 1
theorem sc_Ratio_whole : FnScope ["self"] ["self"] (defScope s_Ratio_whole) := ⟨rfl, rfl, rfl, by decide +kernel, rfl, by decide +kernel, by decide +kernel⟩
abbrev s_Ratio_floor : Stmt := inClass (topS 14) 2
theorem sc_Ratio_floor : FnScope ["self"] ["self"] (defScope s_Ratio_floor) := ⟨rfl, rfl, rfl, by decide +kernel, rfl, by decide +kernel, by decide +kernel⟩
abbrev s_Ratio_ceiling : Stmt := inClass (topS 14) 3
theorem sc_Ratio_ceiling : FnScope ["self"] ["self"] (defScope s_Ratio_ceiling) := ⟨rfl, rfl, rfl, by decide +kernel, rfl, by decide +kernel, by decide +kernel⟩
abbrev s_Ratio_over : Stmt := inClass (topS 14) 4
theorem sc_Ratio_over : FnScope ["self", "number"] ["self", "number"] (defScope s_Ratio_over) := ⟨rfl, rfl, rfl, by decide +kernel, rfl, by decide +kernel, by decide +kernel⟩
abbrev s_Ratio_power : Stmt := inClass (topS 14) 5
theorem sc_Ratio_power : FnScope ["self", "n", "top", "under", "_"] ["self", "n"] (defScope s_Ratio_power) := ⟨rfl, rfl, rfl, by decide +kernel, rfl, by decide +kernel, by decide +kernel⟩
abbrev s_Ratio_str : Stmt := inClass (topS 14) 6
theorem sc_Ratio_str : FnScope ["self"] ["self"] (defScope s_Ratio_str) := ⟨rfl, rfl, rfl, by decide +kernel, rfl, by decide +kernel, by decide +kernel⟩
abbrev s_Ratio_bool : Stmt := inClass (topS 14) 7
theorem sc_Ratio_bool : FnScope ["self"] ["self"] (defScope s_Ratio_bool) := ⟨rfl, rfl, rfl, by decide +kernel, rfl, by decide +kernel, by decide +kernel⟩
abbrev s_Ratio_neg : Stmt := inClass (topS 14) 8
theorem sc_Ratio_neg : FnScope ["self"] ["self"] (defScope s_Ratio_neg) := ⟨rfl, rfl, rfl, by decide +kernel, rfl, by decide +kernel, by decide +kernel⟩
abbrev s_Ratio_abs : Stmt := inClass (topS 14) 9
theorem sc_Ratio_abs : FnScope ["self"] ["self"] (defScope s_Ratio_abs) := ⟨rfl, rfl, rfl, by decide +kernel, rfl, by decide +kernel, by decide +kernel⟩
abbrev s_Ratio_add : Stmt := inClass (topS 14) 10
theorem sc_Ratio_add : FnScope ["self", "other", "top"] ["self", "other"] (defScope s_Ratio_add) := ⟨rfl, rfl, rfl, by decide +kernel, rfl, by decide +kernel, by decide +kernel⟩
abbrev s_Ratio_radd : Stmt := inClass (topS 14) 11
theorem sc_Ratio_radd : FnScope ["self", "other"] ["self", "other"] (defScope s_Ratio_radd) := ⟨rfl, rfl, rfl, by decide +kernel, rfl, by decide +kernel, by decide +kernel⟩
abbrev s_Ratio_sub : Stmt := inClass (topS 14) 12
theorem sc_Ratio_sub : FnScope ["self", "other", "top"] ["self", "other"] (defScope s_Ratio_sub) := ⟨rfl, rfl, rfl, by decide +kernel, rfl, by decide +kernel, by decide +kernel⟩
abbrev s_Ratio_rsub : Stmt := inClass (topS 14) 13
theorem sc_Ratio_rsub : FnScope ["self", "other"] ["self", "other"] (defScope s_Ratio_rsub) := ⟨rfl, rfl, rfl, by decide +kernel, rfl, by decide +kernel, by decide +kernel⟩
abbrev s_Ratio_mul : Stmt := inClass (topS 14) 14
theorem sc_Ratio_mul : FnScope ["self", "other"] ["self", "other"] (defScope s_Ratio_mul) := ⟨rfl, rfl, rfl, by decide +kernel, rfl, by decide +kernel, by decide +kernel⟩
abbrev s_Ratio_rmul : Stmt := inClass (topS 14) 15
theorem sc_Ratio_rmul : FnScope ["self", "other"] ["self", "other"] (defScope s_Ratio_rmul) := ⟨rfl, rfl, rfl, by decide +kernel, rfl, by decide +kernel, by decide +kernel⟩
abbrev s_Ratio_floordiv : Stmt := inClass (topS 14) 16
theorem sc_Ratio_floordiv : FnScope ["self", "other"] ["self", "other"] (defScope s_Ratio_floordiv) := ⟨rfl, rfl, rfl, by decide +kernel, rfl, by decide +kernel, by decide +kernel⟩
abbrev s_Ratio_rfloordiv : Stmt := inClass (topS 14) 17
theorem sc_Ratio_rfloordiv : FnScope ["self", "other"] ["self", "other"] (defScope s_Ratio_rfloordiv) := ⟨rfl, rfl, rfl, by decide +kernel, rfl, by decide +kernel, by decide +kernel⟩
abbrev s_Ratio_mod : Stmt := inClass (topS 14) 18
theorem sc_Ratio_mod : FnScope ["self", "other"] ["self", "other"] (defScope s_Ratio_mod) := ⟨rfl, rfl, rfl, by decide +kernel, rfl, by decide +kernel, by decide +kernel⟩
abbrev s_Ratio_rmod : Stmt := inClass (topS 14) 19
theorem sc_Ratio_rmod : FnScope ["self", "other"] ["self", "other"] (defScope s_Ratio_rmod) := ⟨rfl, rfl, rfl, by decide +kernel, rfl, by decide +kernel, by decide +kernel⟩
abbrev s_Ratio_pow : Stmt := inClass (topS 14) 20
theorem sc_Ratio_pow : FnScope ["self", "other"] ["self", "other"] (defScope s_Ratio_pow) := ⟨rfl, rfl, rfl, by decide +kernel, rfl, by decide +kernel, by decide +kernel⟩
abbrev s_Ratio_eq : Stmt := inClass (topS 14) 21
theorem sc_Ratio_eq : FnScope ["self", "other"] ["self", "other"] (defScope s_Ratio_eq) := ⟨rfl, rfl, rfl, by decide +kernel, rfl, by decide +kernel, by decide +kernel⟩
abbrev s_Ratio_lt : Stmt := inClass (topS 14) 22
theorem sc_Ratio_lt : FnScope ["self", "other"] ["self", "other"] (defScope s_Ratio_lt) := ⟨rfl, rfl, rfl, by decide +kernel, rfl, by decide +kernel, by decide +kernel⟩
abbrev s_Ratio_le : Stmt := inClass (topS 14) 23
theorem sc_Ratio_le : FnScope ["self", "other"] ["self", "other"] (defScope s_Ratio_le) := ⟨rfl, rfl, rfl, by decide +kernel, rfl, by decide +kernel, by decide +kernel⟩
abbrev s_Ratio_gt : Stmt := inClass (topS 14) 24
theorem sc_Ratio_gt : FnScope ["self", "other"] ["self", "other"] (defScope s_Ratio_gt) := ⟨rfl, rfl, rfl, by decide +kernel, rfl, by decide +kernel, by decide +kernel⟩
abbrev s_Ratio_ge : Stmt := inClass (topS 14) 25
theorem sc_Ratio_ge : FnScope ["self", "other"] ["self", "other"] (defScope s_Ratio_ge) := ⟨rfl, rfl, rfl, by decide +kernel, rfl, by decide +kernel, by decide +kernel⟩
abbrev s_Line_init : Stmt := inClass (topS 16) 0
theorem sc_Line_init : FnScope ["self", "start", "slope"] ["self", "start", "slope"] (defScope s_Line_init) := ⟨rfl, rfl, rfl, by decide +kernel, rfl, by decide +kernel, by decide +kernel⟩
abbrev s_Line_call : Stmt := inClass (topS 16) 1
theorem sc_Line_call : FnScope ["self", "k"] ["self", "k"] (defScope s_Line_call) := ⟨rfl, rfl, rfl, by decide +kernel, rfl, by decide +kernel, by decide +kernel⟩
abbrev s_Line_neg : Stmt := inClass (topS 16) 2
theorem sc_Line_neg : FnScope ["self"] ["self"] (defScope s_Line_neg) := ⟨rfl, rfl, rfl, by decide +kernel, rfl, by decide +kernel, by decide +kernel⟩
abbrev s_Line_add : Stmt := inClass (topS 16) 3
theorem sc_Line_add : FnScope ["self", "other"] ["self", "other"] (defScope s_Line_add) := ⟨rfl, rfl, rfl, by decide +kernel, rfl, by decide +kernel, by decide +kernel⟩
abbrev s_Line_sub : Stmt := inClass (topS 16) 4
theorem sc_Line_sub : FnScope ["self", "other"] ["self", "other"] (defScope s_Line_sub) := ⟨rfl, rfl, rfl, by decide +kernel, rfl, by decide +kernel, by decide +kernel⟩
abbrev s_Line_mul : Stmt := inClass (topS 16) 5
theorem sc_Line_mul : FnScope ["self", "other"] ["self", "other"] (defScope s_Line_mul) := ⟨rfl, rfl, rfl, by decide +kernel, rfl, by decide +kernel, by decide +kernel⟩
abbrev s_Line_rmul : Stmt := inClass (topS 16) 6
theorem sc_Line_rmul : FnScope ["self", "other"] ["self", "other"] (defScope s_Line_rmul) := ⟨rfl, rfl, rfl, by decide +kernel, rfl, by decide +kernel, by decide +kernel⟩
abbrev s_Line_eq : Stmt := inClass (topS 16) 7
theorem sc_Line_eq : FnScope ["self", "other"] ["self", "other"] (defScope s_Line_eq) := ⟨rfl, rfl, rfl, by decide +kernel, rfl, by decide +kernel, by decide +kernel⟩
abbrev s_pool : Stmt := topS 18
theorem sc_pool : FnScope ["_law_script", "_law_cell"] ["_law_script"] (defScope s_pool) := ⟨rfl, rfl, rfl, by decide +kernel, rfl, by decide +kernel, by decide +kernel⟩
abbrev s_mix : Stmt := topS 19
theorem sc_mix : FnScope ["_law_state", "_law_turn", "_law_many", "_law_first", "_law_second"] ["_law_state", "_law_turn", "_law_many"] (defScope s_mix) := ⟨rfl, rfl, rfl, by decide +kernel, rfl, by decide +kernel, by decide +kernel⟩
abbrev s_draw : Stmt := topS 20
theorem sc_draw : FnScope ["_law_pool_here", "_law_many", "_law_spare", "_law_found", "_law_cell"] ["_law_pool_here", "_law_many"] (defScope s_draw) := ⟨rfl, rfl, rfl, by decide +kernel, rfl, by decide +kernel, by decide +kernel⟩
abbrev s_wide : Stmt := topS 21
theorem sc_wide : FnScope ["_law_pool_here", "_law_size", "_law_many", "_law_found", "_law_spare"] ["_law_pool_here"] (defScope s_wide) := ⟨rfl, rfl, rfl, by decide +kernel, rfl, by decide +kernel, by decide +kernel⟩
abbrev s_any : Stmt := topS 22
theorem sc_any : FnScope ["_law_pool_here", "_law_cell"] ["_law_pool_here"] (defScope s_any) := ⟨rfl, rfl, rfl, by decide +kernel, rfl, by decide +kernel, by decide +kernel⟩
abbrev s_either : Stmt := topS 23
theorem sc_either : FnScope ["_law_pool_here", "_law_found"] ["_law_pool_here"] (defScope s_either) := ⟨rfl, rfl, rfl, by decide +kernel, rfl, by decide +kernel, by decide +kernel⟩
abbrev s_whole : Stmt := topS 24
theorem sc_whole : FnScope ["_law_actual"] ["_law_actual"] (defScope s_whole) := ⟨rfl, rfl, rfl, by decide +kernel, rfl, by decide +kernel, by decide +kernel⟩
abbrev s_ratio : Stmt := topS 25
theorem sc_ratio : FnScope ["_law_actual"] ["_law_actual"] (defScope s_ratio) := ⟨rfl, rfl, rfl, by decide +kernel, rfl, by decide +kernel, by decide +kernel⟩
abbrev s_same : Stmt := topS 26
theorem sc_same : FnScope ["_law_actual", "_law_due"] ["_law_actual", "_law_due"] (defScope s_same) := ⟨rfl, rfl, rfl, by decide +kernel, rfl, by decide +kernel, by decide +kernel⟩
abbrev s_give : Stmt := topS 27
theorem sc_give : FnScope ["_law_pair", "_law_pool_here"] ["_law_pair", "_law_pool_here"] (defScope s_give) := ⟨rfl, rfl, rfl, by decide +kernel, rfl, by decide +kernel, by decide +kernel⟩
abbrev s_fraction : Stmt := topS 28
theorem sc_fraction : FnScope ["_law_pool_here", "_law_top"] ["_law_pool_here"] (defScope s_fraction) := ⟨rfl, rfl, rfl, by decide +kernel, rfl, by decide +kernel, by decide +kernel⟩
abbrev s_plus : Stmt := topS 29
theorem sc_plus : FnScope ["_law_one", "_law_other"] ["_law_one", "_law_other"] (defScope s_plus) := ⟨rfl, rfl, rfl, by decide +kernel, rfl, by decide +kernel, by decide +kernel⟩
abbrev s_times : Stmt := topS 30
theorem sc_times : FnScope ["_law_one", "_law_other"] ["_law_one", "_law_other"] (defScope s_times) := ⟨rfl, rfl, rfl, by decide +kernel, rfl, by decide +kernel, by decide +kernel⟩
abbrev s_is_line : Stmt := topS 31
theorem sc_is_line : FnScope ["_law_line", "_law_start", "_law_slope", "_law_place", "_law_handed"] ["_law_line", "_law_start", "_law_slope", "_law_place", "_law_handed"] (defScope s_is_line) := ⟨rfl, rfl, rfl, by decide +kernel, rfl, by decide +kernel, by decide +kernel⟩
abbrev s_law : Stmt := topS 32
theorem sc_law : FnScope ["_law_script", "_law_pool_here", "_law_start", "_law_slope", "_law_base", "_law_rise", "_law_factor", "_law_place", "_law_one", "_law_two", "_law_times_here", "_law_handed", "_law_less", "_law_fall", "_law_down", "_law_turned", "_law_rows", "_law_row"] ["_law_script"] (defScope s_law) := ⟨rfl, rfl, rfl, by decide +kernel, rfl, by decide +kernel, by decide +kernel⟩
section
variable {P : Program} {w : World} {K : PySem.W.Frag} {mg : Str → Option Value} {base : Heap}

def spMix : Sp := fun vs H Q _ => ∃ (s t m : Int), vs = [.int s, .int t, .int m] ∧ 2 ≤ m ∧ m < 1073741824 ∧ ∀ r : Int, 0 ≤ r → r < m → Q (.int r) H
abbrev CalMix (P : Program) (w : World) (K : PySem.W.Frag) (mg : Str → Option Value) (base : Heap) := Cal P w K mg base 1 "_law_mix" ["_law_state", "_law_turn", "_law_many"] spMix
theorem ok_mix (B : Blt mg) (D : Dfn K mg "_law_mix" "_law_mix" s_mix ["_law_state", "_law_turn", "_law_many"]) : CalMix P w K mg base := by
  refine D.cal sc_mix (fun vs H Q E h => ?_) (fun f cdv A outer st H vs Q E hr h => ?_)
  · obtain ⟨s, t, m, rfl, _⟩ := h
    rfl
  · obtain ⟨s, t, m, rfl, h2, h3, q⟩ := h
    refine ⟨_, (pss_cons (ps_set (i := 3) sc_mix.nd rfl (Or.inl rfl) (pe_op op_modN (pe_callTy call_int1 (by rfl) B.int (by decide +kernel) (pa_cons (pe_op op_add (pe_op op_add (pe_op op_mul (pv 0) (pe_int)) (pe_op op_mul (pv 1) (pe_int))) (pe_int)) pa_nil)) (pe_int)))
      (pss_cons (ps_set (i := 4) sc_mix.nd rfl (Or.inl rfl) (pe_op op_modN (pe_callTy call_int1 (by rfl) B.int (by decide +kernel) (pa_cons (pe_op op_add (pe_op op_add (pe_op op_mul (pv 3) (pv 3)) (pe_op op_mul (pv 1) (pe_int))) (pv 0)) pa_nil)) (pe_int)))
      (pss_one (ps_ret (pe_op op_modN (pe_callTy call_int1 (by rfl) B.int (by decide +kernel) (pa_cons (pe_op op_fdivA (pv 4) (pe_int)) pa_nil)) (pv 2)))))), ?_⟩
    walk_at "go"
    have b1 := fm (s * 16807 + t * 7919 + 101) (show (0 : Int) < 2147483629 by decide)
    refine ⟨.inl ⟨by omega, by omega⟩, ?_⟩
    walk_at "go"
    have b2 := fm (((((s * 16807 + t * 7919 + 101).fmod 2147483629 * (s * 16807 + t * 7919 + 101).fmod 2147483629) + t * 104729 + s).fmod 2147483587).fdiv 11) (show (0 : Int) < m by omega)
    exact q _ b2.1 b2.2
def spDraw : Sp := fun vs H Q _ => ∃ (p : Pla) (m : Int), vs = [.ref p, .int m] ∧ Pool H p ∧ 2 ≤ m ∧ m < 1073741824 ∧ ∀ (r : Int) (H' : Hp), 0 ≤ r → r < m → Pool H' p → Keeps H H' p → Q (.int r) H'
abbrev CalDraw (P : Program) (w : World) (K : PySem.W.Frag) (mg : Str → Option Value) (base : Heap) := Cal P w K mg base 2 "_law_draw" ["_law_pool_here", "_law_many"] spDraw
theorem ok_draw (B : Blt mg) (D : Dfn K mg "_law_draw" "_law_draw" s_draw ["_law_pool_here", "_law_many"]) (C_mix : CalMix P w K mg base) : CalDraw P w K mg base := by
  refine D.cal sc_draw (fun vs H Q E h => ?_) (fun f cdv A outer st H vs Q E hr h => ?_)
  · obtain ⟨p, m, rfl, _⟩ := h
    rfl
  · obtain ⟨p, m, rfl, ⟨ns, i, b, c, d, hp, hq, hi, hqp⟩, h2, h3, k⟩ := h
    refine ⟨_, (pss_cons (ps_if (PW.pt (pw_or (pt_cmpR op_lt (pv 1) (pe_int) (nomark _)) (pw_or1 (pt_cmpR op_eq (pe_callB call_len_seq (by rfl) B.len PySem.boot_len (pa_cons (pe_ix ix_list (pv 0) (pe_int) (fun _ _ => rfl)) pa_nil)) (pe_int) (nomark _))))) (pss_one (ps_ret (pe_int))) pss_nil)
      (pss_cons (ps_asg (pe_op op_add (pe_ix ix_list (pv 0) (pe_int) (fun _ _ => rfl)) (pe_int)) (pg_sub (pv 0) (pe_int) set_list))
      (pss_cons (ps_for PassesOwn.never rfl (pi_range1 (by rfl) B.range (pa_cons (pe_int) pa_nil)) (pg_name (i := 2) sc_draw.nd rfl (Or.inl rfl)) (pss_cons (ps_if (pt_cmpR op_gt (pe_ix ix_list (pv 0) (pe_int) (fun _ _ => rfl)) (pe_int) (nomark _)) (pss_cons (ps_set (i := 3) sc_draw.nd rfl (Or.inl rfl) (pe_op op_modN (pe_callTy call_int1 (by rfl) B.int (by decide +kernel) (pa_cons (pe_ix ix_list (pv 0) (pe_int) (fun _ _ => rfl)) pa_nil)) (pv 1)))
      (pss_cons (ps_asg (pe_op op_fdivA (pe_ix ix_list (pv 0) (pe_int) (fun _ _ => rfl)) (pv 1)) (pg_sub (pv 0) (pe_int) set_list))
      (pss_one (ps_ret (pv 3))))) pss_nil)
      (pss_cons (ps_if (pt_cmpR op_ge (pe_ix ix_list (pv 0) (pe_int) (fun _ _ => rfl)) (pe_callB call_len_seq (by rfl) B.len PySem.boot_len (pa_cons (pe_ix ix_list (pv 0) (pe_int) (fun _ _ => rfl)) pa_nil)) (nomark _)) (pss_one (ps_ret (pe_cal C_mix (hr.mono (by decide)) (pa_cons (pe_ix ix_list (pv 0) (pe_int) (fun _ _ => rfl)) (pa_cons (pe_ix ix_list (pv 0) (pe_int) (fun _ _ => rfl)) (pa_cons (pv 1) pa_nil)))))) pss_nil)
      (pss_cons (ps_set (i := 4) sc_draw.nd rfl (Or.inl rfl) (pe_ix ix_list (pe_ix ix_list (pv 0) (pe_int) (fun _ _ => rfl)) (pe_ix ix_list (pv 0) (pe_int) (fun _ _ => rfl)) (fun _ _ => rfl)))
      (pss_cons (ps_asg (pe_op op_add (pe_ix ix_list (pv 0) (pe_int) (fun _ _ => rfl)) (pe_int)) (pg_sub (pv 0) (pe_int) set_list))
      (pss_cons (ps_asg (pe_op op_modN (pe_callTy call_int1 (by rfl) B.int (by decide +kernel) (pa_cons (pe_op op_add (pe_op op_add (pe_op op_mul (pe_ix ix_list (pv 0) (pe_int) (fun _ _ => rfl)) (pe_int)) (pe_op op_mul (pv 4) (pe_int))) (pe_int)) pa_nil)) (pe_int)) (pg_sub (pv 0) (pe_int) set_list))
      (pss_cons (ps_if (pt_cmpR op_lt (pv 4) (pe_op op_pow (pe_int) (pe_int)) (nomark _)) (pss_one (ps_ret (pe_cal C_mix (hr.mono (by decide)) (pa_cons (pe_ix ix_list (pv 0) (pe_int) (fun _ _ => rfl)) (pa_cons (pe_ix ix_list (pv 0) (pe_int) (fun _ _ => rfl)) (pa_cons (pv 1) pa_nil)))))) pss_nil)
      (pss_one (ps_asg (pe_op op_sub (pv 4) (pe_op op_pow (pe_int) (pe_int))) (pg_sub (pv 0) (pe_int) set_list))))))))))
      (pss_one (ps_ret (pe_cal C_mix (hr.mono (by decide)) (pa_cons (pe_ix ix_list (pv 0) (pe_int) (fun _ _ => rfl)) (pa_cons (pe_ix ix_list (pv 0) (pe_int) (fun _ _ => rfl)) (pa_cons (pv 1) pa_nil))))))))), ?_⟩
    walk_at "go"
    rw [decide_eq_false (by omega)]
    refine iteF ?_
    walk_at "go"
    refine ⟨_, _, _, _, rfl, rfl, SqL.of hp, rfl, ?_⟩
    refine ⟨_, _, rfl, .inl (SqL.of hq), ?_⟩
    walk_at "go"
    walk_at "if"
    · intro _
      walk_at "go"
      exact k 0 H (by omega) (by omega) ⟨ns, i, b, c, d, hp, hq, hi, hqp⟩ (Keeps.refl _ _)
    intro hlen
    refine ⟨_, rfl, _, _, _, _, rfl, rfl, SqL.of hp, rfl, ?_⟩
    walk_at "go"
    refine ⟨_, _, _, _, rfl, rfl, hp, rfl, ?_⟩
    refine ⟨64, rfl, by decide, by decide, for_range (n := 64) (fun _ σ H' => ∃ v2 v3 v4 : Option V, σ = [some (.ref (p : Addr)), some (.int m), v2, v3, v4] ∧ ∃ i b c d : Int, H' p = some (.lst [.ref p.q, .int i, .int b, .int c, .int d]) ∧ H' p.q = some (.lst (ns.map V.int)) ∧ 0 ≤ i ∧ Keeps H H' p)
      ⟨none, none, none, rfl, i, b, c, d + 1, upd_same, by rw [upd_ne hqp]; exact hq, hi, Keeps.upd⟩ ?_ ?_⟩
    · rintro j σ H1 hj ⟨v2, v3, v4, rfl, i, b, c, d, hp, hq, hi, hk⟩
      refine ⟨_, rfl, _, _, _, _, rfl, rfl, SqL.of hp, rfl, ?_⟩
      walk_at "go"
      walk_at "if"
      · intro hb
        refine ⟨_, rfl, _, _, _, _, rfl, rfl, SqL.of hp, rfl, ?_⟩
        walk_at "go"
        refine ⟨_, _, _, _, rfl, rfl, SqL.of hp, rfl, ?_⟩
        walk_at "go"
        refine ⟨divA (b := 30) (by omega) (by omega) (by decide) (by decide), ?_⟩
        walk_at "go"
        refine ⟨_, _, _, _, rfl, rfl, hp, rfl, ?_⟩
        walk_at "go"
        have b2 := fm b (show (0 : Int) < m by omega)
        exact k _ _ b2.1 b2.2 ⟨ns, i, _, c, d, upd_same, by rw [upd_ne hqp]; exact hq, hi, hqp⟩ (hk.trans Keeps.upd)
      · intro hb
        refine ⟨_, rfl, _, _, _, _, rfl, rfl, SqL.of hp, rfl, ?_⟩
        walk_at "go"
        refine ⟨_, _, _, _, rfl, rfl, SqL.of hp, rfl, ?_⟩
        refine ⟨_, _, rfl, .inl (SqL.of hq), ?_⟩
        walk_at "go"
        walk_at "if"
        · intro hl
          refine ⟨_, rfl, _, _, _, _, rfl, rfl, SqL.of hp, rfl, ?_⟩
          refine ⟨_, rfl, _, _, _, _, rfl, rfl, SqL.of hp, rfl, ?_⟩
          walk_at "go"
          refine ⟨_, _, _, rfl, h2, h3, fun r r0 r1 => ?_⟩
          exact k _ _ r0 r1 ⟨ns, i, b, c, d, hp, hq, hi, hqp⟩ hk
        · intro hl
          have hl2 : i < (ns.length : Int) := by
            have hl' : ¬ ((ns.map V.int).length : Int) ≤ i := hl
            rw [List.length_map] at hl'
            omega
          obtain ⟨n, rfl⟩ : ∃ n : Nat, i = (n : Int) := ⟨i.toNat, by omega⟩
          have hn : n < ns.length := by omega
          refine ⟨_, rfl, _, _, _, _, rfl, rfl, SqL.of hp, rfl, ?_⟩
          refine ⟨_, rfl, _, _, _, _, rfl, rfl, SqL.of hp, rfl, ?_⟩
          refine ⟨_, _, _, _, rfl, rfl, SqL.of hq, atI_nat (ints_at hn), ?_⟩
          refine ⟨_, rfl, _, _, _, _, rfl, rfl, SqL.of hp, rfl, ?_⟩
          walk_at "go"
          refine ⟨_, _, _, _, rfl, rfl, hp, rfl, ?_⟩
          refine ⟨_, rfl, _, _, _, _, rfl, rfl, SqL.of upd_same, rfl, ?_⟩
          walk_at "go"
          refine ⟨_, _, _, _, rfl, rfl, upd_same, rfl, ?_⟩
          walk_at "go"
          walk_at "if"
          · intro hcell
            refine ⟨_, rfl, _, _, _, _, rfl, rfl, SqL.of upd_same, rfl, ?_⟩
            refine ⟨_, rfl, _, _, _, _, rfl, rfl, SqL.of upd_same, rfl, ?_⟩
            walk_at "go"
            refine ⟨_, _, _, rfl, h2, h3, fun r r0 r1 => ?_⟩
            exact k _ _ r0 r1 ⟨ns, _, b, _, d, upd_same, by rw [upd_ne hqp, upd_ne hqp]; exact hq, by omega, hqp⟩ ((hk.trans Keeps.upd).trans Keeps.upd)
          · intro hcell
            walk_at "go"
            refine ⟨_, _, _, _, rfl, rfl, upd_same, rfl, ?_⟩
            exact ⟨_, _, _, rfl, _, _, _, d, upd_same, by rw [upd_ne hqp, upd_ne hqp, upd_ne hqp]; exact hq, by omega, ((hk.trans Keeps.upd).trans Keeps.upd).trans Keeps.upd⟩
    · rintro σ H1 ⟨v2, v3, v4, rfl, i, b, c, d, hp, hq, hi, hk⟩
      refine ⟨_, rfl, _, _, _, _, rfl, rfl, SqL.of hp, rfl, ?_⟩
      refine ⟨_, rfl, _, _, _, _, rfl, rfl, SqL.of hp, rfl, ?_⟩
      walk_at "go"
      refine ⟨_, _, _, rfl, h2, h3, fun r r0 r1 => ?_⟩
      exact k _ _ r0 r1 ⟨ns, i, b, c, d, hp, hq, hi, hqp⟩ hk

theorem wide_ix {s : Int} (h0 : 3 ≤ s) (h1 : s < 6) : ∃ M : Int, atI [V.int 1, V.int 2, V.int 5] (s - 3) = some (V.int M) ∧ (M = 1 ∨ M = 2 ∨ M = 5) := by
  have : s = 3 ∨ s = 4 ∨ s = 5 := by omega
  rcases this with rfl | rfl | rfl
  · exact ⟨1, rfl, by omega⟩
  · exact ⟨2, rfl, by omega⟩
  · exact ⟨5, rfl, by omega⟩
def spWide : Sp := fun vs H Q _ => ∃ (p : Pla), vs = [.ref p] ∧ Pool H p ∧ ∀ (r : Int) (H' : Hp), 0 ≤ r → r < 10 ^ 30 → Pool H' p → Keeps H H' p → Q (.int r) H'
abbrev CalWide (P : Program) (w : World) (K : PySem.W.Frag) (mg : Str → Option Value) (base : Heap) := Cal P w K mg base 3 "_law_wide" ["_law_pool_here"] spWide
theorem ok_wide (B : Blt mg) (D : Dfn K mg "_law_wide" "_law_wide" s_wide ["_law_pool_here"]) (C_draw : CalDraw P w K mg base) : CalWide P w K mg base := by
  refine D.cal sc_wide (fun vs H Q E h => ?_) (fun f cdv A outer st H vs Q E hr h => ?_)
  · obtain ⟨p, rfl, _⟩ := h
    rfl
  · obtain ⟨p, rfl, hP, k⟩ := h
    refine ⟨_, (pss_cons (ps_set (i := 1) sc_wide.nd rfl (Or.inl rfl) (pe_cal C_draw (hr.mono (by decide)) (pa_cons (pv 0) (pa_cons (pe_int) pa_nil))))
      (pss_cons (ps_if (pt_cmpR op_eq (pv 1) (pe_int) (nomark _)) (pss_one (ps_ret (pe_cal C_draw (hr.mono (by decide)) (pa_cons (pv 0) (pa_cons (pe_int) pa_nil))))) pss_nil)
      (pss_cons (ps_if (pt_cmpR op_lt (pv 1) (pe_int) (nomark _)) (pss_one (ps_ret (pe_cal C_draw (hr.mono (by decide)) (pa_cons (pv 0) (pa_cons (pe_int) pa_nil))))) pss_nil)
      (pss_cons (ps_set (i := 2) sc_wide.nd rfl (Or.inl rfl) (pe_ix ix_tup (pe_tup (pa_cons (pe_int) (pa_cons (pe_int) (pa_cons (pe_int) pa_nil)))) (pe_op op_sub (pv 1) (pe_int)) (fun _ _ => rfl)))
      (pss_cons (ps_set (i := 3) sc_wide.nd rfl (Or.inl rfl) (pe_int))
      (pss_cons (ps_for PassesOwn.never rfl (pi_range1 (by rfl) B.range (pa_cons (pv 2) pa_nil)) (pg_name (i := 4) sc_wide.nd rfl (Or.inl rfl)) (pss_one (ps_set (i := 3) sc_wide.nd rfl (Or.inl rfl) (pe_op op_add (pe_op op_mul (pv 3) (pe_op op_pow (pe_int) (pe_int))) (pe_cal C_draw (hr.mono (by decide)) (pa_cons (pv 0) (pa_cons (pe_op op_pow (pe_int) (pe_int)) pa_nil)))))))
      (pss_one (ps_ret (pv 3))))))))), ?_⟩
    refine ⟨_, rfl, p, 6, rfl, hP, by decide, by decide, fun s H1 s0 s1 hP1 hk1 => ?_⟩
    walk_at "go"
    walk_at "if"
    · intro _
      refine ⟨_, rfl, p, 4, rfl, hP1, by decide, by decide, fun r H2 r0 r1 hP2 hk2 => ?_⟩
      exact k r H2 r0 (by omega) hP2 (hk1.trans hk2)
    intro n0
    walk_at "go"
    walk_at "if"
    · intro _
      refine ⟨_, rfl, p, 30, rfl, hP1, by decide, by decide, fun r H2 r0 r1 hP2 hk2 => ?_⟩
      exact k r H2 r0 (by omega) hP2 (hk1.trans hk2)
    intro n3
    obtain ⟨M, eM, hM⟩ := wide_ix (s := s) (by omega) s1
    refine ⟨(by show 3 ≤ sizeLine; decide), fun t ht => ?_⟩
    walk_at "go"
    refine ⟨_, _, _, _, rfl, rfl, SqT.of upd_same, eM, ?_⟩
    refine ⟨_, rfl, _, rfl, (by omega), (by omega), for_range (n := M.toNat) (fun i σ H' => ∃ (f : Int) (v4 : Option V), σ = [some (.ref (p : Addr)), some (.int s), some (.int M), some (.int f), v4] ∧ 0 ≤ f ∧ f < 1000000 ^ i ∧ Pool H' p ∧ Keeps H H' p)
      ⟨0, none, rfl, by omega, by decide, hP1.upd ht, hk1.trans (same_keeps (same_upd ht))⟩ ?_ ?_⟩
    · rintro i σ H2 hi ⟨f, v4, rfl, f0, f1, hP2, hk2⟩
      walk_at "go"
      refine ⟨_, _, rfl, hP2, by decide, by decide, fun r H3 r0 r1 hP3 hk3 => ?_⟩
      walk_at "go"
      have r1' : r < 1000000 := r1
      refine ⟨f * 1000000 + r, _, rfl, by omega, ?_, hP3, hk2.trans hk3⟩
      rw [Int.pow_succ]
      omega
    · rintro σ H2 ⟨f, v4, rfl, f0, f1, hP2, hk2⟩
      refine ⟨_, rfl, k f H2 f0 ?_ hP2 hk2⟩
      rcases hM with rfl | rfl | rfl
      · exact Int.lt_of_lt_of_le f1 (by decide)
      · exact Int.lt_of_lt_of_le f1 (by decide)
      · exact Int.lt_of_lt_of_le f1 (by decide)

def spAny : Sp := fun vs H Q _ => ∃ (p : Pla), vs = [.ref p] ∧ Pool H p ∧ ∀ (r : Int) (H' : Hp), 0 ≤ r → r < 10 ^ 60 → Pool H' p → Keeps H H' p → Q (.int r) H'
abbrev CalAny (P : Program) (w : World) (K : PySem.W.Frag) (mg : Str → Option Value) (base : Heap) := Cal P w K mg base 4 "_law_any" ["_law_pool_here"] spAny
theorem ok_any (B : Blt mg) (D : Dfn K mg "_law_any" "_law_any" s_any ["_law_pool_here"]) (C_draw : CalDraw P w K mg base) (C_wide : CalWide P w K mg base) : CalAny P w K mg base := by
  refine D.cal sc_any (fun vs H Q E h => ?_) (fun f cdv A outer st H vs Q E hr h => ?_)
  · obtain ⟨p, rfl, _⟩ := h
    rfl
  · obtain ⟨p, rfl, hP, k⟩ := h
    have last : ∀ H1, Pool H1 p → Keeps H H1 p → spWide ([V.ref p] ++ []) H1 Q E0 := fun H1 hP1 hk1 =>
      ⟨p, rfl, hP1, fun r H2 r0 r1 hP2 hk2 => k r H2 r0 (Int.lt_of_lt_of_le r1 (by decide)) hP2 (hk1.trans hk2)⟩
    refine ⟨_, (pss_cons (ps_if (PW.pt (pw_and (pt_cmpR op_eq (pe_cal C_draw (hr.mono (by decide)) (pa_cons (pv 0) (pa_cons (pe_int) pa_nil))) (pe_int) (nomark _)) (pw_and1 (pt_cmpR op_lt (pe_ix ix_list (pv 0) (pe_int) (fun _ _ => rfl)) (pe_callB call_len_seq (by rfl) B.len PySem.boot_len (pa_cons (pe_ix ix_list (pv 0) (pe_int) (fun _ _ => rfl)) pa_nil)) (nomark _))))) (pss_cons (ps_set (i := 1) sc_any.nd rfl (Or.inl rfl) (pe_ix ix_list (pe_ix ix_list (pv 0) (pe_int) (fun _ _ => rfl)) (pe_ix ix_list (pv 0) (pe_int) (fun _ _ => rfl)) (fun _ _ => rfl)))
      (pss_cons (ps_asg (pe_op op_add (pe_ix ix_list (pv 0) (pe_int) (fun _ _ => rfl)) (pe_int)) (pg_sub (pv 0) (pe_int) set_list))
      (pss_one (ps_ret (pe_op op_modN (pe_callTy call_int1 (by rfl) B.int (by decide +kernel) (pa_cons (pe_callB call_abs (by rfl) B.abs (by decide +kernel) (pa_cons (pv 1) pa_nil)) pa_nil)) (pe_op op_pow (pe_int) (pe_int))))))) pss_nil)
      (pss_one (ps_ret (pe_cal C_wide (hr.mono (by decide)) (pa_cons (pv 0) pa_nil))))), ?_⟩
    refine ⟨_, rfl, p, 8, rfl, hP, by decide, by decide, fun s H1 s0 s1 hP1 hk1 => ?_⟩
    walk_at "go"
    obtain ⟨ns, i, b, c, d, hp, hq, hi, hqp⟩ := id hP1
    walk_at "if"
    · intro _
      refine ⟨_, rfl, _, _, _, _, rfl, rfl, SqL.of hp, rfl, ?_⟩
      refine ⟨_, rfl, _, _, _, _, rfl, rfl, SqL.of hp, rfl, ?_⟩
      refine ⟨_, _, rfl, .inl (SqL.of hq), ?_⟩
      walk_at "go"
      walk_at "if"
      · intro hl
        have hl' : i < ((ns.map V.int).length : Int) := hl
        rw [List.length_map] at hl'
        obtain ⟨n, rfl⟩ : ∃ n : Nat, i = (n : Int) := ⟨i.toNat, by omega⟩
        have hn : n < ns.length := by omega
        refine ⟨_, rfl, _, _, _, _, rfl, rfl, SqL.of hp, rfl, ?_⟩
        refine ⟨_, rfl, _, _, _, _, rfl, rfl, SqL.of hp, rfl, ?_⟩
        refine ⟨_, _, _, _, rfl, rfl, SqL.of hq, atI_nat (ints_at hn), ?_⟩
        refine ⟨_, rfl, _, _, _, _, rfl, rfl, SqL.of hp, rfl, ?_⟩
        walk_at "go"
        refine ⟨_, _, _, _, rfl, rfl, hp, rfl, ?_⟩
        walk_at "go"
        refine ⟨(by show (10 : Int) ^ (60 : Int).toNat ≠ 0; decide), ?_⟩
        have b2 := fm (if ns[n] < 0 then -ns[n] else ns[n]) (show (0 : Int) < 10 ^ 60 by decide)
        exact k _ _ b2.1 b2.2 ⟨ns, _, b, c, d, upd_same, by rw [upd_ne hqp]; exact hq, by omega, hqp⟩ (hk1.trans Keeps.upd)
      · intro _
        exact ⟨_, rfl, last _ hP1 hk1⟩
    · intro _
      exact ⟨_, rfl, last _ hP1 hk1⟩

def spEither : Sp := fun vs H Q _ => ∃ (p : Pla), vs = [.ref p] ∧ Pool H p ∧ ∀ (r : Int) (H' : Hp), -(10 ^ 60) < r → r < 10 ^ 60 → Pool H' p → Keeps H H' p → Q (.int r) H'
abbrev CalEither (P : Program) (w : World) (K : PySem.W.Frag) (mg : Str → Option Value) (base : Heap) := Cal P w K mg base 5 "_law_either" ["_law_pool_here"] spEither
theorem ok_either (B : Blt mg) (D : Dfn K mg "_law_either" "_law_either" s_either ["_law_pool_here"]) (C_draw : CalDraw P w K mg base) (C_any : CalAny P w K mg base) : CalEither P w K mg base := by
  refine D.cal sc_either (fun vs H Q E h => ?_) (fun f cdv A outer st H vs Q E hr h => ?_)
  · obtain ⟨p, rfl, _⟩ := h
    rfl
  · obtain ⟨p, rfl, hP, k⟩ := h
    refine ⟨_, (pss_cons (ps_set (i := 1) sc_either.nd rfl (Or.inl rfl) (pe_cal C_any (hr.mono (by decide)) (pa_cons (pv 0) pa_nil)))
      (pss_cons (ps_if (pt_cmpR op_eq (pe_cal C_draw (hr.mono (by decide)) (pa_cons (pv 0) (pa_cons (pe_int) pa_nil))) (pe_int) (nomark _)) (pss_one (ps_ret (pe_un un_neg (pv 1)))) pss_nil)
      (pss_one (ps_ret (pv 1))))), ?_⟩
    refine ⟨_, rfl, p, rfl, hP, fun r H1 r0 r1 hP1 hk1 => ?_⟩
    refine ⟨_, rfl, p, 2, rfl, hP1, by decide, by decide, fun s H2 s0 s1 hP2 hk2 => ?_⟩
    walk_at "go"
    walk_at "if"
    · intro _
      exact ⟨_, rfl, _, rfl, k _ _ (by omega) (by omega) hP2 (hk1.trans hk2)⟩
    · intro _
      exact ⟨_, rfl, k _ _ (by omega) (by omega) hP2 (hk1.trans hk2)⟩

def spPool (K : PySem.W.Frag) : Sp := fun vs H Q _ => ∃ (a : Addr) (ns : List Int), vs = [.ref a] ∧ SqL K H a (ns.map V.int) ∧ ns.length ≤ 63 ∧ ∀ (p : Pla) (H' : Hp), Same H H' → H p = none → H p.q = none → Pool H' p → Q (.ref p) H'
abbrev CalPool (P : Program) (w : World) (K : PySem.W.Frag) (mg : Str → Option Value) (base : Heap) := Cal P w K mg base 1 "_law_pool" ["_law_script"] (spPool K)
theorem ok_pool (B : Blt mg) (D : Dfn K mg "_law_pool" "_law_pool" s_pool ["_law_script"]) : CalPool P w K mg base := by
  refine D.cal sc_pool (fun vs H Q E h => ?_) (fun f cdv A outer st H vs Q E hr h => ?_)
  · obtain ⟨a, ns, rfl, _⟩ := h
    rfl
  · obtain ⟨a, ns, rfl, hS, hl, k⟩ := h
    refine ⟨_, (pss_one (ps_ret (pe_lst (pa_cons (pe_lc (own := [("_law_cell", 1)]) (g := gName 1) rfl sc_pool.nd (pi_list (pv 0)) (blkOk_by (N := ["_law_script", "_law_cell"]) (sc := defScope s_pool) (by decide +kernel)) (fun _ _ _ _ _ => pg_name (i := 1) sc_pool.nd rfl (Or.inl rfl)) (fun _ _ _ _ _ => pts_nil) (fun _ _ _ _ _ => (pe_callTy call_int1 (by rfl) B.int (by decide +kernel) (pa_cons (pv 1) pa_nil)))) (pa_cons (pe_int) (pa_cons (pe_int) (pa_cons (pe_int) (pa_cons (pe_int) pa_nil)))))))), ?_⟩
    refine ⟨_, rfl, a, rfl, ⟨_, hS⟩, fun D hD => lc_list (K := K) (a := a) (xs := ns.map V.int) (fun i H' => H' = upd H D (.lst ((ns.take i).map V.int))) rfl (fun i H' _ e => by rw [e]; exact (same_upd hD).seq hS) ?_ ?_⟩
    · rintro i x H' hx rfl
      obtain ⟨z, hz, rfl⟩ := int_of_map hx
      refine ⟨rfl, ?_⟩
      refine ⟨_, rfl, .inl ⟨_, rfl, _, upd_same, ?_, ?_⟩⟩
      · rw [List.length_map, List.length_take]
        exact small1000 (by omega)
      · rw [upd_upd, List.take_add_one, hz, List.map_append]
        rfl
    · rintro H' rfl
      refine ⟨(by show 5 ≤ sizeLine; decide), fun p hp => ?_⟩
      have hne : D ≠ p := ne_of_none upd_same hp
      have hp0 : H p = none := by rw [upd_ne hne.symm] at hp; exact hp
      refine k ⟨p, D⟩ _ ((same_upd hD).trans (same_upd hp)) hp0 hD ⟨ns, 0, 0, 1, 0, upd_same, ?_, by decide, hne⟩
      show upd _ p _ D = _
      rw [upd_ne hne, upd_same, List.length_map, List.take_length]

theorem kit_own {K : PySem.W.Frag} {t : Value} {C : Addr} {b : Bool} (hd : PySem.W.hasDictIn K C = true) (ht : PySem.W.typeIn K (.ref C) = some (.type "type")) (hs : PySem.W.subIn K t (.ref C) = some b) (hself : PySem.W.subIn K t t = some true) : PySem.W.kitOne K t (.ref C) = some b := by
  unfold PySem.W.kitOne
  by_cases h : (t == Value.ref C) = true
  · rw [if_pos h]
    have e := beq_iff_eq.mp h
    subst e
    rw [hs] at hself
    exact hself.symm
  · rw [if_neg h]
    obtain ⟨cd, hc, _⟩ := PySem.W.any_some hd
    have e2 : ((PySem.W.clsIn K C).isSome && PySem.W.typeIn K (.ref C) == some (.type "type")) = true := by rw [hc, ht] <;> rfl
    show (if ((PySem.W.clsIn K C).isSome && PySem.W.typeIn K (.ref C) == some (.type "type")) = true then PySem.W.subIn K t (.ref C) else none) = some b
    rw [if_pos e2]
    exact hs
theorem kit_int {K : PySem.W.Frag} {C : Addr} {b : Bool} (hd : PySem.W.hasDictIn K C = true) (ht : PySem.W.typeIn K (.ref C) = some (.type "type")) (hs : PySem.W.subIn K (.type "int") (.ref C) = some b) : PySem.W.kitOne K (.type "int") (.ref C) = some b := by
  unfold PySem.W.kitOne
  rw [if_neg (by intro h; cases beq_iff_eq.mp h)]
  obtain ⟨cd, hc, _⟩ := PySem.W.any_some hd
  have e2 : ((PySem.W.clsIn K C).isSome && PySem.W.typeIn K (.ref C) == some (.type "type")) = true := by rw [hc, ht] <;> rfl
  show (if ((PySem.W.clsIn K C).isSome && PySem.W.typeIn K (.ref C) == some (.type "type")) = true then PySem.W.subIn K (.type "int") (.ref C) else none) = some b
  rw [if_pos e2]
  exact hs
def spWhole : Sp := fun vs H Q _ => ∃ (i : Int), vs = [.int i] ∧ Q (.bl true) H
abbrev CalWhole (P : Program) (w : World) (K : PySem.W.Frag) (mg : Str → Option Value) (base : Heap) := Cal P w K mg base 1 "_law_whole" ["_law_actual"] spWhole
theorem ok_whole (B : Blt mg) (D : Dfn K mg "_law_whole" "_law_whole" s_whole ["_law_actual"]) : CalWhole P w K mg base := by
  refine D.cal sc_whole (fun vs H Q E h => ?_) (fun f cdv A outer st H vs Q E hr h => ?_)
  · obtain ⟨i, rfl, _⟩ := h
    rfl
  · obtain ⟨i, rfl, q⟩ := h
    refine ⟨_, (pss_one (ps_ret ((pe_and (pe_callB call_isi (by rfl) B.isinstance (by decide +kernel) (pa_cons (pv 0) (pa_cons (pe_bltn (v := .ty "int") (by rfl) B.int (by decide +kernel) rfl) pa_nil))) (pe_one (pe_not (pe_callB call_isi (by rfl) B.isinstance (by decide +kernel) (pa_cons (pv 0) (pa_cons (pe_bltn (v := .ty "bool") (by rfl) B.bool (by decide +kernel) rfl) pa_nil))))))))), ?_⟩
    refine ⟨_, rfl, _, _, _, _, true, rfl, .ty _, .base (.int _), kit_ty (by decide +kernel), _, rfl, iteT ?_⟩
    refine ⟨_, rfl, _, _, _, _, false, rfl, .ty _, .base (.int _), kit_ty (by decide +kernel), _, rfl, ?_⟩
    exact q

theorem ok_bn {C f : Addr} {fd : FuncData} (T : BnC K mg C) (F : Fun K "__init__" "BadNumber.__init__" s_BadNumber_init f fd) : FnOk P w K mg base CX0 1 f fd ["self", "name", "value"] (spBN C) := by
  refine F.ok sc_BadNumber_init (fun vs H Q E h => ?_) (fun cdv A outer st H vs Q E hr h => ?_)
  · obtain ⟨a, n, v, rfl, _⟩ := h
    rfl
  · obtain ⟨a, n, v, rfl, ha, k⟩ := h
    refine ⟨_, pss_cons (ps_ost (pv 0) (pv 1)) (pss_one (ps_ost (pv 0) (pv 2))), ?_⟩
    refine ⟨_, rfl, _, rfl, a, C, rfl, T.o, T.nN, .inl ⟨ha, fun dx hdx hne => ?_⟩⟩
    refine ⟨_, rfl, _, rfl, a, C, rfl, T.o, T.nV, .inr ⟨dx, [("name", n)], upd_same, ?_, (by show 1 ≤ 900; decide), k dx hdx hne⟩⟩
    rw [upd_ne hne, upd_same]
end
end L

set_option Elab.async false
set_option linter.all false
set_option maxRecDepth 100000
set_option maxHeartbeats 4000000
set_option pp.maxSteps 160
set_option pp.deepTerms false
namespace L
open PySem PySem.Spec PyProof.Rows L2 Fl
local macro_rules | `(tactic| walk_at "side") => `(tactic| first | (exact .inl ⟨by omega, by omega⟩) | (exact .inr ⟨by omega, by omega⟩) | (exact .inr ⟨by decide, by decide⟩) | (show (_ : Int) ≠ _; omega) | (exact ⟨by omega, by decide⟩) | (exact ⟨by decide, by decide, by decide⟩))
local macro_rules | `(tactic| walk_at "go") => `(tactic| repeat (first | refine ⟨_, rfl, ?_⟩ | refine ⟨_, _, rfl, rfl, ?_⟩ | refine .inl ⟨_, rfl, ?_⟩ | refine ⟨rfl, ?_⟩ | refine ⟨(by walk_at "side"), ?_⟩))
local macro_rules | `(tactic| walk_at "see") => `(tactic| (set_option pp.maxSteps 110 in set_option pp.deepTerms false in trace_state))
local macro_rules | `(tactic| walk_at "if") => `(tactic| first | refine ifE ?_ ?_ | refine ifNE ?_ ?_ | refine ifD ?_ ?_ | refine ifN ?_ ?_ | refine ifB ?_ ?_)
open Bx
section
variable {P : Program} {w : World} {K : PySem.W.Frag} {mg : Str → Option Value} {base : Heap}

def spInit (C ZU : Addr) : Sp := fun vs H Q E => ∃ (x dx : Addr) (t u : Int), vs = [.ref x, .int t, .int u] ∧ H x = some (.ins C dx []) ∧ u.natAbs < 2 ^ 8999 ∧
  (u ≠ 0 → ∀ H' : Hp, H' x = some (.ins C dx (rf (nT t u) (nU t u))) → Keeps H H' x → Q .non H') ∧ (u = 0 → E (.ref ZU) none H)
abbrev CalRatio (P : Program) (w : World) (K : PySem.W.Frag) (mg : Str → Option Value) (base : Heap) (C ZU : Addr) (dvs : List V) := CalC P w K mg base (L2.CX P w) 1 C "Ratio" ["self", "top", "under"] dvs (spInit C ZU)
theorem ok_init {C ZU f : Addr} {fd : FuncData} (B : Blt mg) (hgcd : mg "gcd" = some (.builtin "math.gcd")) (T : RatC K mg C) (TZ : ExC K mg "ZeroUnder" ZU)
    (F : FunD K "__init__" "Ratio.__init__" (defArgs s_Ratio_init) (defBody s_Ratio_init) (defScope s_Ratio_init) [.int 1] [] f fd) : FnOk P w K mg base (L2.CX P w) 1 f fd ["self", "top", "under"] (spInit C ZU) := by
  refine F.ok sc_Ratio_init (fun vs H Q E h => ?_) (fun cdv A outer st H vs Q E hr h => ?_)
  · obtain ⟨x, dx, t, u, rfl, _⟩ := h
    rfl
  · obtain ⟨x, dx, t, u, rfl, hx, hu, k, k0⟩ := h
    refine ⟨_, (pss_cons (ps_if (pt_cmpR op_eq (pv 2) (pe_int) (nomark _)) (pss_one (ps_raise rfl (takes_of rfl rfl rfl rfl) (pmk_own PySem.F.excBase_ValueError TZ.x TZ.g TZ.k (raises_own TZ.b TZ.t) rfl))) pss_nil)
      (pss_cons (ps_set (i := 3) sc_Ratio_init.nd rfl (Or.inl rfl) (pe_callBfun cr_gcd (by rfl) hgcd (pa_cons (pv 1) (pa_cons (pv 2) pa_nil))))
      (pss_cons (ps_if (pt_cmpR op_lt (pv 2) (pe_int) (nomark _)) (pss_one (ps_set (i := 3) sc_Ratio_init.nd rfl (Or.inl rfl) (pe_un un_neg (pv 3)))) pss_nil)
      (pss_cons (ps_fld (pv 0) (pe_op op_fdivA (pv 1) (pv 3)) rfl)
      (pss_one (ps_fld (pv 0) (pe_op op_fdivA (pv 2) (pv 3)) rfl)))))), ?_⟩
    walk_at "go"
    walk_at "if"
    · intro h0
      exact k0 h0
    intro h0
    refine ⟨_, rfl, _, rfl, _, _, rfl, ?_⟩
    walk_at "go"
    have hsn : sh t u ≠ 0 := sh_ne h0
    have hsb : (sh t u).natAbs < 2 ^ 8999 := by
      rw [sh_abs]
      exact Nat.lt_of_le_of_lt (Nat.le_of_dvd (by omega) (Nat.gcd_dvd_right _ _)) hu
    walk_at "if"
    · intro hn
      have es : sh t u = -((Nat.gcd t.natAbs u.natAbs : Nat) : Int) := if_pos hn
      have hd : CDivA t (-((Nat.gcd t.natAbs u.natAbs : Nat) : Int)) := es ▸ divA (b := 8999) hsn hsb (by decide) (by decide)
      walk_at "go"
      refine ⟨hd, ?_⟩
      refine ⟨_, rfl, x, C, dx, [], rfl, hx, T.cl, T.nT, (by show 0 < 1000; decide), ?_⟩
      refine ⟨_, rfl, _, rfl, _, _, rfl, rfl, hd, ?_⟩
      refine ⟨_, rfl, x, C, dx, _, rfl, upd_same, T.cl, T.nU, (by show 1 < 1000; decide), ?_⟩
      refine k h0 _ ?_ (Keeps.upd.trans Keeps.upd)
      rw [upd_same]
      unfold rf nT nU
      rw [es]
    · intro hn
      have es : sh t u = ((Nat.gcd t.natAbs u.natAbs : Nat) : Int) := if_neg hn
      have hd : CDivA t ((Nat.gcd t.natAbs u.natAbs : Nat) : Int) := es ▸ divA (b := 8999) hsn hsb (by decide) (by decide)
      walk_at "go"
      refine ⟨hd, ?_⟩
      refine ⟨_, rfl, x, C, dx, [], rfl, hx, T.cl, T.nT, (by show 0 < 1000; decide), ?_⟩
      refine ⟨_, rfl, _, rfl, _, _, rfl, rfl, hd, ?_⟩
      refine ⟨_, rfl, x, C, dx, _, rfl, upd_same, T.cl, T.nU, (by show 1 < 1000; decide), ?_⟩
      refine k h0 _ ?_ (Keeps.upd.trans Keeps.upd)
      rw [upd_same]
      unfold rf nT nU
      rw [es]
theorem mk_ratio {C ZU f : Addr} {fd : FuncData} (B : Blt mg) (hgcd : mg "gcd" = some (.builtin "math.gcd")) (T : RatC K mg C) (TZ : ExC K mg "ZeroUnder" ZU) (M : Mk K C f)
    (F : FunD K "__init__" "Ratio.__init__" (defArgs s_Ratio_init) (defBody s_Ratio_init) (defScope s_Ratio_init) [.int 1] [] f fd) : CalRatio P w K mg base C ZU [] ∧ CalRatio P w K mg base C ZU [.int 1] := by
  obtain ⟨d2, r2, b2⟩ := F.binds1 (ps := ["self", "top", "under"]) 3 1 (by intro e; cases e) rfl (fun T kV doc pm an cdv ct us its h1 h2 => match us, its, h1, h2 with | [_, _, _], [_], _, _ => ⟨_, rfl, rfl⟩)
  obtain ⟨d1, r1, b1⟩ := F.binds1 (ps := ["self", "top", "under"]) 2 0 (by intro e; cases e) rfl (fun T kV doc pm an cdv ct us its h1 h2 => match us, its, h1, h2 with | [_, _], [_], _, _ => ⟨_, rfl, rfl⟩)
  exact ⟨⟨f, fd, d2, M, ok_init B hgcd T TZ F, T.g, b2, r2⟩, ⟨f, fd, d1, M, ok_init B hgcd T TZ F, T.g, b1, r1⟩⟩

def spAsRatio (C : Addr) : Sp := fun vs H Q _ => (∃ (x : Addr) (t u : Int), vs = [.ref x] ∧ RatAt C H x t u ∧ Q (.ref x) H) ∨ (∃ i : Int, vs = [.int i] ∧ ∀ (x : Addr) (H' : Hp), H x = none → Same H H' → RatAt C H' x i 1 → Q (.ref x) H')
abbrev CalAsRatio (P : Program) (w : World) (K : PySem.W.Frag) (mg : Str → Option Value) (base : Heap) (C : Addr) := Cal P w K mg base 3 "as_ratio" ["number"] (spAsRatio C)
theorem made {C x dx : Addr} {fs : List (Str × V)} {H H' : Hp} (nx : H x = none) (ndx : H dx = none) (hk : Keeps (upd (upd H dx (.own x)) x (.ins C dx fs)) H' x) : Same H H' := fun b o e =>
  hk b o (by rw [upd_ne (ne_of_none e nx), upd_ne (ne_of_none e ndx)]; exact e) (ne_of_none e nx)
theorem ok_as_ratio {C ZU : Addr} (B : Blt mg) (T : RatC K mg C) (D : Dfn K mg "as_ratio" "as_ratio" s_as_ratio ["number"]) (M1 : CalRatio P w K mg base C ZU [.int 1]) : CalAsRatio P w K mg base C := by
  refine D.cal sc_as_ratio (fun vs H Q E h => ?_) (fun f cdv A outer st H vs Q E hr h => ?_)
  · rcases h with ⟨x, t, u, rfl, _⟩ | ⟨i, rfl, _⟩ <;> rfl
  · have hr0 : Room 2 _ := hr
    refine ⟨_, (pss_cons (ps_if (pt_val (pe_callB call_isi (by rfl) B.isinstance (by decide +kernel) (pa_cons (pv 0) (pa_cons (pe_glob (v := .ref _) (by rfl) T.g rfl) pa_nil)))) (pss_one (ps_ret (pv 0))) pss_nil)
      (pss_one (ps_ret (pe_mk M1 (hr0.mono (by decide)) (pa_cons (pv 0) pa_nil))))), ?_⟩
    rcases h with ⟨x, t, u, rfl, ⟨dx, hx⟩, q⟩ | ⟨i, rfl, k⟩
    · refine ⟨_, rfl, _, _, _, _, true, rfl, .own _, T.tyX hx, kit_self _, _, rfl, iteT ?_⟩
      exact ⟨_, rfl, q⟩
    · refine ⟨_, rfl, _, _, _, _, false, rfl, .own _, .base (.int _), T.ki, _, rfl, iteF ?_⟩
      refine ⟨_, rfl, fun x dx nx ndx ne => ?_⟩
      refine ⟨x, dx, i, 1, rfl, upd_same, by decide, fun _ H' hx hk => ⟨rfl, ?_⟩, fun h => absurd h (by decide)⟩
      refine k x H' nx (made nx ndx hk) ⟨dx, ?_⟩
      rw [(n_one i).1, (n_one i).2] at hx
      exact hx
def spRatio (C : Addr) : Sp := fun vs H Q _ => ∃ (x : Addr) (t u : Int), vs = [.ref x] ∧ RatAt C H x t u ∧ Q (.bl (decide (u > 0))) H
abbrev CalRatioQ (P : Program) (w : World) (K : PySem.W.Frag) (mg : Str → Option Value) (base : Heap) (C : Addr) := Cal P w K mg base 2 "_law_ratio" ["_law_actual"] (spRatio C)
theorem ok_ratio {C : Addr} (B : Blt mg) (T : RatC K mg C) (D : Dfn K mg "_law_ratio" "_law_ratio" s_ratio ["_law_actual"]) (C_whole : CalWhole P w K mg base) : CalRatioQ P w K mg base C := by
  refine D.cal sc_ratio (fun vs H Q E h => ?_) (fun f cdv A outer st H vs Q E hr h => ?_)
  · obtain ⟨x, t, u, rfl, _⟩ := h
    rfl
  · obtain ⟨x, t, u, rfl, ⟨dx, hx⟩, q⟩ := h
    refine ⟨_, (pss_cons (ps_if (pt_not (pt_val (pe_callB call_isi (by rfl) B.isinstance (by decide +kernel) (pa_cons (pv 0) (pa_cons (pe_glob (v := .ref _) (by rfl) T.g rfl) pa_nil))))) (pss_one (ps_ret (pe_bl))) pss_nil)
      (pss_one (ps_ret ((pe_and (pe_cal C_whole (hr.mono (by decide)) (pa_cons (pe_fld (pv 0) rfl) pa_nil)) (pe_and (pe_cal C_whole (hr.mono (by decide)) (pa_cons (pe_fld (pv 0) rfl) pa_nil)) (pe_one (pe_cmpR op_gt (pe_fld (pv 0) rfl) (pe_int) (nomark _))))))))), ?_⟩
    refine ⟨_, rfl, _, _, _, _, true, rfl, .own _, T.tyX hx, kit_self _, _, rfl, iteF ?_⟩
    refine ⟨_, rfl, x, C, dx, _, _, rfl, hx, T.cl, T.nT, rf_top _ _, t, rfl, _, rfl, iteT ?_⟩
    refine ⟨_, rfl, x, C, dx, _, _, rfl, hx, T.cl, T.nU, rf_under _ _, u, rfl, _, rfl, iteT ?_⟩
    refine ⟨_, rfl, x, C, dx, _, _, rfl, hx, T.cl, T.nU, rf_under _ _, _, _, rfl, rfl, ?_⟩
    exact q
end

/-! ### numbers by their values -/
theorem n_eq {t u n m : Int} (hu : u ≠ 0) (hm : m ≠ 0) (e : t * m = n * u) : nT t u = nT n m ∧ nU t u = nU n m := by
  have c := n_cross t u
  refine n_uniq hm (nU_pos hu) (n_gcd hu) (Int.eq_of_mul_eq_mul_right hu ?_)
  grind
/-- x holds n / m -/
def RatQ (C : Addr) (H : Hp) (x : Addr) (n m : Int) : Prop := RatAt C H x (nT n m) (nU n m)
theorem RatQ.same {C : Addr} {H H' : Hp} {x : Addr} {n m : Int} (h : RatQ C H x n m) (k : Same H H') : RatQ C H' x n m := RatAt.same h k
theorem RatQ.re {C : Addr} {H : Hp} {x : Addr} {n m n' m' : Int} (h : RatQ C H x n m) (hm : m ≠ 0) (hm' : m' ≠ 0) (e : n * m' = n' * m) : RatQ C H x n' m' := by
  unfold RatQ at *
  rw [← (n_eq hm hm' e).1, ← (n_eq hm hm' e).2]
  exact h
theorem RatQ.of {C : Addr} {H : Hp} {x : Addr} {t u n m : Int} (h : RatAt C H x (nT t u) (nU t u)) (hu : u ≠ 0) (hm : m ≠ 0) (e : t * m = n * u) : RatQ C H x n m := RatQ.re (n := t) (m := u) h hu hm e
/-- v is a number of the value n / m -/
def NumQ (C : Addr) (H : Hp) (v : V) (n m : Int) : Prop := (∃ z : Int, v = .int z ∧ z * m = n) ∨ ∃ x, v = .ref x ∧ RatQ C H x n m
theorem NumQ.same {C : Addr} {H H' : Hp} {v : V} {n m : Int} (h : NumQ C H v n m) (k : Same H H') : NumQ C H' v n m := by
  rcases h with h | ⟨x, e, h⟩
  · exact .inl h
  · exact .inr ⟨x, e, h.same k⟩
theorem NumQ.re {C : Addr} {H : Hp} {v : V} {n m n' m' : Int} (h : NumQ C H v n m) (hm : m ≠ 0) (hm' : m' ≠ 0) (e : n * m' = n' * m) : NumQ C H v n' m' := by
  rcases h with ⟨z, ev, ez⟩ | ⟨x, ev, hx⟩
  · refine .inl ⟨z, ev, Int.eq_of_mul_eq_mul_right hm ?_⟩
    rw [← e, ← ez]
    grind
  · exact .inr ⟨x, ev, hx.re hm hm' e⟩
section
variable {P : Program} {w : World} {K : PySem.W.Frag} {mg : Str → Option Value} {base : Heap}

def Num (C : Addr) (H : Hp) (v : V) (t u : Int) : Prop := (v = .int t ∧ u = 1) ∨ ∃ x, v = .ref x ∧ RatAt C H x t u
theorem Num.same {C : Addr} {H H' : Hp} {v : V} {t u : Int} (h : Num C H v t u) (k : Same H H') : Num C H' v t u := by
  rcases h with h | ⟨x, e, h⟩
  · exact .inl h
  · exact .inr ⟨x, e, h.same k⟩
def spIsNum (C : Addr) : Sp := fun vs H Q _ => ∃ (v : V) (t u : Int), vs = [v] ∧ Num C H v t u ∧ Q (.bl true) H
abbrev CalIsNum (P : Program) (w : World) (K : PySem.W.Frag) (mg : Str → Option Value) (base : Heap) (C : Addr) := Cal P w K mg base 1 "is_number" ["value"] (spIsNum C)
theorem ok_is_number {C : Addr} (B : Blt mg) (T : RatC K mg C) (kci : PySem.W.kitOne K (.ref C) (.type "int") = some false) (D : Dfn K mg "is_number" "is_number" s_is_number ["value"]) : CalIsNum P w K mg base C := by
  refine D.cal sc_is_number (fun vs H Q E h => ?_) (fun fA cdv A outer st H vs Q E hr h => ?_)
  · obtain ⟨v, t, u, rfl, _⟩ := h
    rfl
  · obtain ⟨v, t, u, rfl, hv, q⟩ := h
    refine ⟨_, (pss_one (ps_ret ((pe_or (pe_callB call_isi (by rfl) B.isinstance (by decide +kernel) (pa_cons (pv 0) (pa_cons (pe_bltn (v := .ty "int") (by rfl) B.int (by decide +kernel) rfl) pa_nil))) (pe_one (pe_callB call_isi (by rfl) B.isinstance (by decide +kernel) (pa_cons (pv 0) (pa_cons (pe_glob (v := .ref _) (by rfl) T.g rfl) pa_nil)))))))), ?_⟩
    rcases hv with ⟨rfl, _⟩ | ⟨x, rfl, dx, hx⟩
    · refine ⟨_, rfl, _, _, _, _, true, rfl, .ty _, .base (.int _), kit_ty (by decide +kernel), _, rfl, iteT q⟩
    · refine ⟨_, rfl, _, _, _, _, false, rfl, .ty _, T.tyX hx, kci, _, rfl, iteF ?_⟩
      exact ⟨_, rfl, _, _, _, _, true, rfl, .own _, T.tyX hx, kit_self _, q⟩

def spTopOf (C : Addr) : Sp := fun vs H Q _ => ∃ (v : V) (t u : Int), vs = [v] ∧ Num C H v t u ∧ Q (.int t) H
abbrev CalTopOf (P : Program) (w : World) (K : PySem.W.Frag) (mg : Str → Option Value) (base : Heap) (C : Addr) := Cal P w K mg base 1 "_top_of" ["number"] (spTopOf C)
theorem ok_top_of {C : Addr} (B : Blt mg) (T : RatC K mg C) (D : Dfn K mg "_top_of" "_top_of" s_top_of ["number"]) : CalTopOf P w K mg base C := by
  refine D.cal sc_top_of (fun vs H Q E h => ?_) (fun fA cdv A outer st H vs Q E hr h => ?_)
  · obtain ⟨v, t, u, rfl, _⟩ := h
    rfl
  · obtain ⟨v, t, u, rfl, hv, q⟩ := h
    refine ⟨_, (pss_one (ps_ret (pe_ifExp (pt_val (pe_callB call_isi (by rfl) B.isinstance (by decide +kernel) (pa_cons (pv 0) (pa_cons (pe_glob (v := .ref _) (by rfl) T.g rfl) pa_nil)))) (pe_fld (pv 0) rfl) (pv 0)))), ?_⟩
    rcases hv with ⟨rfl, rfl⟩ | ⟨x, rfl, dx, hx⟩
    · refine ⟨_, rfl, _, _, _, _, false, rfl, .own _, .base (.int _), T.ki, _, rfl, iteF ?_⟩
      exact ⟨_, rfl, q⟩
    · refine ⟨_, rfl, _, _, _, _, true, rfl, .own _, T.tyX hx, kit_self _, _, rfl, iteT ?_⟩
      exact ⟨_, rfl, x, C, dx, _, _, rfl, hx, T.cl, T.nT, rf_top _ _, q⟩

def spUnderOf (C : Addr) : Sp := fun vs H Q _ => ∃ (v : V) (t u : Int), vs = [v] ∧ Num C H v t u ∧ Q (.int u) H
abbrev CalUnderOf (P : Program) (w : World) (K : PySem.W.Frag) (mg : Str → Option Value) (base : Heap) (C : Addr) := Cal P w K mg base 1 "_under_of" ["number"] (spUnderOf C)
theorem ok_under_of {C : Addr} (B : Blt mg) (T : RatC K mg C) (D : Dfn K mg "_under_of" "_under_of" s_under_of ["number"]) : CalUnderOf P w K mg base C := by
  refine D.cal sc_under_of (fun vs H Q E h => ?_) (fun fA cdv A outer st H vs Q E hr h => ?_)
  · obtain ⟨v, t, u, rfl, _⟩ := h
    rfl
  · obtain ⟨v, t, u, rfl, hv, q⟩ := h
    refine ⟨_, (pss_one (ps_ret (pe_ifExp (pt_val (pe_callB call_isi (by rfl) B.isinstance (by decide +kernel) (pa_cons (pv 0) (pa_cons (pe_glob (v := .ref _) (by rfl) T.g rfl) pa_nil)))) (pe_fld (pv 0) rfl) (pe_int)))), ?_⟩
    rcases hv with ⟨rfl, rfl⟩ | ⟨x, rfl, dx, hx⟩
    · refine ⟨_, rfl, _, _, _, _, false, rfl, .own _, .base (.int _), T.ki, _, rfl, iteF ?_⟩
      exact q
    · refine ⟨_, rfl, _, _, _, _, true, rfl, .own _, T.tyX hx, kit_self _, _, rfl, iteT ?_⟩
      exact ⟨_, rfl, x, C, dx, _, _, rfl, hx, T.cl, T.nU, rf_under _ _, q⟩

theorem wm {i j : Int} (h1 : i.natAbs < 2 ^ 4400) (h2 : j.natAbs < 2 ^ 4400) : CMulW i j := wide_mul h1 h2 (by decide) (by decide) (by decide)
theorem wu {i j : Int} (h1 : i.natAbs < 2 ^ 4400) (h2 : j.natAbs < 2 ^ 4400) : (i * j).natAbs < 2 ^ 8800 := Nat.lt_of_lt_of_le (wide_lt h1 h2) (Nat.pow_le_pow_right (by decide) (by decide))
structure Sm (a b t u : Int) : Prop where
  sa : a.natAbs < 2 ^ 4400
  sb : b.natAbs < 2 ^ 4400
  st : t.natAbs < 2 ^ 4400
  su : u.natAbs < 2 ^ 4400
  bp : 0 < b
  up : 0 < u
def spAr (C : Addr) (f g : Int → Int → Int → Int → Int) : Sp := fun vs H Q _ => ∃ (x : Addr) (v : V) (a b t u : Int), vs = [.ref x, v] ∧ RatAt C H x a b ∧ Num C H v t u ∧ Sm a b t u ∧ ∀ (z : Addr) (H' : Hp), Same H H' → RatAt C H' z (nT (f a b t u) (g a b t u)) (nU (f a b t u) (g a b t u)) → Q (.ref z) H'
def spArR (C : Addr) (f g : Int → Int → Int → Int) : Sp := fun vs H Q _ => ∃ (x : Addr) (n a b : Int), vs = [.ref x, .int n] ∧ RatAt C H x a b ∧ Sm a b n 1 ∧ ∀ (z : Addr) (H' : Hp), Same H H' → RatAt C H' z (nT (f a b n) (g a b n)) (nU (f a b n) (g a b n)) → Q (.ref z) H'

theorem ok_add {C ZU fA : Addr} {fd : FuncData} (T : RatC K mg C) (C_is_number : CalIsNum P w K mg base C) (C_top_of : CalTopOf P w K mg base C) (C_under_of : CalUnderOf P w K mg base C) (M2 : CalRatio P w K mg base C ZU []) (F : Fun K "__add__" "Ratio.__add__" s_Ratio_add fA fd) : FnOk P w K mg base CX0 3 fA fd ["self", "other"] (spAr C (fun a b t u => a * u + t * b) (fun a b t u => b * u)) := by
  refine F.ok sc_Ratio_add (fun vs H Q E h => ?_) (fun cdv A outer st H vs Q E hr h => ?_)
  · obtain ⟨x, v, a, b, t, u, rfl, _⟩ := h
    rfl
  · obtain ⟨x, v, a, b, t, u, rfl, ⟨dx, hx⟩, hv, sm, k⟩ := h
    have bu : b * u ≠ 0 := Int.ne_of_gt (Int.mul_pos sm.bp sm.up)
    refine ⟨_, (pss_cons (ps_if (pt_not (pt_val (pe_cal C_is_number (hr.mono (by decide)) (pa_cons (pv 1) pa_nil)))) (pss_one (ps_never)) pss_nil)
      (pss_cons (ps_set (i := 2) sc_Ratio_add.nd rfl (Or.inl rfl) (pe_op op_add (pe_op op_mulW (pe_fld (pv 0) rfl) (pe_cal C_under_of (hr.mono (by decide)) (pa_cons (pv 1) pa_nil))) (pe_op op_mulW (pe_cal C_top_of (hr.mono (by decide)) (pa_cons (pv 1) pa_nil)) (pe_fld (pv 0) rfl))))
      (pss_one (ps_ret (pe_mk M2 (hr.mono (by decide)) (pa_cons (pv 2) (pa_cons (pe_op op_mulW (pe_fld (pv 0) rfl) (pe_cal C_under_of (hr.mono (by decide)) (pa_cons (pv 1) pa_nil))) pa_nil))))))), ?_⟩
    refine ⟨_, rfl, v, t, u, rfl, hv, _, rfl, iteF ?_⟩
    refine ⟨_, rfl, x, C, dx, _, _, rfl, hx, T.cl, T.nT, rf_top _ _, ?_⟩
    refine ⟨_, rfl, v, t, u, rfl, hv, _, _, rfl, rfl, wm sm.sa sm.su, ?_⟩
    refine ⟨_, rfl, v, t, u, rfl, hv, ?_⟩
    refine ⟨_, rfl, x, C, dx, _, _, rfl, hx, T.cl, T.nU, rf_under _ _, _, _, rfl, rfl, wm sm.st sm.sb, _, _, rfl, rfl, ?_⟩
    refine ⟨_, rfl, _, rfl, x, C, dx, _, _, rfl, hx, T.cl, T.nU, rf_under _ _, ?_⟩
    refine ⟨_, rfl, v, t, u, rfl, hv, _, _, rfl, rfl, wm sm.sb sm.su, ?_⟩
    refine fun z dz nz ndz ne => ?_
    exact ⟨z, dz, _, b * u, rfl, upd_same, ub (wu sm.sb sm.su) (by decide), fun _ H' hz hk => ⟨rfl, k z H' (made nz ndz hk) ⟨dz, hz⟩⟩, fun h => absurd h bu⟩

theorem ok_sub {C ZU fA : Addr} {fd : FuncData} (T : RatC K mg C) (C_is_number : CalIsNum P w K mg base C) (C_top_of : CalTopOf P w K mg base C) (C_under_of : CalUnderOf P w K mg base C) (M2 : CalRatio P w K mg base C ZU []) (F : Fun K "__sub__" "Ratio.__sub__" s_Ratio_sub fA fd) : FnOk P w K mg base CX0 3 fA fd ["self", "other"] (spAr C (fun a b t u => a * u - t * b) (fun a b t u => b * u)) := by
  refine F.ok sc_Ratio_sub (fun vs H Q E h => ?_) (fun cdv A outer st H vs Q E hr h => ?_)
  · obtain ⟨x, v, a, b, t, u, rfl, _⟩ := h
    rfl
  · obtain ⟨x, v, a, b, t, u, rfl, ⟨dx, hx⟩, hv, sm, k⟩ := h
    have bu : b * u ≠ 0 := Int.ne_of_gt (Int.mul_pos sm.bp sm.up)
    refine ⟨_, (pss_cons (ps_if (pt_not (pt_val (pe_cal C_is_number (hr.mono (by decide)) (pa_cons (pv 1) pa_nil)))) (pss_one (ps_never)) pss_nil)
      (pss_cons (ps_set (i := 2) sc_Ratio_sub.nd rfl (Or.inl rfl) (pe_op op_sub (pe_op op_mulW (pe_fld (pv 0) rfl) (pe_cal C_under_of (hr.mono (by decide)) (pa_cons (pv 1) pa_nil))) (pe_op op_mulW (pe_cal C_top_of (hr.mono (by decide)) (pa_cons (pv 1) pa_nil)) (pe_fld (pv 0) rfl))))
      (pss_one (ps_ret (pe_mk M2 (hr.mono (by decide)) (pa_cons (pv 2) (pa_cons (pe_op op_mulW (pe_fld (pv 0) rfl) (pe_cal C_under_of (hr.mono (by decide)) (pa_cons (pv 1) pa_nil))) pa_nil))))))), ?_⟩
    refine ⟨_, rfl, v, t, u, rfl, hv, _, rfl, iteF ?_⟩
    refine ⟨_, rfl, x, C, dx, _, _, rfl, hx, T.cl, T.nT, rf_top _ _, ?_⟩
    refine ⟨_, rfl, v, t, u, rfl, hv, _, _, rfl, rfl, wm sm.sa sm.su, ?_⟩
    refine ⟨_, rfl, v, t, u, rfl, hv, ?_⟩
    refine ⟨_, rfl, x, C, dx, _, _, rfl, hx, T.cl, T.nU, rf_under _ _, _, _, rfl, rfl, wm sm.st sm.sb, _, _, rfl, rfl, ?_⟩
    refine ⟨_, rfl, _, rfl, x, C, dx, _, _, rfl, hx, T.cl, T.nU, rf_under _ _, ?_⟩
    refine ⟨_, rfl, v, t, u, rfl, hv, _, _, rfl, rfl, wm sm.sb sm.su, ?_⟩
    refine fun z dz nz ndz ne => ?_
    exact ⟨z, dz, _, b * u, rfl, upd_same, ub (wu sm.sb sm.su) (by decide), fun _ H' hz hk => ⟨rfl, k z H' (made nz ndz hk) ⟨dz, hz⟩⟩, fun h => absurd h bu⟩

theorem ok_mul {C ZU fA : Addr} {fd : FuncData} (T : RatC K mg C) (C_is_number : CalIsNum P w K mg base C) (C_top_of : CalTopOf P w K mg base C) (C_under_of : CalUnderOf P w K mg base C) (M2 : CalRatio P w K mg base C ZU []) (F : Fun K "__mul__" "Ratio.__mul__" s_Ratio_mul fA fd) : FnOk P w K mg base CX0 3 fA fd ["self", "other"] (spAr C (fun a b t u => a * t) (fun a b t u => b * u)) := by
  refine F.ok sc_Ratio_mul (fun vs H Q E h => ?_) (fun cdv A outer st H vs Q E hr h => ?_)
  · obtain ⟨x, v, a, b, t, u, rfl, _⟩ := h
    rfl
  · obtain ⟨x, v, a, b, t, u, rfl, ⟨dx, hx⟩, hv, sm, k⟩ := h
    have bu : b * u ≠ 0 := Int.ne_of_gt (Int.mul_pos sm.bp sm.up)
    refine ⟨_, (pss_cons (ps_if (pt_not (pt_val (pe_cal C_is_number (hr.mono (by decide)) (pa_cons (pv 1) pa_nil)))) (pss_one (ps_never)) pss_nil)
      (pss_one (ps_ret (pe_mk M2 (hr.mono (by decide)) (pa_cons (pe_op op_mulW (pe_fld (pv 0) rfl) (pe_cal C_top_of (hr.mono (by decide)) (pa_cons (pv 1) pa_nil))) (pa_cons (pe_op op_mulW (pe_fld (pv 0) rfl) (pe_cal C_under_of (hr.mono (by decide)) (pa_cons (pv 1) pa_nil))) pa_nil)))))), ?_⟩
    refine ⟨_, rfl, v, t, u, rfl, hv, _, rfl, iteF ?_⟩
    refine ⟨_, rfl, x, C, dx, _, _, rfl, hx, T.cl, T.nT, rf_top _ _, ?_⟩
    refine ⟨_, rfl, v, t, u, rfl, hv, _, _, rfl, rfl, wm sm.sa sm.st, ?_⟩
    refine ⟨_, rfl, x, C, dx, _, _, rfl, hx, T.cl, T.nU, rf_under _ _, ?_⟩
    refine ⟨_, rfl, v, t, u, rfl, hv, _, _, rfl, rfl, wm sm.sb sm.su, ?_⟩
    refine fun z dz nz ndz ne => ?_
    exact ⟨z, dz, _, b * u, rfl, upd_same, ub (wu sm.sb sm.su) (by decide), fun _ H' hz hk => ⟨rfl, k z H' (made nz ndz hk) ⟨dz, hz⟩⟩, fun h => absurd h bu⟩

theorem ok_radd {C fA : Addr} {fd : FuncData} (T : RatC K mg C) (hSF : PySem.W.selfFirst K C = true) (C_is_number : CalIsNum P w K mg base C) (C_as_ratio : CalAsRatio P w K mg base C) (OP : OpOwn P w K mg base 3 C (PySem.dunder (Operator.info .Add).2) ["self", "other"] (spAr C (fun a b t u => a * u + t * b) (fun a b t u => b * u))) (F : Fun K "__radd__" "Ratio.__radd__" s_Ratio_radd fA fd) : FnOk P w K mg base CX0 4 fA fd ["self", "other"] (spArR C (fun a b n => n * b + a * 1) (fun a b n => 1 * b)) := by
  refine F.ok sc_Ratio_radd (fun vs H Q E h => ?_) (fun cdv A outer st H vs Q E hr h => ?_)
  · obtain ⟨x, n, a, b, rfl, _⟩ := h
    rfl
  · obtain ⟨x, n, a, b, rfl, ⟨dx, hx⟩, sm, k⟩ := h
    refine ⟨_, (pss_cons (ps_if (pt_not (pt_val (pe_cal C_is_number (hr.mono (by decide)) (pa_cons (pv 1) pa_nil)))) (pss_one (ps_never)) pss_nil)
      (pss_one (ps_ret (pe_op (op_oo (op := .Add) OP hSF (hr.mono (by decide))) (pe_cal C_as_ratio (hr.mono (by decide)) (pa_cons (pv 1) pa_nil)) (pv 0))))), ?_⟩
    refine ⟨_, rfl, .int n, n, 1, rfl, .inl ⟨rfl, rfl⟩, _, rfl, iteF ?_⟩
    refine ⟨_, rfl, .inr ⟨n, rfl, fun y H1 ny s1 hy => ?_⟩⟩
    obtain ⟨dy, hy⟩ := hy
    refine ⟨_, rfl, y, dy, _, x, dx, _, rfl, hy, rfl, s1 _ _ hx, ?_⟩
    exact ⟨y, .ref x, n, 1, a, b, rfl, ⟨dy, hy⟩, .inr ⟨x, rfl, dx, s1 _ _ hx⟩, ⟨sm.st, by decide, sm.sa, sm.sb, by decide, sm.bp⟩, fun z H2 s2 hz => ⟨z, rfl, k z H2 (s1.trans s2) hz⟩⟩

theorem ok_rsub {C fA : Addr} {fd : FuncData} (T : RatC K mg C) (hSF : PySem.W.selfFirst K C = true) (C_is_number : CalIsNum P w K mg base C) (C_as_ratio : CalAsRatio P w K mg base C) (OP : OpOwn P w K mg base 3 C (PySem.dunder (Operator.info .Sub).2) ["self", "other"] (spAr C (fun a b t u => a * u - t * b) (fun a b t u => b * u))) (F : Fun K "__rsub__" "Ratio.__rsub__" s_Ratio_rsub fA fd) : FnOk P w K mg base CX0 4 fA fd ["self", "other"] (spArR C (fun a b n => n * b - a * 1) (fun a b n => 1 * b)) := by
  refine F.ok sc_Ratio_rsub (fun vs H Q E h => ?_) (fun cdv A outer st H vs Q E hr h => ?_)
  · obtain ⟨x, n, a, b, rfl, _⟩ := h
    rfl
  · obtain ⟨x, n, a, b, rfl, ⟨dx, hx⟩, sm, k⟩ := h
    refine ⟨_, (pss_cons (ps_if (pt_not (pt_val (pe_cal C_is_number (hr.mono (by decide)) (pa_cons (pv 1) pa_nil)))) (pss_one (ps_never)) pss_nil)
      (pss_one (ps_ret (pe_op (op_oo (op := .Sub) OP hSF (hr.mono (by decide))) (pe_cal C_as_ratio (hr.mono (by decide)) (pa_cons (pv 1) pa_nil)) (pv 0))))), ?_⟩
    refine ⟨_, rfl, .int n, n, 1, rfl, .inl ⟨rfl, rfl⟩, _, rfl, iteF ?_⟩
    refine ⟨_, rfl, .inr ⟨n, rfl, fun y H1 ny s1 hy => ?_⟩⟩
    obtain ⟨dy, hy⟩ := hy
    refine ⟨_, rfl, y, dy, _, x, dx, _, rfl, hy, rfl, s1 _ _ hx, ?_⟩
    exact ⟨y, .ref x, n, 1, a, b, rfl, ⟨dy, hy⟩, .inr ⟨x, rfl, dx, s1 _ _ hx⟩, ⟨sm.st, by decide, sm.sa, sm.sb, by decide, sm.bp⟩, fun z H2 s2 hz => ⟨z, rfl, k z H2 (s1.trans s2) hz⟩⟩

theorem ok_rmul {C fA : Addr} {fd : FuncData} (T : RatC K mg C) (hSF : PySem.W.selfFirst K C = true) (C_is_number : CalIsNum P w K mg base C) (C_as_ratio : CalAsRatio P w K mg base C) (OP : OpOwn P w K mg base 3 C (PySem.dunder (Operator.info .Mult).2) ["self", "other"] (spAr C (fun a b t u => a * t) (fun a b t u => b * u))) (F : Fun K "__rmul__" "Ratio.__rmul__" s_Ratio_rmul fA fd) : FnOk P w K mg base CX0 4 fA fd ["self", "other"] (spArR C (fun a b n => n * a) (fun a b n => 1 * b)) := by
  refine F.ok sc_Ratio_rmul (fun vs H Q E h => ?_) (fun cdv A outer st H vs Q E hr h => ?_)
  · obtain ⟨x, n, a, b, rfl, _⟩ := h
    rfl
  · obtain ⟨x, n, a, b, rfl, ⟨dx, hx⟩, sm, k⟩ := h
    refine ⟨_, (pss_cons (ps_if (pt_not (pt_val (pe_cal C_is_number (hr.mono (by decide)) (pa_cons (pv 1) pa_nil)))) (pss_one (ps_never)) pss_nil)
      (pss_one (ps_ret (pe_op (op_oo (op := .Mult) OP hSF (hr.mono (by decide))) (pe_cal C_as_ratio (hr.mono (by decide)) (pa_cons (pv 1) pa_nil)) (pv 0))))), ?_⟩
    refine ⟨_, rfl, .int n, n, 1, rfl, .inl ⟨rfl, rfl⟩, _, rfl, iteF ?_⟩
    refine ⟨_, rfl, .inr ⟨n, rfl, fun y H1 ny s1 hy => ?_⟩⟩
    obtain ⟨dy, hy⟩ := hy
    refine ⟨_, rfl, y, dy, _, x, dx, _, rfl, hy, rfl, s1 _ _ hx, ?_⟩
    exact ⟨y, .ref x, n, 1, a, b, rfl, ⟨dy, hy⟩, .inr ⟨x, rfl, dx, s1 _ _ hx⟩, ⟨sm.st, by decide, sm.sa, sm.sb, by decide, sm.bp⟩, fun z H2 s2 hz => ⟨z, rfl, k z H2 (s1.trans s2) hz⟩⟩

def spNeg (C : Addr) : Sp := fun vs H Q _ => ∃ (x : Addr) (a b : Int), vs = [.ref x] ∧ RatAt C H x a b ∧ 0 < b ∧ b.natAbs < 2 ^ 4400 ∧ ∀ (z : Addr) (H' : Hp), Same H H' → RatAt C H' z (nT (-a) b) (nU (-a) b) → Q (.ref z) H'
theorem ok_neg {C ZU fA : Addr} {fd : FuncData} (B : Blt mg) (T : RatC K mg C) (M2 : CalRatio P w K mg base C ZU []) (F : Fun K "__neg__" "Ratio.__neg__" s_Ratio_neg fA fd) : FnOk P w K mg base CX0 3 fA fd ["self"] (spNeg C) := by
  refine F.ok sc_Ratio_neg (fun vs H Q E h => ?_) (fun cdv A outer st H vs Q E hr h => ?_)
  · obtain ⟨x, a, b, rfl, _⟩ := h
    rfl
  · obtain ⟨x, a, b, rfl, ⟨dx, hx⟩, bp, hb, k⟩ := h
    refine ⟨_, (pss_one (ps_ret (pe_mk M2 (hr.mono (by decide)) (pa_cons (pe_un un_neg (pe_fld (pv 0) rfl)) (pa_cons (pe_fld (pv 0) rfl) pa_nil))))), ?_⟩
    refine ⟨_, rfl, x, C, dx, _, _, rfl, hx, T.cl, T.nT, rf_top _ _, _, rfl, ?_⟩
    refine ⟨_, rfl, x, C, dx, _, _, rfl, hx, T.cl, T.nU, rf_under _ _, ?_⟩
    refine fun z dz nz ndz ne => ?_
    exact ⟨z, dz, _, b, rfl, upd_same, ub hb (by decide), fun _ H' hz hk => ⟨rfl, k z H' (made nz ndz hk) ⟨dz, hz⟩⟩, fun h => absurd h (by omega)⟩

def spAbs (C : Addr) : Sp := fun vs H Q _ => ∃ (x : Addr) (a b : Int), vs = [.ref x] ∧ RatAt C H x a b ∧ 0 < b ∧ b.natAbs < 2 ^ 4400 ∧ ∀ (z : Addr) (H' : Hp), Same H H' → RatAt C H' z (nT (if a < 0 then -a else a) b) (nU (if a < 0 then -a else a) b) → Q (.ref z) H'
theorem ok_abs {C ZU fA : Addr} {fd : FuncData} (B : Blt mg) (T : RatC K mg C) (M2 : CalRatio P w K mg base C ZU []) (F : Fun K "__abs__" "Ratio.__abs__" s_Ratio_abs fA fd) : FnOk P w K mg base CX0 3 fA fd ["self"] (spAbs C) := by
  refine F.ok sc_Ratio_abs (fun vs H Q E h => ?_) (fun cdv A outer st H vs Q E hr h => ?_)
  · obtain ⟨x, a, b, rfl, _⟩ := h
    rfl
  · obtain ⟨x, a, b, rfl, ⟨dx, hx⟩, bp, hb, k⟩ := h
    refine ⟨_, (pss_one (ps_ret (pe_mk M2 (hr.mono (by decide)) (pa_cons (pe_callB call_abs (by rfl) B.abs (by decide +kernel) (pa_cons (pe_fld (pv 0) rfl) pa_nil)) (pa_cons (pe_fld (pv 0) rfl) pa_nil))))), ?_⟩
    refine ⟨_, rfl, x, C, dx, _, _, rfl, hx, T.cl, T.nT, rf_top _ _, _, rfl, ?_⟩
    refine ⟨_, rfl, x, C, dx, _, _, rfl, hx, T.cl, T.nU, rf_under _ _, ?_⟩
    refine fun z dz nz ndz ne => ?_
    exact ⟨z, dz, _, b, rfl, upd_same, ub hb (by decide), fun _ H' hz hk => ⟨rfl, k z H' (made nz ndz hk) ⟨dz, hz⟩⟩, fun h => absurd h (by omega)⟩

/-! ### order -/
def spCmp (C : Addr) (f : Int → Int → Bool) : Sp := fun vs H Q _ => ∃ (x : Addr) (v : V) (a b t u : Int), vs = [.ref x, v] ∧ RatAt C H x a b ∧ Num C H v t u ∧ Sm a b t u ∧ Q (.bl (f (a * u) (t * b))) H
theorem ok_lt {C fA : Addr} {fd : FuncData} (T : RatC K mg C) (C_is_number : CalIsNum P w K mg base C) (C_top_of : CalTopOf P w K mg base C) (C_under_of : CalUnderOf P w K mg base C) (F : Fun K "__lt__" "Ratio.__lt__" s_Ratio_lt fA fd) : FnOk P w K mg base CX0 2 fA fd ["self", "other"] (spCmp C fun i j => decide (i < j)) := by
  refine F.ok sc_Ratio_lt (fun vs H Q E h => ?_) (fun cdv A outer st H vs Q E hr h => ?_)
  · obtain ⟨x, v, a, b, t, u, rfl, _⟩ := h
    rfl
  · obtain ⟨x, v, a, b, t, u, rfl, ⟨dx, hx⟩, hv, sm, q⟩ := h
    have W := (Al.nil (H := H)).got hx
    refine ⟨_, (pss_cons (ps_if (pt_not (pt_val (pe_cal C_is_number (hr.mono (by decide)) (pa_cons (pv 1) pa_nil)))) (pss_one (ps_never)) pss_nil)
      (pss_one (ps_ret (pe_cmpR op_lt (pe_op op_mulW (pe_fld (pv 0) rfl) (pe_cal C_under_of (hr.mono (by decide)) (pa_cons (pv 1) pa_nil))) (pe_op op_mulW (pe_cal C_top_of (hr.mono (by decide)) (pa_cons (pv 1) pa_nil)) (pe_fld (pv 0) rfl)) (nomark _))))), ?_⟩
    refine ⟨_, rfl, v, t, u, rfl, hv, _, rfl, iteF ?_⟩
    exact ⟨_, rfl, x, C, dx, _, _, rfl, (W.at (List.Mem.head _)), T.cl, T.nT, rf_top _ _, _, rfl, v, t, u, rfl, hv, _, _, rfl, rfl, wide_mul sm.sa sm.su (by decide) (by decide) (by decide), _, rfl, v, t, u, rfl, hv, _, rfl, x, C, dx, _, _, rfl, (W.at (List.Mem.head _)), T.cl, T.nU, rf_under _ _, _, _, rfl, rfl, wide_mul sm.st sm.sb (by decide) (by decide) (by decide), _, _, rfl, rfl, q⟩
theorem ok_le {C fA : Addr} {fd : FuncData} (T : RatC K mg C) (C_is_number : CalIsNum P w K mg base C) (C_top_of : CalTopOf P w K mg base C) (C_under_of : CalUnderOf P w K mg base C) (F : Fun K "__le__" "Ratio.__le__" s_Ratio_le fA fd) : FnOk P w K mg base CX0 2 fA fd ["self", "other"] (spCmp C fun i j => decide (i ≤ j)) := by
  refine F.ok sc_Ratio_le (fun vs H Q E h => ?_) (fun cdv A outer st H vs Q E hr h => ?_)
  · obtain ⟨x, v, a, b, t, u, rfl, _⟩ := h
    rfl
  · obtain ⟨x, v, a, b, t, u, rfl, ⟨dx, hx⟩, hv, sm, q⟩ := h
    have W := (Al.nil (H := H)).got hx
    refine ⟨_, (pss_cons (ps_if (pt_not (pt_val (pe_cal C_is_number (hr.mono (by decide)) (pa_cons (pv 1) pa_nil)))) (pss_one (ps_never)) pss_nil)
      (pss_one (ps_ret (pe_cmpR op_le (pe_op op_mulW (pe_fld (pv 0) rfl) (pe_cal C_under_of (hr.mono (by decide)) (pa_cons (pv 1) pa_nil))) (pe_op op_mulW (pe_cal C_top_of (hr.mono (by decide)) (pa_cons (pv 1) pa_nil)) (pe_fld (pv 0) rfl)) (nomark _))))), ?_⟩
    refine ⟨_, rfl, v, t, u, rfl, hv, _, rfl, iteF ?_⟩
    exact ⟨_, rfl, x, C, dx, _, _, rfl, (W.at (List.Mem.head _)), T.cl, T.nT, rf_top _ _, _, rfl, v, t, u, rfl, hv, _, _, rfl, rfl, wide_mul sm.sa sm.su (by decide) (by decide) (by decide), _, rfl, v, t, u, rfl, hv, _, rfl, x, C, dx, _, _, rfl, (W.at (List.Mem.head _)), T.cl, T.nU, rf_under _ _, _, _, rfl, rfl, wide_mul sm.st sm.sb (by decide) (by decide) (by decide), _, _, rfl, rfl, q⟩
theorem ok_gt {C fA : Addr} {fd : FuncData} (T : RatC K mg C) (C_is_number : CalIsNum P w K mg base C) (C_top_of : CalTopOf P w K mg base C) (C_under_of : CalUnderOf P w K mg base C) (F : Fun K "__gt__" "Ratio.__gt__" s_Ratio_gt fA fd) : FnOk P w K mg base CX0 2 fA fd ["self", "other"] (spCmp C fun i j => decide (i > j)) := by
  refine F.ok sc_Ratio_gt (fun vs H Q E h => ?_) (fun cdv A outer st H vs Q E hr h => ?_)
  · obtain ⟨x, v, a, b, t, u, rfl, _⟩ := h
    rfl
  · obtain ⟨x, v, a, b, t, u, rfl, ⟨dx, hx⟩, hv, sm, q⟩ := h
    have W := (Al.nil (H := H)).got hx
    refine ⟨_, (pss_cons (ps_if (pt_not (pt_val (pe_cal C_is_number (hr.mono (by decide)) (pa_cons (pv 1) pa_nil)))) (pss_one (ps_never)) pss_nil)
      (pss_one (ps_ret (pe_cmpR op_gt (pe_op op_mulW (pe_fld (pv 0) rfl) (pe_cal C_under_of (hr.mono (by decide)) (pa_cons (pv 1) pa_nil))) (pe_op op_mulW (pe_cal C_top_of (hr.mono (by decide)) (pa_cons (pv 1) pa_nil)) (pe_fld (pv 0) rfl)) (nomark _))))), ?_⟩
    refine ⟨_, rfl, v, t, u, rfl, hv, _, rfl, iteF ?_⟩
    exact ⟨_, rfl, x, C, dx, _, _, rfl, (W.at (List.Mem.head _)), T.cl, T.nT, rf_top _ _, _, rfl, v, t, u, rfl, hv, _, _, rfl, rfl, wide_mul sm.sa sm.su (by decide) (by decide) (by decide), _, rfl, v, t, u, rfl, hv, _, rfl, x, C, dx, _, _, rfl, (W.at (List.Mem.head _)), T.cl, T.nU, rf_under _ _, _, _, rfl, rfl, wide_mul sm.st sm.sb (by decide) (by decide) (by decide), _, _, rfl, rfl, q⟩
theorem ok_ge {C fA : Addr} {fd : FuncData} (T : RatC K mg C) (C_is_number : CalIsNum P w K mg base C) (C_top_of : CalTopOf P w K mg base C) (C_under_of : CalUnderOf P w K mg base C) (F : Fun K "__ge__" "Ratio.__ge__" s_Ratio_ge fA fd) : FnOk P w K mg base CX0 2 fA fd ["self", "other"] (spCmp C fun i j => decide (i ≥ j)) := by
  refine F.ok sc_Ratio_ge (fun vs H Q E h => ?_) (fun cdv A outer st H vs Q E hr h => ?_)
  · obtain ⟨x, v, a, b, t, u, rfl, _⟩ := h
    rfl
  · obtain ⟨x, v, a, b, t, u, rfl, ⟨dx, hx⟩, hv, sm, q⟩ := h
    have W := (Al.nil (H := H)).got hx
    refine ⟨_, (pss_cons (ps_if (pt_not (pt_val (pe_cal C_is_number (hr.mono (by decide)) (pa_cons (pv 1) pa_nil)))) (pss_one (ps_never)) pss_nil)
      (pss_one (ps_ret (pe_cmpR op_ge (pe_op op_mulW (pe_fld (pv 0) rfl) (pe_cal C_under_of (hr.mono (by decide)) (pa_cons (pv 1) pa_nil))) (pe_op op_mulW (pe_cal C_top_of (hr.mono (by decide)) (pa_cons (pv 1) pa_nil)) (pe_fld (pv 0) rfl)) (nomark _))))), ?_⟩
    refine ⟨_, rfl, v, t, u, rfl, hv, _, rfl, iteF ?_⟩
    exact ⟨_, rfl, x, C, dx, _, _, rfl, (W.at (List.Mem.head _)), T.cl, T.nT, rf_top _ _, _, rfl, v, t, u, rfl, hv, _, _, rfl, rfl, wide_mul sm.sa sm.su (by decide) (by decide) (by decide), _, rfl, v, t, u, rfl, hv, _, rfl, x, C, dx, _, _, rfl, (W.at (List.Mem.head _)), T.cl, T.nU, rf_under _ _, _, _, rfl, rfl, wide_mul sm.st sm.sb (by decide) (by decide) (by decide), _, _, rfl, rfl, q⟩

theorem eqv {Q : VK} {H : Hp} {a b : Int} {p : Prop} [Decidable p] (h : p ↔ a = b) (q : Q (.bl (decide p)) H) : Q (.bl (decide (V.int a = V.int b))) H := by
  by_cases e : a = b
  · rw [decide_eq_true (h.2 e)] at q
    rw [decide_eq_true (show V.int a = V.int b by rw [e])]
    exact q
  · rw [decide_eq_false (fun z => e (h.1 z))] at q
    rw [decide_eq_false (show ¬ V.int a = V.int b from fun z => e (V.int.inj z))]
    exact q
def spEqR (K : PySem.W.Frag) (C : Addr) : Sp := fun vs H Q _ => (∃ (x : Addr) (v : V) (a b t u : Int), vs = [.ref x, v] ∧ RatAt C H x a b ∧ Num C H v t u ∧ Q (.bl (decide (a = t ∧ b = u))) H) ∨
  ∃ (x : Addr) (v : V) (a b : Int) (ty : Value), vs = [.ref x, v] ∧ RatAt C H x a b ∧ TyX K H v ty ∧ PySem.W.kitOne K ty (.ref C) = some false ∧ PySem.W.kitOne K ty (.type "int") = some false ∧ Q (.bl false) H
theorem ok_eq {C fA : Addr} {fd : FuncData} (B : Blt mg) (T : RatC K mg C) (F : Fun K "__eq__" "Ratio.__eq__" s_Ratio_eq fA fd) : FnOk P w K mg base CX0 1 fA fd ["self", "other"] (spEqR K C) := by
  refine F.ok sc_Ratio_eq (fun vs H Q E h => ?_) (fun cdv A outer st H vs Q E hr h => ?_)
  · rcases h with ⟨x, v, a, b, t, u, rfl, _⟩ | ⟨x, v, a, b, ty, rfl, _⟩ <;> rfl
  refine ⟨_, (pss_cons (ps_if (pt_val (pe_callB call_isi (by rfl) B.isinstance (by decide +kernel) (pa_cons (pv 1) (pa_cons (pe_glob (v := .ref _) (by rfl) T.g rfl) pa_nil)))) (pss_one (ps_ret ((pe_and (pe_cmpR op_eq (pe_fld (pv 0) rfl) (pe_fld (pv 1) rfl) (nomark _)) (pe_one (pe_cmpR op_eq (pe_fld (pv 0) rfl) (pe_fld (pv 1) rfl) (nomark _))))))) pss_nil)
      (pss_one (ps_ret ((pe_and (pe_callB call_isi (by rfl) B.isinstance (by decide +kernel) (pa_cons (pv 1) (pa_cons (pe_bltn (v := .ty "int") (by rfl) B.int (by decide +kernel) rfl) pa_nil))) (pe_and (pe_cmpR op_eq (pe_fld (pv 0) rfl) (pe_int) (nomark _)) (pe_one (pe_cmpR op_eq (pe_fld (pv 0) rfl) (pv 1) (nomark _))))))))), ?_⟩
  rcases h with ⟨x, v, a, b, t, u, rfl, ⟨dx, hx⟩, hv, q⟩ | ⟨x, v, a, b, tt, rfl, ⟨dx, hx⟩, ty, k1, k2, q⟩
  · rcases hv with ⟨rfl, rfl⟩ | ⟨y, rfl, dy, hy⟩
    · have W := (Al.nil (H := H)).got hx
      refine ⟨_, rfl, _, _, _, _, false, rfl, .own _, .base (.int _), T.ki, _, rfl, iteF ?_⟩
      refine ⟨_, rfl, _, _, _, _, true, rfl, .ty _, .base (.int _), kit_ty (by decide +kernel), _, rfl, iteT ?_⟩
      refine ⟨_, rfl, x, C, dx, _, _, rfl, (W.at (List.Mem.head _)), T.cl, T.nU, rf_under _ _, rfl, _, rfl, ifE (fun h1 => ?_) (fun h1 => ?_)⟩
      · skip
        refine ⟨_, rfl, x, C, dx, _, _, rfl, (W.at (List.Mem.head _)), T.cl, T.nT, rf_top _ _, _, rfl, rfl, ?_⟩
        refine eqv ?_ q
        omega
      · skip
        exact (by have e := q; rw [decide_eq_false (by omega)] at e; exact e)
    · have W := ((Al.nil (H := H)).got hy).got hx
      refine ⟨_, rfl, _, _, _, _, true, rfl, .own _, T.tyX (W.at (List.Mem.tail _ (List.Mem.head _))), kit_self _, _, rfl, iteT ?_⟩
      refine ⟨_, rfl, x, C, dx, _, _, rfl, (W.at (List.Mem.head _)), T.cl, T.nT, rf_top _ _, _, rfl, y, C, dy, _, _, rfl, (W.at (List.Mem.tail _ (List.Mem.head _))), T.cl, T.nT, rf_top _ _, rfl, _, rfl, ifE (fun h1 => ?_) (fun h1 => ?_)⟩
      · skip
        refine ⟨_, rfl, x, C, dx, _, _, rfl, (W.at (List.Mem.head _)), T.cl, T.nU, rf_under _ _, _, rfl, y, C, dy, _, _, rfl, (W.at (List.Mem.tail _ (List.Mem.head _))), T.cl, T.nU, rf_under _ _, rfl, ?_⟩
        refine eqv ?_ q
        omega
      · skip
        exact (by have e := q; rw [decide_eq_false (by omega)] at e; exact e)
  · have W := (Al.nil (H := H)).got hx
    refine ⟨_, rfl, _, _, _, _, false, rfl, .own _, ty, k1, _, rfl, iteF ?_⟩
    refine ⟨_, rfl, _, _, _, _, false, rfl, .ty _, ty, k2, _, rfl, iteF ?_⟩
    exact q
end

/-- .. as a top and an under -/
theorem NumQ.num {C : Addr} {H : Hp} {v : V} {n m : Int} {b : Nat} (h : NumQ C H v n m) (hm : 0 < m) (hn : n.natAbs < 2 ^ b) (hb : m.natAbs < 2 ^ b) :
    ∃ t u, Num C H v t u ∧ t * m = n * u ∧ 0 < u ∧ t.natAbs < 2 ^ b ∧ u.natAbs < 2 ^ b := by
  rcases h with ⟨z, ev, ez⟩ | ⟨x, ev, hx⟩
  · refine ⟨z, 1, .inl ⟨ev, rfl⟩, by rw [ez, Int.mul_one], by decide, Nat.lt_of_le_of_lt ?_ hn, Nat.lt_of_le_of_lt (show (1 : Int).natAbs ≤ m.natAbs by omega) hb⟩
    rw [← ez, Int.natAbs_mul]
    exact Nat.le_mul_of_pos_right _ (by omega)
  · have hm' : m ≠ 0 := by omega
    exact ⟨nT n m, nU n m, .inr ⟨x, ev, hx⟩, n_cross n m, nU_pos hm', Nat.lt_of_le_of_lt (nT_le hm') hn, Nat.lt_of_le_of_lt (nU_le hm') hb⟩
structure Sq (n m : Int) : Prop where
  p : 0 < m
  n : n.natAbs < 2 ^ 4400
  m : m.natAbs < 2 ^ 4400
abbrev spAdd (C : Addr) := spAr C (fun a b t u => a * u + t * b) (fun a b t u => b * u)
abbrev spSub (C : Addr) := spAr C (fun a b t u => a * u - t * b) (fun a b t u => b * u)
abbrev spMul (C : Addr) := spAr C (fun a b t u => a * t) (fun a b t u => b * u)
/-- a Ratio with a number: what the operator's two rules ask -/
theorem ar_q {C : Addr} {f g : Int → Int → Int → Int → Int} {H : Hp} {x : Addr} {v : V} {n m n' m' N M : Int} {Q : VK} (hx : RatQ C H x n m) (hv : NumQ C H v n' m') (s1 : Sq n m) (s2 : Sq n' m') (hM : M ≠ 0)
    (hg : ∀ a b t u : Int, 0 < b → 0 < u → g a b t u ≠ 0) (e : ∀ a b t u : Int, 0 < b → 0 < u → a * m = n * b → t * m' = n' * u → f a b t u * M = N * g a b t u)
    (k : ∀ (z : Addr) (H' : Hp), Same H H' → RatQ C H' z N M → Q (.ref z) H') : rOO C (spAr C f g) (.ref x) v H Q ∨ rOI C (spAr C f g) (.ref x) v H Q := by
  obtain ⟨t, u, hn, et, pu, bt, bu⟩ := hv.num s2.p s2.n s2.m
  have nm : m ≠ 0 := by have := s1.p; omega
  have pm := nU_pos (t := n) nm
  have sm : Sm (nT n m) (nU n m) t u := ⟨Nat.lt_of_le_of_lt (nT_le nm) s1.n, Nat.lt_of_le_of_lt (nU_le nm) s1.m, bt, bu, pm, pu⟩
  have fin : ∀ (z : Addr) (H' : Hp), Same H H' → RatAt C H' z (nT (f (nT n m) (nU n m) t u) (g (nT n m) (nU n m) t u)) (nU (f (nT n m) (nU n m) t u) (g (nT n m) (nU n m) t u)) → ∃ z', V.ref z = .ref z' ∧ Q (.ref z') H' := fun z H' s hz =>
    ⟨z, rfl, k z H' s (RatQ.of hz (hg _ _ _ _ pm pu) hM (e _ _ _ _ pm pu (n_cross n m) et))⟩
  obtain ⟨dx, hx'⟩ := id hx
  rcases id hn with ⟨rfl, rfl⟩ | ⟨y, rfl, dy, hy⟩
  · exact .inr ⟨x, dx, _, t, rfl, hx', rfl, x, .int t, _, _, t, 1, rfl, hx, hn, sm, fin⟩
  · exact .inl ⟨x, dx, _, y, dy, _, rfl, hx', rfl, hy, x, .ref y, _, _, t, u, rfl, hx, hn, sm, fin⟩
theorem add_q {C : Addr} {H : Hp} {x : Addr} {v : V} {n D n' : Int} {Q : VK} (hx : RatQ C H x n D) (hv : NumQ C H v n' D) (s1 : Sq n D) (s2 : Sq n' D) (k : ∀ (z : Addr) (H' : Hp), Same H H' → RatQ C H' z (n + n') D → Q (.ref z) H') :
    rOO C (spAdd C) (.ref x) v H Q ∨ rOI C (spAdd C) (.ref x) v H Q :=
  ar_q hx hv s1 s2 (by have := s1.p; omega) (fun a b t u h1 h2 => Int.ne_of_gt (Int.mul_pos h1 h2)) (fun a b t u h1 h2 e1 e2 => by grind) k
theorem mul_q {C : Addr} {H : Hp} {x : Addr} {v : V} {n m n' m' : Int} {Q : VK} (hx : RatQ C H x n m) (hv : NumQ C H v n' m') (s1 : Sq n m) (s2 : Sq n' m') (k : ∀ (z : Addr) (H' : Hp), Same H H' → RatQ C H' z (n * n') (m * m') → Q (.ref z) H') :
    rOO C (spMul C) (.ref x) v H Q ∨ rOI C (spMul C) (.ref x) v H Q :=
  ar_q hx hv s1 s2 (Int.ne_of_gt (Int.mul_pos s1.p s2.p)) (fun a b t u h1 h2 => Int.ne_of_gt (Int.mul_pos h1 h2)) (fun a b t u h1 h2 e1 e2 => by grind) k
theorem sgn0 {t u n m : Int} (hm : 0 < m) (hu : 0 < u) (e : t * m = n * u) : (t < 0 ↔ n < 0) ∧ (t = 0 ↔ n = 0) := by
  constructor
  · constructor
    · intro h
      rcases (by omega : n < 0 ∨ 0 ≤ n) with h1 | h1
      · exact h1
      · have := Int.mul_neg_of_neg_of_pos h hm
        have := Int.mul_nonneg h1 (show 0 ≤ u by omega)
        omega
    · intro h
      rcases (by omega : t < 0 ∨ 0 ≤ t) with h1 | h1
      · exact h1
      · have := Int.mul_neg_of_neg_of_pos h hu
        have := Int.mul_nonneg h1 (show 0 ≤ m by omega)
        omega
  · constructor
    · rintro rfl
      rw [Int.zero_mul] at e
      rcases Int.mul_eq_zero.mp e.symm with h | h
      · exact h
      · omega
    · rintro rfl
      rw [Int.zero_mul] at e
      rcases Int.mul_eq_zero.mp e with h | h
      · exact h
      · omega
end L

set_option Elab.async false
set_option linter.all false
set_option maxRecDepth 100000
set_option maxHeartbeats 4000000
namespace Bx
open PySem PySem.Spec PyProof.Rows L2 Fl
/-! ### a def that returns NotImplemented at its first test -/
def CN (outer : List Env) (P : Program) (w : World) (H : Hp) (s : Shared) (QH : Hp → Prop) (r : Result) (s' : Shared) : Prop :=
  match r with
  | .ok (.ret u) => u = Value.notImplemented ∧ ∃ H', s'.os = s.os ∧ AllBare s'.gens ∧ Un (frs outer) [] H H' s.heap s'.heap ∧ HOk P w H' s'.heap ∧ QH H'
  | _ => False
abbrev SpN := List V → Hp → (Hp → Prop) → Prop
structure FnNI (P : Program) (w : World) (K : PySem.W.Frag) (mg : Str → Option Value) (base : Heap) (k : Nat) (f : Addr) (fd : FuncData) (ps : List Str) (sp : SpN) : Prop where
  len : ∀ vs H Q, sp vs H Q → vs.length = ps.length
  run : ∀ (A : Around) (outer : List Env) (s : Shared) (H : Hp) (args : Args) (us : List Value) (vs : List V) (QH : Hp → Prop), Room k A → Env0 P w K mg base A outer s H → BindsTo s fd args (ps.zip us) → Vals vs us → sp vs H QH →
    codeAny (model P w) A (.call (.ref f) args) (CN outer P w H s QH) s
theorem ni_of {P : Program} {w : World} {K : PySem.W.Frag} {mg : Str → Option Value} {base : Heap} {k : Nat} {f : Addr} {name qual : Str} {params : Arguments} {body : List Stmt} {scope : Scope} {dV kV doc pm cdv ct oc : Value} {an od : Option Addr}
  {osl : Array (Option Value)} {N ps : List Str} {sp : SpN} {test : Expr} {rest : List Stmt} {p1 p2 p3 : Pos} (lk : K.lookup f = some ⟨oc, od, .func (PySem.W.fnOf name qual params body scope dV kV doc pm an cdv ct), osl⟩) (hcd : PySem.W.codeIn K cdv qual = true) (S : FnScope N ps scope)
  (len : ∀ vs H Q, sp vs H Q → vs.length = ps.length) (eb : body = .If test [.Return (some (.Name "NotImplemented" p1)) p2] [] p3 :: rest) (hm : mg "NotImplemented" = none)
  (hg : ∀ (A : Around) (outer : List Env) (s : Shared) (H : Hp), Gl (cxOf CX0 P w K mg base N qual scope f cdv A outer s H E0) "NotImplemented")
  (hbody : ∀ (A : Around) (outer : List Env) (s : Shared) (H : Hp) (vs : List V) (QH : Hp → Prop), Room k (A.deeper (envOfC qual scope s.heap.objs.size f cdv)) → sp vs H QH →
      ∃ t : TT, PT (cxOf CX0 P w K mg base N qual scope f cdv A outer s H E0).nox test t ∧ t (start N vs) H (fun b H' => b = true ∧ QH H')) :
    FnNI P w K mg base (k + 1) f (PySem.W.fnOf name qual params body scope dV kV doc pm an cdv ct) ps sp := by
  refine ⟨len, fun A outer s H args us vs QH hr e0 hb r hsp => ?_⟩
  have hl := len _ _ _ hsp
  have KX : K.In s.heap := e0.mod.kin.keeps fun b o e => (e0.bs b o e).1
  have lim : s.heap.NoLimit := e0.mod.nolimit.keeps fun b o e => (e0.bs b o e).1
  have hkind : ∀ y ∈ ps.zip us, scope.names.lookup y.1 = some .local ∨ (scope.names.lookup y.1 = some .cell ∧ ((cellsFrom (s.heap.objs.size + 1) scope.names []).lookup y.1).isSome = true) := fun ⟨n, v⟩ hy => by
    rcases S.par n (List.of_mem_zip hy).1 with q | q
    · exact .inl q
    · exact .inr ⟨q, PySem.W.cellsFrom_some _ _ _ (.inl q)⟩
  refine codeAny_call_function hr.depth (KX _ _ lk) rfl S.co S.gen rfl (PySem.W.codeRec_of KX hcd) (hb _ _ _ _ ?_)
  refine wpAny_newFunctionEnv_cells S.kind hkind fun env he s1 x => ?_
  subst he
  refine ⟨lim.keeps x.toInCall.keep, codeAny_func ?_⟩
  obtain ⟨t, ht, hq⟩ := hbody A outer s H vs QH (hr.deeper _) hsp
  have I : Inv (cxOf CX0 P w K mg base N qual scope f cdv A outer s H E0) [] (start N vs) H s1 := inv_start S hr.hd e0 hl r x
  refine wpAny_mono (Q := fun fl s' => fl = .ret Value.notImplemented ∧ ∃ H', Inv (cxOf CX0 P w K mg base N qual scope f cdv A outer s H E0) [] (start N vs) H' s' ∧ QH H') ?_ (fun fl s' hs => ?_) fun e s' hs => hs
  · subst eb
    refine wpAny_execs_cons ?_
    refine wpAny_If (thn (ht.nox.run [] s1 (start N vs) H _ I hq) fun d s2 ⟨H1, I1, e1, q1⟩ => ?_)
    subst e1
    simp only [if_true]
    refine wpAny_execs_cons (wpAny_Return_some (ld_blt (u := Value.notImplemented) I1 (hg A outer s H) hm (by decide +kernel) ?_))
    exact ⟨rfl, H1, I1, q1⟩
  · obtain ⟨rfl, H', J, q⟩ := hs
    exact ⟨rfl, H', J.os, J.bare, J.base, J.hok, q⟩
/-- behind a call that declines -/
theorem run_ni {X : Cx} {k : Nat} {f : Addr} {fd : FuncData} {ps : List Str} {sp : SpN} {E : Value → Shared → Prop} {pins : List (Addr × Obj)} {σ : L2.St} {H : Hp} {s : Shared} {QH : Hp → Prop} {us : List Value} {vs : List V} (F : FnNI X.prog X.w X.K X.mg X.base k f fd ps sp) (hr : Room k X.A) (hb : Binds X.K fd ps [])
    (I : Inv X pins σ H s) (r : Vals vs us) (h : sp vs H QH) : wpAny (model X.prog X.w) X.A (call (.ref f) us) (fun v s' => v = Value.notImplemented ∧ ∃ H', Inv X pins σ H' s' ∧ QH H') E s := by
  have hl : us.length = ps.length := by rw [← r.length]; exact F.len _ _ _ h
  have bb := hb s us I.kIn (by simpa using hl)
  rw [List.append_nil] at bb
  refine wpAny_call (codeAny_mono (F.run X.A X.stack s H ⟨us, []⟩ us vs QH hr I.env0 bb r h) fun r s' hq => ?_)
  cases r with
  | error e => exact hq.elim
  | ok fl =>
    cases fl with
    | ret u =>
      obtain ⟨rfl, H', os, bare, un, hok, q⟩ := hq
      obtain ⟨hh, g, d, t, os'⟩ := s'
      obtain rfl : os' = s.os := os
      exact ⟨rfl, H', I.call (h' := hh) (g' := g) (d' := d) (t' := t) (ch := []) un hok bare (fun b z => absurd z (by simp)), q⟩
    | next => exact False.elim hq
    | brk => exact False.elim hq
    | cont => exact False.elim hq
section
open PySem.W PySem.Calls
variable {prog : Program} {w : World} {A : Around} {E : Value → Shared → Prop} {s : Shared} {K : Frag} {x y C D L f f2 g : Addr} {h₀ : Heap} {m : Str → Option Value} {od oe : Option Obj} {ox oy : Obj}
theorem try_ni {name : Str} {b : Value} {R : Shared → Prop} (X : K.In s.heap) (I : PySem.W.InstAt s.heap x ox C od) (hs : findIn K (.ref C) name = some (some (.ref f))) (hf : isFn K (.ref f) = true)
    (h : wpAny (model prog w) A (call (.ref f) [.ref x, b]) (fun v s' => v = Value.notImplemented ∧ R s') E s) : wpAny (model prog w) A (tryMethod (.ref x) name b) (fun r s' => r = none ∧ R s') E s := by
  unfold tryMethod
  refine wpAny_bind (special_fn X I hs (beq_iff_eq.mp hf) (wpAny_mono h (fun v s' hv => ?_) fun _ _ e => e))
  obtain ⟨rfl, hv⟩ := hv
  exact wpAny_pure ⟨rfl, hv⟩
/-- own op own of another class: the left one declines, the right one answers -/
theorem bin_own2 {op : Operator} {Q : Value → Shared → Prop} (F : Fr h₀ L s.heap m) (X₀ : K.In h₀) (I : PySem.W.InstAt s.heap x ox C od) (J : PySem.W.InstAt s.heap y oy D oe) (hc : selfFirst K C = true) (hcD : selfFirst K D = true) (ne : C ≠ D)
    (hs : findIn K (.ref C) (PySem.dunder op.info.2) = some (some (.ref f))) (hf : isFn K (.ref f) = true) (hrC : findIn K (.ref C) (dunderR op.info.2) = some (some (.ref f2)))
    (hsD : findIn K (.ref D) (PySem.dunder op.info.2) = some (some (.ref f3))) (hr : findIn K (.ref D) (dunderR op.info.2) = some (some (.ref g))) (hg : isFn K (.ref g) = true) (hsub : subIn K (.ref D) (.ref C) = some false)
    (h : wpAny (model prog w) A (call (.ref f) [.ref x, .ref y]) (fun v s' => v = Value.notImplemented ∧ K.In s'.heap ∧ (∃ od', PySem.W.InstAt s'.heap x ox C od') ∧ (∃ oe', PySem.W.InstAt s'.heap y oy D oe') ∧ wpAny (model prog w) A (call (.ref g) [.ref y, .ref x]) (PySem.W.CmpBack Q) E s') E s) :
    wpAny (model prog w) A (binaryOp op (.ref x) (.ref y)) Q E s := by
  have X := X₀.keeps F.keep
  obtain ⟨cd, rest, hcd, hm⟩ := ksp_first hc
  obtain ⟨ce, rest', hce, hm'⟩ := ksp_first hcD
  rcases hi : op.info with ⟨sym, nm'⟩
  rw [hi] at hs hr hrC hsD
  dsimp only at hs hr hrC hsD
  have one := try_ni X I hs hf h
  have hne : (Value.ref C == Value.ref D) = false := Bool.eq_false_iff.mpr fun q => ne (by cases beq_iff_eq.mp q; rfl)
  simp only [binaryOp, hi]
  refine wpAny_holding (wpAny_bind ?_)
  simp only [binaryOp1]
  refine wpAny_bind (I.type.here (wpAny_bind (J.type.here ?_)))
  refine wpAny_bind ((fills_K X hcd hm hs).here ?_)
  simp only [hne, Bool.false_eq_true, if_false]
  refine wpAny_bind ((fills_K X hce hm' hsD).here ?_)
  simp only [Bool.and_self, if_true]
  refine wpAny_bind ((looks_subIn X hsub).here ?_)
  simp only [Bool.false_eq_true, if_false, pure_bind, Bool.not_false, Bool.and_self, if_true]
  refine wpAny_bind ((ksp_inPy X hs hrC (.inr ⟨_, rfl⟩)).here ?_)
  simp only [if_true]
  refine wpAny_bind ((ksp_inPy X hsD hr (.inr ⟨_, rfl⟩)).here ?_)
  simp only [Bool.not_true, Bool.false_eq_true, if_false, pure_bind]
  refine wpAny_bind (wpAny_mono one (fun r s' hr' => ?_) fun _ _ e => e)
  obtain ⟨rfl, X', ⟨od', I'⟩, ⟨oe', J'⟩, h'⟩ := hr'
  have two := ksp_try X' J' hr hg h'
  dsimp only
  refine wpAny_bind (I'.type.here (wpAny_bind (J'.type.here ?_)))
  simp only [hne, Bool.false_eq_true, if_false]
  refine wpAny_bind (wpAny_mono two (fun r s2 hr2 => ?_) fun _ _ e => e)
  obtain ⟨v, rfl, hq⟩ := hr2
  exact wpAny_bind (wpAny_rule (wpAny_pure (wpAny_pure hq)))
end
section
structure OpNI (P : Program) (w : World) (K : PySem.W.Frag) (mg : Str → Option Value) (base : Heap) (k : Nat) (C : Addr) (nm : Str) (ps : List Str) (sp : SpN) : Prop where
  ex : ∃ (f : Addr) (fd : FuncData), PySem.W.findIn K (.ref C) nm = some (some (.ref f)) ∧ PySem.W.isFn K (.ref f) = true ∧ FnNI P w K mg base k f fd ps sp ∧ Binds K fd ps []
def rNI (C D : Addr) (spn : SpN) (sp : Sp) : R2 := fun x y H Q => ∃ (a dx : Addr) (gs : List (Str × V)) (b dy : Addr) (hs : List (Str × V)), x = .ref a ∧ H a = some (.ins C dx gs) ∧ y = .ref b ∧ H b = some (.ins D dy hs) ∧
  spn [.ref a, .ref b] H (fun H1 => (∃ gs1, H1 a = some (.ins C dx gs1)) ∧ (∃ hs1, H1 b = some (.ins D dy hs1)) ∧ sp [.ref b, .ref a] H1 (oR Q) E0)
variable {X : Cx} {k k2 : Nat} {C D : Addr} {ps ps2 : List Str} {spn : SpN} {sp : Sp} {op : Operator}
theorem op_ni {f2 f3 : Addr} (M : OpNI X.prog X.w X.K X.mg X.base k2 C (PySem.dunder op.info.2) ps2 spn) (M2 : OpOwn X.prog X.w X.K X.mg X.base k D (dunderR op.info.2) ps sp) (hc : PySem.W.selfFirst X.K C = true) (hcD : PySem.W.selfFirst X.K D = true) (ne : C ≠ D)
    (hrC : PySem.W.findIn X.K (.ref C) (dunderR op.info.2) = some (some (.ref f2))) (hsD : PySem.W.findIn X.K (.ref D) (PySem.dunder op.info.2) = some (some (.ref f3))) (hsub : PySem.W.subIn X.K (.ref D) (.ref C) = some false) (hr2 : Room k2 X.A) (hr : Room k X.A) : OpR X (binaryOp op) (rNI C D spn sp) := by
  obtain ⟨f, fd, hs, hf, F, b⟩ := M.ex
  obtain ⟨g, gd, hs2, hg, G, b2⟩ := M2.ex
  intro pins s σ H x y v u Q I rx ry h
  obtain ⟨a, dx, gs, b', dy, gs', rfl, ea, rfl, eb, q⟩ := h
  cases rx
  cases ry
  obtain ⟨mA, J, _⟩ := ins_get I.hok ea
  obtain ⟨od, J, _⟩ := J.look
  obtain ⟨mB, J', _⟩ := ins_get I.hok eb
  obtain ⟨od', J', _⟩ := J'.look
  obtain ⟨m, hF⟩ := I.fr
  refine bin_own2 hF I.ok.mod.kin J J' hc hcD ne hs hf hrC hsD hs2 hg hsub (wpAny_mono (run_ni (E := X.xe) F hr2 b I (.cons (show RelV (.ref a) (.ref a) from rfl) (.cons (show RelV (.ref b') (.ref b') from rfl) .nil)) q) (fun r s' hq => ?_) fun _ _ z => z)
  obtain ⟨rfl, H1, I1, ⟨gs1, ea1⟩, ⟨hs1, eb1⟩, q1⟩ := hq
  obtain ⟨_, K1, _⟩ := ins_get I1.hok ea1
  obtain ⟨o1, K1, _⟩ := K1.look
  obtain ⟨_, K2, _⟩ := ins_get I1.hok eb1
  obtain ⟨o2, K2, _⟩ := K2.look
  refine ⟨rfl, I1.kIn, ⟨_, K1⟩, ⟨_, K2⟩, wpAny_mono (run_fn G hr b2 (dvs := []) .nil pass0 I1 (.cons (show RelV (.ref b') (.ref b') from rfl) (.cons (show RelV (.ref a) (.ref a) from rfl) .nil)) q1) (fun r s2 hr => ?_) fun _ _ z => z⟩
  obtain ⟨z, H2, I2, rz, c, rfl, q2⟩ := hr
  cases rz
  exact ⟨V.ref c, H2, I2, rfl, q2⟩
/-! ### x(..) of an own instance -/
structure OpCall (P : Program) (w : World) (K : PySem.W.Frag) (mg : Str → Option Value) (base : Heap) (k : Nat) (C : Addr) (ps : List Str) (sp : Sp) : Prop where
  ex : ∃ (f : Addr) (fd : FuncData), PySem.W.findIn K (.ref C) "__call__" = some (some (.ref f)) ∧ PySem.W.isFn K (.ref f) = true ∧ PySem.W.fnIn K f = true ∧ FnOk P w K mg base CX0 k f fd ps sp ∧ Binds K fd ps []
def tCallO (C : Addr) (sp : Sp) (tf : TE) (t : TA) : TE := fun σ H Q => tf σ H fun x H1 => ∃ a, x = .ref a ∧ t σ H1 fun vs H2 => (∃ dx gs, H2 a = some (.ins C dx gs)) ∧ sp (.ref a :: vs) H2 Q E0
open PySem.W PySem.Calls in
theorem callWith_own {M : Model} {A : Around} {E : Value → Shared → Prop} {s : Shared} {env : Env} {pos : Pos} {x : Addr} {Q : Value → Shared → Prop} {e : Expr} {rest : List Expr}
    (h : wpAny M A (spliced (backTo pos (starEach (e :: rest) env))) (fun vs s₁ => (∃ (K : Frag) (C : Addr) (ox : Obj) (od : Option Obj), ox.data = .plain ∧ kco_P K x C ox od s₁.heap) ∧ wpAny M A (call (.ref x) vs) Q E s₁) E s)
    (he : starEach (e :: rest) env = (false, eval e env) :: starEach rest env := by rfl) (hplain : (backTo pos (starEach rest env)).any (·.1) = false := by rfl) :
    wpAny M A (callWith pos (.ref x) [] (backTo pos (starEach (e :: rest) env)) []) Q E s := by
  rw [he] at h ⊢
  have hp : ((((false, eval e env) :: backTo pos (starEach rest env)).any (·.1)) || ([] : List (Option Str × Sem Value)).any (·.1.isNone)) = false := by
    show ((false || (backTo pos (starEach rest env)).any (·.1)) || false) = false
    rw [hplain]
    rfl
  have h2 := evalArgs_plain (f := .ref x) (Q := fun a s₁ => (∃ (K : Frag) (C : Addr) (ox : Obj) (od : Option Obj), ox.data = .plain ∧ kco_P K x C ox od s₁.heap) ∧ wpAny M A (call (.ref x) a.pos a.kw) Q E s₁) h
  unfold callWith
  refine wpAny_bind (wpAny_holding (wpAny_mono h2 (fun a s₁ h₁ => wpAny_bind (wpAny_standAt ?_)) fun _ _ y => y))
  obtain ⟨⟨K, C, ox, od, hd, hP⟩, h₁⟩ := h₁
  have L := kco_keeper (M := M) hP.2 hd
  simp only [hp]
  refine wpAny_bind (L.here ?_)
  have tail : ∀ {t : Sem Value}, wpAny M A t Q E s₁ → wpAny M A (t >>= fun r => holding [r] point >>= fun _ => pure r) Q E s₁ :=
    fun ht => wpAny_bind (wpAny_mono ht (fun r s₂ hr => wpAny_bind (wpAny_holding (wpAny_point (wpAny_pure hr)))) fun _ _ y => y)
  exact tail (wpAny_operateT h₁)
variable {x : Str} {p pos : Pos} {e : Expr} {es : List Expr} {t : TA} {tf : TE}
theorem pe_callO (M : OpCall X.prog X.w X.K X.mg X.base k C ps sp) (hr : Room k X.A) (hf : PE X (.Name x p) tf) (ha : PA X (e :: es) t)
    (he : starEach (e :: es) X.env = (false, eval e X.env) :: starEach es X.env := by rfl) (hpl : (backTo pos (starEach es X.env)).any (·.1) = false := by rfl) : PE X (.Call (.Name x p) (e :: es) [] pos) (tCallO C sp tf t) := by
  obtain ⟨f, fd, hs, hfn, hin, F, b⟩ := M.ex
  refine ⟨fun pins s σ H Q I h => ?_⟩
  refine wpAny_Call_Name_kw (thn (hf.run pins s σ H _ I h) fun u s1 ⟨v, H1, I1, r1, a, ev, q1⟩ => ?_)
  subst ev
  cases r1
  refine callWith_own (thn (ha.run pos pins s1 σ H1 _ I1 q1) fun us s2 ⟨vs, H2, I2, r, ⟨dx, gs, ea⟩, q⟩ => ?_) he hpl
  obtain ⟨mA, J, _⟩ := ins_get I2.hok ea
  obtain ⟨od, J, _⟩ := J.look
  refine ⟨⟨X.K, C, _, _, rfl, I2.kIn, J⟩, ?_⟩
  have hl := F.len _ _ _ _ q
  have r2 : Vals (V.ref a :: vs) (Value.ref a :: us) := .cons (show RelV (.ref a) (.ref a) from rfl) r
  have bb := b s2 (.ref a :: us) I2.kIn (by rw [List.append_nil, ← r2.length]; exact hl)
  rw [List.append_nil] at bb
  refine wpAny_call (PySem.W.kco_code I2.kIn J rfl hs hfn hin (codeAny_mono (F.run X.A X.stack s2 H2 ⟨.ref a :: us, []⟩ (.ref a :: us) (.ref a :: vs) Q E0 hr I2.env0 bb r2 q) fun r s' hq => ?_))
  cases r with
  | error e => exact (pass0 pins σ H2 s2 e s' I2 hq)
  | ok fl =>
    cases fl with
    | ret z => exact I2.after hq
    | next => exact False.elim hq
    | brk => exact False.elim hq
    | cont => exact False.elim hq
end
end Bx

set_option Elab.async false
set_option linter.all false
set_option maxRecDepth 100000
set_option maxHeartbeats 4000000
set_option pp.maxSteps 160
set_option pp.deepTerms false
namespace L
open PySem PySem.Spec PyProof.Rows L2 Fl
local macro_rules | `(tactic| walk_at "side") => `(tactic| first | (exact .inl ⟨by omega, by omega⟩) | (exact .inr ⟨by omega, by omega⟩) | (exact .inr ⟨by decide, by decide⟩) | (show (_ : Int) ≠ _; omega) | (exact ⟨by omega, by decide⟩) | (exact ⟨by decide, by decide, by decide⟩))
local macro_rules | `(tactic| walk_at "go") => `(tactic| repeat (first | refine ⟨_, rfl, ?_⟩ | refine ⟨_, _, rfl, rfl, ?_⟩ | refine .inl ⟨_, rfl, ?_⟩ | refine ⟨rfl, ?_⟩ | refine ⟨(by walk_at "side"), ?_⟩))
local macro_rules | `(tactic| walk_at "see") => `(tactic| (set_option pp.maxSteps 110 in set_option pp.deepTerms false in trace_state))
local macro_rules | `(tactic| walk_at "if") => `(tactic| first | refine ifE ?_ ?_ | refine ifNE ?_ ?_ | refine ifD ?_ ?_ | refine ifN ?_ ?_ | refine ifB ?_ ?_)
open Bx

/-! ### numbers by their values: more rules -/
theorem RatQ.keep {C p : Addr} {H H' : Hp} {x : Addr} {n m : Int} (h : RatQ C H x n m) (k : Keeps H H' p) (ne : x ≠ p) : RatQ C H' x n m := RatAt.keep h k ne
theorem RatQ.ne_pool {C : Addr} {p : Pla} {H : Hp} {x : Addr} {n m : Int} (h : RatQ C H x n m) (hp : Pool H p) : x ≠ p := RatAt.ne_pool h hp
theorem NumQ.keep {C : Addr} {p : Pla} {H H' : Hp} {v : V} {n m : Int} (h : NumQ C H v n m) (hP : Pool H p) (k : Keeps H H' p) : NumQ C H' v n m := by
  rcases h with h | ⟨x, e, h⟩
  · exact .inl h
  · exact .inr ⟨x, e, h.keep k (h.ne_pool hP)⟩
theorem sub_q {C : Addr} {H : Hp} {x : Addr} {v : V} {n m n' m' : Int} {Q : VK} (hx : RatQ C H x n m) (hv : NumQ C H v n' m') (s1 : Sq n m) (s2 : Sq n' m') (k : ∀ (z : Addr) (H' : Hp), Same H H' → RatQ C H' z (n * m' + (-n') * m) (m * m') → Q (.ref z) H') :
    rOO C (spSub C) (.ref x) v H Q ∨ rOI C (spSub C) (.ref x) v H Q :=
  ar_q hx hv s1 s2 (Int.ne_of_gt (Int.mul_pos s1.p s2.p)) (fun a b t u h1 h2 => Int.ne_of_gt (Int.mul_pos h1 h2)) (fun a b t u h1 h2 e1 e2 => by grind) k
theorem plus_q {C : Addr} {H : Hp} {x : Addr} {v : V} {n m n' m' : Int} {Q : VK} (hx : RatQ C H x n m) (hv : NumQ C H v n' m') (s1 : Sq n m) (s2 : Sq n' m') (k : ∀ (z : Addr) (H' : Hp), Same H H' → RatQ C H' z (n * m' + n' * m) (m * m') → Q (.ref z) H') :
    rOO C (spAdd C) (.ref x) v H Q ∨ rOI C (spAdd C) (.ref x) v H Q :=
  ar_q hx hv s1 s2 (Int.ne_of_gt (Int.mul_pos s1.p s2.p)) (fun a b t u h1 h2 => Int.ne_of_gt (Int.mul_pos h1 h2)) (fun a b t u h1 h2 e1 e2 => by grind) k
abbrev spRMul (C : Addr) := spArR C (fun a b n => n * a) (fun a b n => 1 * b)
/-- a number times a Ratio -/
theorem mulR_q {C : Addr} {H : Hp} {x : Addr} {v : V} {n m n' m' : Int} {Q : VK} (hv : NumQ C H v n' m') (hx : RatQ C H x n m) (s1 : Sq n m) (s2 : Sq n' m') (k : ∀ (z : Addr) (H' : Hp), Same H H' → RatQ C H' z (n * n') (m * m') → Q (.ref z) H') :
    rOO C (spMul C) v (.ref x) H Q ∨ rIO C (spRMul C) v (.ref x) H Q := by
  obtain ⟨t, u, hn, et, pu, bt, bu⟩ := hv.num s2.p s2.n s2.m
  have nm : m ≠ 0 := by have := s1.p; omega
  have pm := nU_pos (t := n) nm
  have c := n_cross n m
  have b1 := Nat.lt_of_le_of_lt (nT_le (u := m) nm) s1.n
  have b2 := Nat.lt_of_le_of_lt (nU_le (t := n) nm) s1.m
  have M0 : m * m' ≠ 0 := Int.ne_of_gt (Int.mul_pos s1.p s2.p)
  obtain ⟨dx, hx'⟩ := id hx
  rcases id hn with ⟨rfl, rfl⟩ | ⟨y, rfl, dy, hy⟩
  · refine .inr ⟨x, dx, _, t, rfl, hx', rfl, x, t, _, _, rfl, hx, ⟨b1, b2, bt, bu, pm, pu⟩, fun z H' s hz => ⟨z, rfl, k z H' s (RatQ.of hz (by show 1 * nU n m ≠ 0; rw [Int.one_mul]; exact Int.ne_of_gt pm) M0 ?_)⟩⟩
    generalize nT n m = a at *
    generalize nU n m = b at *
    grind
  · refine .inl ⟨y, dy, _, x, dx, _, rfl, hy, rfl, hx', y, .ref x, _, _, _, _, rfl, ⟨dy, hy⟩, .inr ⟨x, rfl, hx⟩, ⟨bt, bu, b1, b2, pu, pm⟩, fun z H' s hz => ⟨z, rfl, k z H' s (RatQ.of hz (Int.ne_of_gt (Int.mul_pos pu pm)) M0 ?_)⟩⟩
    generalize nT n m = a at *
    generalize nU n m = b at *
    grind
theorem neg_q {C : Addr} {H : Hp} {x : Addr} {n m : Int} {Q : VK} (hx : RatQ C H x n m) (s1 : Sq n m) (k : ∀ (z : Addr) (H' : Hp), Same H H' → RatQ C H' z (-n) m → Q (.ref z) H') : rNegO C (spNeg C) (.ref x) H Q := by
  have nm : m ≠ 0 := by have := s1.p; omega
  have pm := nU_pos (t := n) nm
  have c := n_cross n m
  obtain ⟨dx, hx'⟩ := id hx
  refine ⟨x, dx, _, rfl, hx', x, _, _, rfl, hx, pm, Nat.lt_of_le_of_lt (nU_le nm) s1.m, fun z H' s hz => k z H' s (RatQ.of hz (Int.ne_of_gt pm) nm ?_)⟩
  generalize nT n m = a at *
  generalize nU n m = b at *
  grind
theorem eq_q {n m n' m' : Int} (hm : m ≠ 0) (hm' : m' ≠ 0) : (nT n m = nT n' m' ∧ nU n m = nU n' m') ↔ n * m' = n' * m := by
  constructor
  · rintro ⟨e1, e2⟩
    have c1 := n_cross n m
    have c2 := n_cross n' m'
    rw [e1, e2] at c1
    have p := nU_pos (t := n') hm'
    generalize nT n' m' = t at *
    generalize nU n' m' = u at *
    refine Int.eq_of_mul_eq_mul_right (Int.ne_of_gt p) ?_
    grind
  · intro h
    exact n_eq hm hm' h
/-! ### lines -/
def lf (a b : V) : List (Str × V) := putF "slope" b (putF "start" a [])
theorem ss_ne : ¬ (("start" : Str) = "slope") := by decide +kernel
theorem lf_start (a b : V) : (lf a b).lookup ("start" : Str) = some a := by
  unfold lf
  rw [lookup_putF, if_neg ss_ne, lookup_putF, if_pos rfl]
theorem lf_slope (a b : V) : (lf a b).lookup ("slope" : Str) = some b := by
  unfold lf
  rw [lookup_putF, if_pos rfl]
structure LineC (K : PySem.W.Frag) (mg : Str → Option Value) (D : Addr) : Prop where
  cl : Cls K D
  nA : NoAttr K D "start"
  nB : NoAttr K D "slope"
  g : mg "Line" = some (.ref D)
  ha : PySem.W.findIn K (.ref D) "__class__" = some (some (.builtin "object.__class__"))
  hn : PySem.W.specialIn K (.builtin "object.__class__") "__get__" = some (some (.builtin "getset_descriptor.__get__"))
  htk : PySem.W.takesIn K (.builtin "object.__class__") = some true
  hm : PySem.W.mroIn K D (.type "object") = some true
theorem LineC.tyX {K : PySem.W.Frag} {mg : Str → Option Value} {D : Addr} (T : LineC K mg D) {H : Hp} {x dx : Addr} {fs : List (Str × V)} (h : H x = some (.ins D dx fs)) : TyX K H (.ref x) (.ref D) := .base (.ins h T.cl T.ha T.hn T.htk T.hm)
/-- the line x: start n / m, slope n' / m' -/
structure LinQ (C D : Addr) (H : Hp) (x : Addr) (n m n' m' : Int) : Prop where
  ex : ∃ dx a b, H x = some (.ins D dx (lf (.ref a) (.ref b))) ∧ RatQ C H a n m ∧ RatQ C H b n' m'
theorem LinQ.same {C D : Addr} {H H' : Hp} {x : Addr} {n m n' m' : Int} (h : LinQ C D H x n m n' m') (k : Same H H') : LinQ C D H' x n m n' m' := by
  obtain ⟨dx, a, b, h, ha, hb⟩ := h.ex
  exact ⟨dx, a, b, k _ _ h, ha.same k, hb.same k⟩
theorem LinQ.keep {C D : Addr} {p : Pla} {H H' : Hp} {x : Addr} {n m n' m' : Int} (h : LinQ C D H x n m n' m') (hP : Pool H p) (k : Keeps H H' p) : LinQ C D H' x n m n' m' := by
  obtain ⟨dx, a, b, h, ha, hb⟩ := h.ex
  refine ⟨dx, a, b, k _ _ h ?_, ha.keep k (ha.ne_pool hP), hb.keep k (hb.ne_pool hP)⟩
  obtain ⟨ns, i, b, c, d, h1, _⟩ := hP
  exact ne_of h h1 (by intro z; cases z)
theorem LinQ.re {C D : Addr} {H : Hp} {x : Addr} {n m n' m' a b c d : Int} (h : LinQ C D H x n m n' m') (hm : m ≠ 0) (hm' : m' ≠ 0) (hb : b ≠ 0) (hd : d ≠ 0) (e1 : n * b = a * m) (e2 : n' * d = c * m') : LinQ C D H x a b c d := by
  obtain ⟨dx, x1, x2, h, h1, h2⟩ := h.ex
  exact ⟨dx, x1, x2, h, h1.re hm hb e1, h2.re hm' hd e2⟩
theorem Sq.of {b : Nat} {n m : Int} (h : 0 < m) (h1 : n.natAbs < 2 ^ b) (h2 : m.natAbs < 2 ^ b) (hb : b ≤ 4400) : Sq n m := ⟨h, ub h1 hb, ub h2 hb⟩
theorem pe_mk0 {X : Cx} {k : Nat} {C : Addr} {x : Str} {ps : List Str} {dvs : List V} {sp : Sp} {p pos : Pos} {e : Expr} {es : List Expr} {t : TA} (M : CalC X.prog X.w X.K X.mg X.base CX0 k C x ps dvs sp) (hr : Room (k + 1) X.A) (ha : PA X (e :: es) t) (hg : Gl X x := by rfl)
    (hdb : (x == ("__debug__" : Str)) = false := by decide) (he : starEach (e :: es) X.env = (false, eval e X.env) :: starEach es X.env := by rfl) (hpl : (backTo pos (starEach es X.env)).any (·.1) = false := by rfl) :
    PE X (.Call (.Name x p) (e :: es) [] pos) (tMake C sp dvs E0 t) := by
  obtain ⟨f, fd, ds, M, F, m, b, d⟩ := M.ex
  exact pe_make M F hr hg m b d pass0 ha hdb he hpl
theorem putF_ne {x : Str} {v : V} : putF x v [] ≠ [] := by intro h; cases h
theorem ln_ne0 {t u : Int} (h : rf t u = []) : False := by
  have e := congrArg (List.lookup ("top" : Str)) h
  rw [rf_top] at e
  cases e
theorem ln_ne {t u : Int} {a : V} (h : rf t u = putF "start" a []) : False := by
  have e := congrArg (List.lookup ("top" : Str)) h
  rw [rf_top, lookup_putF, if_neg (by decide +kernel)] at e
  cases e
section
variable {P : Program} {w : World} {K : PySem.W.Frag} {mg : Str → Option Value} {base : Heap}

def spLine (C D : Addr) : Sp := fun vs H Q _ => ∃ (x dx : Addr) (v u : V) (n m n' m' : Int), vs = [.ref x, v, u] ∧ H x = some (.ins D dx []) ∧ NumQ C H v n m ∧ NumQ C H u n' m' ∧ m ≠ 0 ∧ m' ≠ 0 ∧ ∀ H' : Hp, Keeps H H' x → LinQ C D H' x n m n' m' → Q .non H'
abbrev CalLine (P : Program) (w : World) (K : PySem.W.Frag) (mg : Str → Option Value) (base : Heap) (C D : Addr) := CalC P w K mg base CX0 4 D "Line" ["self", "start", "slope"] [] (spLine C D)
/-- as_ratio of a number -/
theorem asr_q {C : Addr} {H : Hp} {v : V} {n m : Int} {Q : VK} {E : XK} (hv : NumQ C H v n m) (hm : m ≠ 0) (k : ∀ (x : Addr) (H' : Hp), Same H H' → RatQ C H' x n m → Q (.ref x) H') : spAsRatio C [v] H Q E := by
  rcases hv with ⟨z, rfl, ez⟩ | ⟨x, rfl, hx⟩
  · refine .inr ⟨z, rfl, fun x H' _ s h => k x H' s ?_⟩
    rw [← (n_one z).1, ← (n_one z).2] at h
    rw [(n_one z).2] at h
    exact RatQ.of (t := z) (u := 1) (by rw [(n_one z).2]; exact h) (by decide) hm (by rw [Int.mul_one]; exact ez)
  · exact .inl ⟨x, _, _, rfl, hx, k x H (Same.refl H) hx⟩
def spAsQ (C : Addr) : Sp := fun vs H Q _ => ∃ (v : V) (n m : Int), vs = [v] ∧ NumQ C H v n m ∧ m ≠ 0 ∧ ∀ (x : Addr) (H' : Hp), Same H H' → RatQ C H' x n m → Q (.ref x) H'
abbrev CalAsQ (P : Program) (w : World) (K : PySem.W.Frag) (mg : Str → Option Value) (base : Heap) (C : Addr) := Cal P w K mg base 3 "as_ratio" ["number"] (spAsQ C)
theorem asq_of {C : Addr} (h : CalAsRatio P w K mg base C) : CalAsQ P w K mg base C := by
  obtain ⟨f, fd, F, hg, hk, b⟩ := h.ex
  refine ⟨f, fd, F.imp fun vs H Q E q => ?_, hg, hk, b⟩
  obtain ⟨v, n, m, rfl, hv, hm, k⟩ := q
  exact asr_q hv hm k
theorem ok_line_init {C D fI : Addr} {fd : FuncData} (T : LineC K mg D) (C_as_ratio : CalAsQ P w K mg base C) (F : Fun K "__init__" "Line.__init__" s_Line_init fI fd) : FnOk P w K mg base CX0 4 fI fd ["self", "start", "slope"] (spLine C D) := by
  refine F.ok sc_Line_init (fun vs H Q E h => ?_) (fun cdv A outer st H vs Q E hr h => ?_)
  · obtain ⟨x, dx, v, u, n, m, n', m', rfl, _⟩ := h
    rfl
  · obtain ⟨x, dx, v, u, n, m, n', m', rfl, hx, hv, hu, m0, m1, k⟩ := h
    refine ⟨_, (pss_cons (ps_fld (pv 0) (pe_cal C_as_ratio (hr.mono (by decide)) (pa_cons (pv 1) pa_nil)) rfl)
      (pss_one (ps_fld (pv 0) (pe_cal C_as_ratio (hr.mono (by decide)) (pa_cons (pv 2) pa_nil)) rfl))), ?_⟩
    refine ⟨_, rfl, v, n, m, rfl, hv, m0, fun a H1 s1 ha => ?_⟩
    refine ⟨_, rfl, x, D, dx, [], rfl, s1 _ _ hx, T.cl, T.nA, (by show 0 < 1000; decide), ?_⟩
    have s2 : Keeps H1 (upd H1 x (.ins D dx (putF "start" (.ref a) []))) x := Keeps.upd
    have na : a ≠ x := by
      obtain ⟨da, ha'⟩ := id ha
      exact ne_of ha' (s1 _ _ hx) (by intro z; injection z with _ _ z; exact ln_ne0 z)
    have hu1 : NumQ C H1 u n' m' := hu.same s1
    have hu2 : NumQ C (upd H1 x (.ins D dx (putF "start" (.ref a) []))) u n' m' := by
      rcases hu1 with h | ⟨y, e, h⟩
      · exact .inl h
      · refine .inr ⟨y, e, h.keep s2 ?_⟩
        obtain ⟨da, ha'⟩ := id h
        exact ne_of ha' (s1 _ _ hx) (by intro z; injection z with _ _ z; exact ln_ne0 z)
    refine ⟨_, rfl, u, n', m', rfl, hu2, m1, fun b H2 s3 hb => ?_⟩
    have hx2 : H2 x = some (.ins D dx (putF "start" (.ref a) [])) := s3 _ _ upd_same
    refine ⟨_, rfl, x, D, dx, _, rfl, hx2, T.cl, T.nB, (by show 1 < 1000; decide), ?_⟩
    have s4 : Keeps H2 (upd H2 x (.ins D dx (putF "slope" (.ref b) (putF "start" (.ref a) [])))) x := Keeps.upd
    have nb : b ≠ x := by
      obtain ⟨da, ha'⟩ := id hb
      exact ne_of ha' hx2 (by intro z; injection z with _ _ z; exact ln_ne z)
    exact k _ ((((same_keeps s1).trans s2).trans (same_keeps s3)).trans s4) ⟨dx, a, b, upd_same, ((ha.keep s2 na).same s3).keep s4 na, hb.keep s4 nb⟩
end
end L

set_option Elab.async false
set_option linter.all false
set_option maxRecDepth 100000
set_option maxHeartbeats 4000000
set_option pp.maxSteps 160
set_option pp.deepTerms false
namespace L
open PySem PySem.Spec PyProof.Rows L2 Fl
local macro_rules | `(tactic| walk_at "side") => `(tactic| first | (exact .inl ⟨by omega, by omega⟩) | (exact .inr ⟨by omega, by omega⟩) | (exact .inr ⟨by decide, by decide⟩) | (show (_ : Int) ≠ _; omega) | (exact ⟨by omega, by decide⟩) | (exact ⟨by decide, by decide, by decide⟩))
local macro_rules | `(tactic| walk_at "go") => `(tactic| repeat (first | refine ⟨_, rfl, ?_⟩ | refine ⟨_, _, rfl, rfl, ?_⟩ | refine .inl ⟨_, rfl, ?_⟩ | refine ⟨rfl, ?_⟩ | refine ⟨(by walk_at "side"), ?_⟩))
local macro_rules | `(tactic| walk_at "see") => `(tactic| (set_option pp.maxSteps 110 in set_option pp.deepTerms false in trace_state))
local macro_rules | `(tactic| walk_at "if") => `(tactic| first | refine ifE ?_ ?_ | refine ifNE ?_ ?_ | refine ifD ?_ ?_ | refine ifN ?_ ?_ | refine ifB ?_ ?_)
open Bx
section
variable {P : Program} {w : World} {K : PySem.W.Frag} {mg : Str → Option Value} {base : Heap}

def spLCall (C D : Addr) : Sp := fun vs H Q _ => ∃ (x : Addr) (v : V) (n m n' m' p q : Int), vs = [.ref x, v] ∧ LinQ C D H x n m n' m' ∧ NumQ C H v p q ∧ Sq n m ∧ Sq n' m' ∧ Sq p q ∧ Sq (n' * p) (m' * q) ∧ ∀ (z : Addr) (H' : Hp), Same H H' → RatQ C H' z (n * (m' * q) + n' * p * m) (m * (m' * q)) → Q (.ref z) H'
theorem ok_lcall {C D fA : Addr} {fd : FuncData} (T : LineC K mg D) (hSF : PySem.W.selfFirst K C = true) (siC : PySem.W.subIn K (.type "int") (.ref C) = some false)
    (OAdd : OpOwn P w K mg base 3 C (PySem.dunder (Operator.info .Add).2) ["self", "other"] (spAr C (fun a b t u => a * u + t * b) (fun a b t u => b * u))) {rAdd : Addr} (hRAdd : PySem.W.findIn K (.ref C) (dunderR (Operator.info .Add).2) = some (some (.ref rAdd))) {fiAdd riAdd : Option Value} (iAdd : PySem.W.findIn K (.type "int") (PySem.dunder (Operator.info .Add).2) = some fiAdd) (jAdd : PySem.W.findIn K (.type "int") (dunderR (Operator.info .Add).2) = some riAdd)
    (OMult : OpOwn P w K mg base 3 C (PySem.dunder (Operator.info .Mult).2) ["self", "other"] (spAr C (fun a b t u => a * t) (fun a b t u => b * u))) {rMult : Addr} (hRMult : PySem.W.findIn K (.ref C) (dunderR (Operator.info .Mult).2) = some (some (.ref rMult))) {fiMult riMult : Option Value} (iMult : PySem.W.findIn K (.type "int") (PySem.dunder (Operator.info .Mult).2) = some fiMult) (jMult : PySem.W.findIn K (.type "int") (dunderR (Operator.info .Mult).2) = some riMult) (F : Fun K "__call__" "Line.__call__" s_Line_call fA fd) : FnOk P w K mg base CX0 4 fA fd ["self", "k"] (spLCall C D) := by
  refine F.ok sc_Line_call (fun vs H Q E h => ?_) (fun cdv A outer st H vs Q E hr h => ?_)
  · obtain ⟨x, v, n, m, n', m', p, q, rfl, _⟩ := h
    rfl
  · obtain ⟨x, v, n, m, n', m', p, q, rfl, hL, hv, s1, s2, s3, s4, k⟩ := h
    obtain ⟨dx, a, b, hx, ha, hb⟩ := hL.ex
    refine ⟨_, (pss_one (ps_ret (pe_op (op_or (op_oo (op := .Add) OAdd hSF (hr.mono (by decide))) (op_oi (op := .Add) OAdd hSF hRAdd (.inr ⟨_, rfl⟩) iAdd jAdd siC (hr.mono (by decide)))) (pe_fld (pv 0) rfl) (pe_op (op_or (op_oo (op := .Mult) OMult hSF (hr.mono (by decide))) (op_oi (op := .Mult) OMult hSF hRMult (.inr ⟨_, rfl⟩) iMult jMult siC (hr.mono (by decide)))) (pe_fld (pv 0) rfl) (pv 1))))), ?_⟩
    refine ⟨_, rfl, x, D, dx, _, _, rfl, hx, T.cl, T.nA, lf_start _ _, ?_⟩
    refine ⟨_, rfl, x, D, dx, _, _, rfl, hx, T.cl, T.nB, lf_slope _ _, _, rfl, mul_q hb hv s2 s3 fun z H1 t1 hz => ?_⟩
    exact plus_q (ha.same t1) (.inr ⟨z, rfl, hz⟩) s1 s4 fun z2 H2 t2 hz2 => k z2 H2 (t1.trans t2) hz2
/-- a Line out of two Ratios -/
theorem mk_q {C D : Addr} {H : Hp} {a b : Addr} {n m n' m' : Int} {Q : VK} (ha : RatQ C H a n m) (hb : RatQ C H b n' m') (m0 : m ≠ 0) (m1 : m' ≠ 0) (k : ∀ (z : Addr) (H' : Hp), Same H H' → LinQ C D H' z n m n' m' → Q (.ref z) H') :
    ∀ x dx, H x = none → H dx = none → dx ≠ x → spLine C D [.ref x, .ref a, .ref b] (upd (upd H dx (.own x)) x (.ins D dx [])) (fun v H2 => v = .non ∧ Q (.ref x) H2) E0 := fun x dx nx nd ne => by
  have s : Same H (upd (upd H dx (.own x)) x (.ins D dx [])) := (same_upd nd).trans (same_upd (by rw [upd_ne ne.symm]; exact nx))
  exact ⟨x, dx, _, _, n, m, n', m', rfl, upd_same, .inr ⟨a, rfl, ha.same s⟩, .inr ⟨b, rfl, hb.same s⟩, m0, m1, fun H' kp hL => ⟨rfl, k x H' (made nx nd kp) hL⟩⟩
def spLNeg (C D : Addr) : Sp := fun vs H Q _ => ∃ (x : Addr) (n m n' m' : Int), vs = [.ref x] ∧ LinQ C D H x n m n' m' ∧ Sq n m ∧ Sq n' m' ∧ ∀ (z : Addr) (H' : Hp), Same H H' → LinQ C D H' z (-n) m (-n') m' → Q (.ref z) H'
theorem ok_lneg {C D fA : Addr} {fd : FuncData} (T : LineC K mg D) (ML : CalLine P w K mg base C D) (NEG : OpOwn P w K mg base 3 C "__neg__" ["self"] (spNeg C)) (F : Fun K "__neg__" "Line.__neg__" s_Line_neg fA fd) : FnOk P w K mg base CX0 6 fA fd ["self"] (spLNeg C D) := by
  refine F.ok sc_Line_neg (fun vs H Q E h => ?_) (fun cdv A outer st H vs Q E hr h => ?_)
  · obtain ⟨x, n, m, n', m', rfl, _⟩ := h
    rfl
  · obtain ⟨x, n, m, n', m', rfl, hL, s1, s2, k⟩ := h
    obtain ⟨dx, a, b, hx, ha, hb⟩ := hL.ex
    refine ⟨_, (pss_one (ps_ret (pe_mk0 ML (hr.mono (by decide)) (pa_cons (pe_un (un_negO NEG (hr.mono (by decide))) (pe_fld (pv 0) rfl)) (pa_cons (pe_un (un_negO NEG (hr.mono (by decide))) (pe_fld (pv 0) rfl)) pa_nil))))), ?_⟩
    refine ⟨_, rfl, x, D, dx, _, _, rfl, hx, T.cl, T.nA, lf_start _ _, neg_q ha s1 fun z H1 t1 hz => ?_⟩
    have hx1 := t1 _ _ hx
    refine ⟨_, rfl, x, D, dx, _, _, rfl, hx1, T.cl, T.nB, lf_slope _ _, neg_q (hb.same t1) s2 fun z2 H2 t2 hz2 => ?_⟩
    exact mk_q (hz.same t2) hz2 (Int.ne_of_gt s1.p) (Int.ne_of_gt s2.p) fun y H3 t3 hy => k y H3 ((t1.trans t2).trans t3) hy

def spLAdd (C D : Addr) : Sp := fun vs H Q _ => ∃ (x y : Addr) (n m n' m' p q p' q' : Int), vs = [.ref x, .ref y] ∧ LinQ C D H x n m n' m' ∧ LinQ C D H y p q p' q' ∧ Sq n m ∧ Sq n' m' ∧ Sq p q ∧ Sq p' q' ∧ ∀ (z : Addr) (H' : Hp), Same H H' → LinQ C D H' z (n * q + p * m) (m * q) (n' * q' + p' * m') (m' * q') → Q (.ref z) H'
theorem ok_ladd {C D fA : Addr} {fd : FuncData} (B : Blt mg) (T : LineC K mg D) (ML : CalLine P w K mg base C D) (hSF : PySem.W.selfFirst K C = true) (siC : PySem.W.subIn K (.type "int") (.ref C) = some false)
    (OAdd : OpOwn P w K mg base 3 C (PySem.dunder (Operator.info .Add).2) ["self", "other"] (spAr C (fun a b t u => a * u + t * b) (fun a b t u => b * u))) {rAdd : Addr} (hRAdd : PySem.W.findIn K (.ref C) (dunderR (Operator.info .Add).2) = some (some (.ref rAdd))) {fiAdd riAdd : Option Value} (iAdd : PySem.W.findIn K (.type "int") (PySem.dunder (Operator.info .Add).2) = some fiAdd) (jAdd : PySem.W.findIn K (.type "int") (dunderR (Operator.info .Add).2) = some riAdd) (F : Fun K "__add__" "Line.__add__" s_Line_add fA fd) : FnOk P w K mg base CX0 6 fA fd ["self", "other"] (spLAdd C D) := by
  refine F.ok sc_Line_add (fun vs H Q E h => ?_) (fun cdv A outer st H vs Q E hr h => ?_)
  · obtain ⟨x, y, n, m, n', m', p, q, p', q', rfl, _⟩ := h
    rfl
  · obtain ⟨x, y, n, m, n', m', p, q, p', q', rfl, hL, hM, s1, s2, s3, s4, k⟩ := h
    obtain ⟨dx, a, b, hx, ha, hb⟩ := hL.ex
    obtain ⟨dy, c, d, hy, hc, hd⟩ := hM.ex
    refine ⟨_, (pss_cons (ps_if (pt_not (pt_val (pe_callB call_isi (by rfl) B.isinstance (by decide +kernel) (pa_cons (pv 1) (pa_cons (pe_glob (v := .ref _) (by rfl) T.g rfl) pa_nil))))) (pss_one (ps_never)) pss_nil)
      (pss_one (ps_ret (pe_mk0 ML (hr.mono (by decide)) (pa_cons (pe_op (op_or (op_oo (op := .Add) OAdd hSF (hr.mono (by decide))) (op_oi (op := .Add) OAdd hSF hRAdd (.inr ⟨_, rfl⟩) iAdd jAdd siC (hr.mono (by decide)))) (pe_fld (pv 0) rfl) (pe_fld (pv 1) rfl)) (pa_cons (pe_op (op_or (op_oo (op := .Add) OAdd hSF (hr.mono (by decide))) (op_oi (op := .Add) OAdd hSF hRAdd (.inr ⟨_, rfl⟩) iAdd jAdd siC (hr.mono (by decide)))) (pe_fld (pv 0) rfl) (pe_fld (pv 1) rfl)) pa_nil)))))), ?_⟩
    refine ⟨_, rfl, _, _, _, _, true, rfl, .own _, T.tyX hy, kit_self _, _, rfl, iteF ?_⟩
    refine ⟨_, rfl, x, D, dx, _, _, rfl, hx, T.cl, T.nA, lf_start _ _, _, rfl, y, D, dy, _, _, rfl, hy, T.cl, T.nA, lf_start _ _, plus_q ha (.inr ⟨c, rfl, hc⟩) s1 s3 fun z H1 t1 hz => ?_⟩
    have hx1 := t1 _ _ hx
    have hy1 := t1 _ _ hy
    refine ⟨_, rfl, x, D, dx, _, _, rfl, hx1, T.cl, T.nB, lf_slope _ _, _, rfl, y, D, dy, _, _, rfl, hy1, T.cl, T.nB, lf_slope _ _, plus_q (hb.same t1) (.inr ⟨d, rfl, hd.same t1⟩) s2 s4 fun z2 H2 t2 hz2 => ?_⟩
    exact mk_q (hz.same t2) hz2 (Int.ne_of_gt (Int.mul_pos s1.p s3.p)) (Int.ne_of_gt (Int.mul_pos s2.p s4.p)) fun u H3 t3 hu => k u H3 ((t1.trans t2).trans t3) hu

def spLSub (C D : Addr) : Sp := fun vs H Q _ => ∃ (x y : Addr) (n m n' m' p q p' q' : Int), vs = [.ref x, .ref y] ∧ LinQ C D H x n m n' m' ∧ LinQ C D H y p q p' q' ∧ Sq n m ∧ Sq n' m' ∧ Sq p q ∧ Sq p' q' ∧ ∀ (z : Addr) (H' : Hp), Same H H' → LinQ C D H' z (n * q + (-p) * m) (m * q) (n' * q' + (-p') * m') (m' * q') → Q (.ref z) H'
theorem ok_lsub {C D fA : Addr} {fd : FuncData} (B : Blt mg) (T : LineC K mg D) (ML : CalLine P w K mg base C D) (hSF : PySem.W.selfFirst K C = true) (siC : PySem.W.subIn K (.type "int") (.ref C) = some false)
    (OSub : OpOwn P w K mg base 3 C (PySem.dunder (Operator.info .Sub).2) ["self", "other"] (spAr C (fun a b t u => a * u - t * b) (fun a b t u => b * u))) {rSub : Addr} (hRSub : PySem.W.findIn K (.ref C) (dunderR (Operator.info .Sub).2) = some (some (.ref rSub))) {fiSub riSub : Option Value} (iSub : PySem.W.findIn K (.type "int") (PySem.dunder (Operator.info .Sub).2) = some fiSub) (jSub : PySem.W.findIn K (.type "int") (dunderR (Operator.info .Sub).2) = some riSub) (F : Fun K "__sub__" "Line.__sub__" s_Line_sub fA fd) : FnOk P w K mg base CX0 6 fA fd ["self", "other"] (spLSub C D) := by
  refine F.ok sc_Line_sub (fun vs H Q E h => ?_) (fun cdv A outer st H vs Q E hr h => ?_)
  · obtain ⟨x, y, n, m, n', m', p, q, p', q', rfl, _⟩ := h
    rfl
  · obtain ⟨x, y, n, m, n', m', p, q, p', q', rfl, hL, hM, s1, s2, s3, s4, k⟩ := h
    obtain ⟨dx, a, b, hx, ha, hb⟩ := hL.ex
    obtain ⟨dy, c, d, hy, hc, hd⟩ := hM.ex
    refine ⟨_, (pss_cons (ps_if (pt_not (pt_val (pe_callB call_isi (by rfl) B.isinstance (by decide +kernel) (pa_cons (pv 1) (pa_cons (pe_glob (v := .ref _) (by rfl) T.g rfl) pa_nil))))) (pss_one (ps_never)) pss_nil)
      (pss_one (ps_ret (pe_mk0 ML (hr.mono (by decide)) (pa_cons (pe_op (op_or (op_oo (op := .Sub) OSub hSF (hr.mono (by decide))) (op_oi (op := .Sub) OSub hSF hRSub (.inr ⟨_, rfl⟩) iSub jSub siC (hr.mono (by decide)))) (pe_fld (pv 0) rfl) (pe_fld (pv 1) rfl)) (pa_cons (pe_op (op_or (op_oo (op := .Sub) OSub hSF (hr.mono (by decide))) (op_oi (op := .Sub) OSub hSF hRSub (.inr ⟨_, rfl⟩) iSub jSub siC (hr.mono (by decide)))) (pe_fld (pv 0) rfl) (pe_fld (pv 1) rfl)) pa_nil)))))), ?_⟩
    refine ⟨_, rfl, _, _, _, _, true, rfl, .own _, T.tyX hy, kit_self _, _, rfl, iteF ?_⟩
    refine ⟨_, rfl, x, D, dx, _, _, rfl, hx, T.cl, T.nA, lf_start _ _, _, rfl, y, D, dy, _, _, rfl, hy, T.cl, T.nA, lf_start _ _, sub_q ha (.inr ⟨c, rfl, hc⟩) s1 s3 fun z H1 t1 hz => ?_⟩
    have hx1 := t1 _ _ hx
    have hy1 := t1 _ _ hy
    refine ⟨_, rfl, x, D, dx, _, _, rfl, hx1, T.cl, T.nB, lf_slope _ _, _, rfl, y, D, dy, _, _, rfl, hy1, T.cl, T.nB, lf_slope _ _, sub_q (hb.same t1) (.inr ⟨d, rfl, hd.same t1⟩) s2 s4 fun z2 H2 t2 hz2 => ?_⟩
    exact mk_q (hz.same t2) hz2 (Int.ne_of_gt (Int.mul_pos s1.p s3.p)) (Int.ne_of_gt (Int.mul_pos s2.p s4.p)) fun u H3 t3 hu => k u H3 ((t1.trans t2).trans t3) hu

def spLMul (C D : Addr) : Sp := fun vs H Q _ => ∃ (x : Addr) (v : V) (n m n' m' p q : Int), vs = [.ref x, v] ∧ LinQ C D H x n m n' m' ∧ NumQ C H v p q ∧ Sq n m ∧ Sq n' m' ∧ Sq p q ∧ ∀ (z : Addr) (H' : Hp), Same H H' → LinQ C D H' z (n * p) (m * q) (n' * p) (m' * q) → Q (.ref z) H'
theorem ok_lmul {C D fA : Addr} {fd : FuncData} (T : LineC K mg D) (ML : CalLine P w K mg base C D) (C_is_number : CalIsNum P w K mg base C) (hSF : PySem.W.selfFirst K C = true) (siC : PySem.W.subIn K (.type "int") (.ref C) = some false)
    (OMult : OpOwn P w K mg base 3 C (PySem.dunder (Operator.info .Mult).2) ["self", "other"] (spAr C (fun a b t u => a * t) (fun a b t u => b * u))) {rMult : Addr} (hRMult : PySem.W.findIn K (.ref C) (dunderR (Operator.info .Mult).2) = some (some (.ref rMult))) {fiMult riMult : Option Value} (iMult : PySem.W.findIn K (.type "int") (PySem.dunder (Operator.info .Mult).2) = some fiMult) (jMult : PySem.W.findIn K (.type "int") (dunderR (Operator.info .Mult).2) = some riMult) (F : Fun K "__mul__" "Line.__mul__" s_Line_mul fA fd) : FnOk P w K mg base CX0 6 fA fd ["self", "other"] (spLMul C D) := by
  refine F.ok sc_Line_mul (fun vs H Q E h => ?_) (fun cdv A outer st H vs Q E hr h => ?_)
  · obtain ⟨x, v, n, m, n', m', p, q, rfl, _⟩ := h
    rfl
  · obtain ⟨x, v, n, m, n', m', p, q, rfl, hL, hv, s1, s2, s3, k⟩ := h
    obtain ⟨dx, a, b, hx, ha, hb⟩ := hL.ex
    obtain ⟨t, u, hn, _⟩ := hv.num s3.p s3.n s3.m
    refine ⟨_, (pss_cons (ps_if (pt_not (pt_val (pe_cal C_is_number (hr.mono (by decide)) (pa_cons (pv 1) pa_nil)))) (pss_one (ps_never)) pss_nil)
      (pss_one (ps_ret (pe_mk0 ML (hr.mono (by decide)) (pa_cons (pe_op (op_or (op_oo (op := .Mult) OMult hSF (hr.mono (by decide))) (op_oi (op := .Mult) OMult hSF hRMult (.inr ⟨_, rfl⟩) iMult jMult siC (hr.mono (by decide)))) (pe_fld (pv 0) rfl) (pv 1)) (pa_cons (pe_op (op_or (op_oo (op := .Mult) OMult hSF (hr.mono (by decide))) (op_oi (op := .Mult) OMult hSF hRMult (.inr ⟨_, rfl⟩) iMult jMult siC (hr.mono (by decide)))) (pe_fld (pv 0) rfl) (pv 1)) pa_nil)))))), ?_⟩
    refine ⟨_, rfl, v, t, u, rfl, hn, _, rfl, iteF ?_⟩
    refine ⟨_, rfl, x, D, dx, _, _, rfl, hx, T.cl, T.nA, lf_start _ _, _, rfl, mul_q ha hv s1 s3 fun z H1 t1 hz => ?_⟩
    have hx1 := t1 _ _ hx
    refine ⟨_, rfl, x, D, dx, _, _, rfl, hx1, T.cl, T.nB, lf_slope _ _, _, rfl, mul_q (hb.same t1) (hv.same t1) s2 s3 fun z2 H2 t2 hz2 => ?_⟩
    exact mk_q (hz.same t2) hz2 (Int.ne_of_gt (Int.mul_pos s1.p s3.p)) (Int.ne_of_gt (Int.mul_pos s2.p s3.p)) fun u H3 t3 hu => k u H3 ((t1.trans t2).trans t3) hu

theorem ok_lrmul {C D fA : Addr} {fd : FuncData} (T : LineC K mg D) (ML : CalLine P w K mg base C D) (C_is_number : CalIsNum P w K mg base C) (hSF : PySem.W.selfFirst K C = true) (siC : PySem.W.subIn K (.type "int") (.ref C) = some false)
    (OMult : OpOwn P w K mg base 3 C (PySem.dunder (Operator.info .Mult).2) ["self", "other"] (spAr C (fun a b t u => a * t) (fun a b t u => b * u))) {rMult : Addr} (hRMult : PySem.W.findIn K (.ref C) (dunderR (Operator.info .Mult).2) = some (some (.ref rMult))) {fiMult riMult : Option Value} (iMult : PySem.W.findIn K (.type "int") (PySem.dunder (Operator.info .Mult).2) = some fiMult) (jMult : PySem.W.findIn K (.type "int") (dunderR (Operator.info .Mult).2) = some riMult) (RMult : OpOwn P w K mg base 4 C (dunderR (Operator.info .Mult).2) ["self", "other"] (spRMul C)) {oM : Addr} (hOMult : PySem.W.findIn K (.ref C) (PySem.dunder (Operator.info .Mult).2) = some (some (.ref oM))) (scI : PySem.W.subIn K (.ref C) (.type "int") = some false) (F : Fun K "__rmul__" "Line.__rmul__" s_Line_rmul fA fd) : FnOk P w K mg base CX0 6 fA fd ["self", "other"] (spLMul C D) := by
  refine F.ok sc_Line_rmul (fun vs H Q E h => ?_) (fun cdv A outer st H vs Q E hr h => ?_)
  · obtain ⟨x, v, n, m, n', m', p, q, rfl, _⟩ := h
    rfl
  · obtain ⟨x, v, n, m, n', m', p, q, rfl, hL, hv, s1, s2, s3, k⟩ := h
    obtain ⟨dx, a, b, hx, ha, hb⟩ := hL.ex
    obtain ⟨t, u, hn, _⟩ := hv.num s3.p s3.n s3.m
    refine ⟨_, (pss_cons (ps_if (pt_not (pt_val (pe_cal C_is_number (hr.mono (by decide)) (pa_cons (pv 1) pa_nil)))) (pss_one (ps_never)) pss_nil)
      (pss_one (ps_ret (pe_mk0 ML (hr.mono (by decide)) (pa_cons (pe_op (op_or (op_oo (op := .Mult) OMult hSF (hr.mono (by decide))) (op_io (op := .Mult) RMult hSF hOMult scI PySem.F.fills_int_mul PySem.F.slot_int_mul PySem.F.entry_int_mul PySem.F.args_int_mul_2 int_mul_own (hr.mono (by decide)))) (pv 1) (pe_fld (pv 0) rfl)) (pa_cons (pe_op (op_or (op_oo (op := .Mult) OMult hSF (hr.mono (by decide))) (op_io (op := .Mult) RMult hSF hOMult scI PySem.F.fills_int_mul PySem.F.slot_int_mul PySem.F.entry_int_mul PySem.F.args_int_mul_2 int_mul_own (hr.mono (by decide)))) (pv 1) (pe_fld (pv 0) rfl)) pa_nil)))))), ?_⟩
    refine ⟨_, rfl, v, t, u, rfl, hn, _, rfl, iteF ?_⟩
    refine ⟨_, rfl, _, rfl, x, D, dx, _, _, rfl, hx, T.cl, T.nA, lf_start _ _, mulR_q hv ha s1 s3 fun z H1 t1 hz => ?_⟩
    have hx1 := t1 _ _ hx
    refine ⟨_, rfl, _, rfl, x, D, dx, _, _, rfl, hx1, T.cl, T.nB, lf_slope _ _, mulR_q (hv.same t1) (hb.same t1) s2 s3 fun z2 H2 t2 hz2 => ?_⟩
    exact mk_q (hz.same t2) hz2 (Int.ne_of_gt (Int.mul_pos s1.p s3.p)) (Int.ne_of_gt (Int.mul_pos s2.p s3.p)) fun u H3 t3 hu => k u H3 ((t1.trans t2).trans t3) hu

theorem eqr_q {C : Addr} {H : Hp} {x y : Addr} {n m n' m' : Int} {Q : VK} (hx : RatQ C H x n m) (hy : RatQ C H y n' m') (m0 : m ≠ 0) (m1 : m' ≠ 0) (k : Q (.bl (decide (n * m' = n' * m))) H) : cOO C (spEqR K C) (.ref x) (.ref y) H Q := by
  obtain ⟨dx, hx'⟩ := id hx
  obtain ⟨dy, hy'⟩ := id hy
  refine ⟨x, dx, _, y, dy, _, rfl, hx', rfl, hy', .inl ⟨x, .ref y, _, _, _, _, rfl, hx, .inr ⟨y, rfl, hy⟩, _, rfl, ?_⟩⟩
  have e := eq_q (n := n) (n' := n') m0 m1
  by_cases h : n * m' = n' * m
  · rw [decide_eq_true h] at k
    rw [decide_eq_true (e.2 h)]
    exact k
  · rw [decide_eq_false h] at k
    rw [decide_eq_false (fun z => h (e.1 z))]
    exact k
def spLEq (C D : Addr) : Sp := fun vs H Q _ => ∃ (x y : Addr) (n m n' m' p q p' q' : Int), vs = [.ref x, .ref y] ∧ LinQ C D H x n m n' m' ∧ LinQ C D H y p q p' q' ∧ m ≠ 0 ∧ m' ≠ 0 ∧ q ≠ 0 ∧ q' ≠ 0 ∧ Q (.bl (decide (n * q = p * m) && decide (n' * q' = p' * m'))) H
theorem ok_leq {C D fA : Addr} {fd : FuncData} (B : Blt mg) (T : LineC K mg D) (Meq : OpOwn P w K mg base 1 C "__eq__" ["self", "other"] (spEqR K C)) (F : Fun K "__eq__" "Line.__eq__" s_Line_eq fA fd) : FnOk P w K mg base CX0 3 fA fd ["self", "other"] (spLEq C D) := by
  refine F.ok sc_Line_eq (fun vs H Q E h => ?_) (fun cdv A outer st H vs Q E hr h => ?_)
  · obtain ⟨x, y, n, m, n', m', p, q, p', q', rfl, _⟩ := h
    rfl
  · obtain ⟨x, y, n, m, n', m', p, q, p', q', rfl, hL, hM, m0, m1, q0, q1, k⟩ := h
    obtain ⟨dx, a, b, hx, ha, hb⟩ := hL.ex
    obtain ⟨dy, c, d, hy, hc, hd⟩ := hM.ex
    refine ⟨_, (pss_one (ps_ret ((pe_and (pe_callB call_isi (by rfl) B.isinstance (by decide +kernel) (pa_cons (pv 1) (pa_cons (pe_glob (v := .ref _) (by rfl) T.g rfl) pa_nil))) (pe_and (pe_cmpR (cmp_oo (op := .Eq) (fun _ _ => rfl) Meq hr.units0 (hr.mono (by decide))) (pe_fld (pv 0) rfl) (pe_fld (pv 1) rfl) (nomark _)) (pe_one (pe_cmpR (cmp_oo (op := .Eq) (fun _ _ => rfl) Meq hr.units0 (hr.mono (by decide))) (pe_fld (pv 0) rfl) (pe_fld (pv 1) rfl) (nomark _)))))))), ?_⟩
    refine ⟨_, rfl, _, _, _, _, true, rfl, .own _, T.tyX hy, kit_self _, _, rfl, iteT ?_⟩
    refine ⟨_, rfl, x, D, dx, _, _, rfl, hx, T.cl, T.nA, lf_start _ _, _, rfl, y, D, dy, _, _, rfl, hy, T.cl, T.nA, lf_start _ _, eqr_q ha hc m0 q0 ?_⟩
    by_cases h : n * q = p * m
    · rw [decide_eq_true h] at k ⊢
      refine ⟨_, rfl, iteT ?_⟩
      exact ⟨_, rfl, x, D, dx, _, _, rfl, hx, T.cl, T.nB, lf_slope _ _, _, rfl, y, D, dy, _, _, rfl, hy, T.cl, T.nB, lf_slope _ _, eqr_q hb hd m1 q1 k⟩
    · rw [decide_eq_false h] at k ⊢
      exact ⟨_, rfl, iteF k⟩

def spNN (C D : Addr) : Sp := fun vs H Q _ => ∃ (x dx : Addr) (fs : List (Str × V)), vs = [.ref x] ∧ H x = some (.ins D dx fs) ∧ Q (.bl false) H
abbrev CalNN (P : Program) (w : World) (K : PySem.W.Frag) (mg : Str → Option Value) (base : Heap) (C D : Addr) := Cal P w K mg base 1 "is_number" ["value"] (spNN C D)
theorem ok_nn {C D : Addr} (B : Blt mg) (T : RatC K mg C) (TD : LineC K mg D) (kci : PySem.W.kitOne K (.ref D) (.type "int") = some false) (kcc : PySem.W.kitOne K (.ref D) (.ref C) = some false) (Df : Dfn K mg "is_number" "is_number" s_is_number ["value"]) : CalNN P w K mg base C D := by
  refine Df.cal sc_is_number (fun vs H Q E h => ?_) (fun fA cdv A outer st H vs Q E hr h => ?_)
  · obtain ⟨x, dx, fs, rfl, _⟩ := h
    rfl
  · obtain ⟨x, dx, fs, rfl, hx, q⟩ := h
    refine ⟨_, (pss_one (ps_ret ((pe_or (pe_callB call_isi (by rfl) B.isinstance (by decide +kernel) (pa_cons (pv 0) (pa_cons (pe_bltn (v := .ty "int") (by rfl) B.int (by decide +kernel) rfl) pa_nil))) (pe_one (pe_callB call_isi (by rfl) B.isinstance (by decide +kernel) (pa_cons (pv 0) (pa_cons (pe_glob (v := .ref _) (by rfl) T.g rfl) pa_nil)))))))), ?_⟩
    refine ⟨_, rfl, _, _, _, _, false, rfl, .ty _, TD.tyX hx, kci, _, rfl, iteF ?_⟩
    exact ⟨_, rfl, _, _, _, _, false, rfl, .own _, TD.tyX hx, kcc, q⟩
def spNI (C D : Addr) : SpN := fun vs H Q => ∃ (x y dx dy : Addr) (fs gs : List (Str × V)), vs = [.ref x, .ref y] ∧ H x = some (.ins C dx fs) ∧ H y = some (.ins D dy gs) ∧ Q H
theorem ok_mul_ni {C D fA : Addr} {fd : FuncData} (C_is_number : CalNN P w K mg base C D) (hNI : mg "NotImplemented" = none) (F : Fun K "__mul__" "Ratio.__mul__" s_Ratio_mul fA fd) : FnNI P w K mg base 2 fA fd ["self", "other"] (spNI C D) := by
  obtain ⟨oc, od, kV, doc, pm, an, cdv, ct, osl, rfl, lk, hcd⟩ := F.ex
  refine ni_of lk hcd sc_Ratio_mul (fun vs H Q h => ?_) rfl hNI (fun A outer s H => by rfl) (fun A outer s H vs Q hr h => ?_)
  · obtain ⟨x, y, dx, dy, fs, gs, rfl, _⟩ := h
    rfl
  · obtain ⟨x, y, dx, dy, fs, gs, rfl, hx, hy, q⟩ := h
    refine ⟨_, (pt_not (pt_val (pe_cal C_is_number (hr.mono (by decide)) (pa_cons (pv 1) pa_nil)))), ?_⟩
    exact ⟨_, rfl, y, dy, gs, rfl, hy, _, rfl, rfl, q⟩
end
end L

set_option Elab.async false
set_option linter.all false
set_option maxRecDepth 100000
set_option maxHeartbeats 4000000
set_option pp.maxSteps 160
set_option pp.deepTerms false
namespace L
open PySem PySem.Spec PyProof.Rows L2 Fl
local macro_rules | `(tactic| walk_at "side") => `(tactic| first | (exact .inl ⟨by omega, by omega⟩) | (exact .inr ⟨by omega, by omega⟩) | (exact .inr ⟨by decide, by decide⟩) | (show (_ : Int) ≠ _; omega) | (exact ⟨by omega, by decide⟩) | (exact ⟨by decide, by decide, by decide⟩))
local macro_rules | `(tactic| walk_at "go") => `(tactic| repeat (first | refine ⟨_, rfl, ?_⟩ | refine ⟨_, _, rfl, rfl, ?_⟩ | refine .inl ⟨_, rfl, ?_⟩ | refine ⟨rfl, ?_⟩ | refine ⟨(by walk_at "side"), ?_⟩))
local macro_rules | `(tactic| walk_at "see") => `(tactic| (set_option pp.maxSteps 110 in set_option pp.deepTerms false in trace_state))
local macro_rules | `(tactic| walk_at "if") => `(tactic| first | refine ifE ?_ ?_ | refine ifNE ?_ ?_ | refine ifD ?_ ?_ | refine ifN ?_ ?_ | refine ifB ?_ ?_)
open Bx

section
open PySem.W PySem.Calls
variable {prog : Program} {w : World} {A : Around} {E : Value → Shared → Prop} {s : Shared} {K : Frag} {x y C D L f f2 f3 g : Addr} {h₀ : Heap} {m : Str → Option Value} {od oe : Option Obj} {ox oy : Obj}
/-- own op own of another class: the left one answers -/
theorem bin_own1 {op : Operator} {Q : Value → Shared → Prop} (F : Fr h₀ L s.heap m) (X₀ : K.In h₀) (I : PySem.W.InstAt s.heap x ox C od) (J : PySem.W.InstAt s.heap y oy D oe) (hc : selfFirst K C = true) (hcD : selfFirst K D = true) (ne : C ≠ D)
    (hs : findIn K (.ref C) (PySem.dunder op.info.2) = some (some (.ref f))) (hf : isFn K (.ref f) = true) (hrC : findIn K (.ref C) (dunderR op.info.2) = some (some (.ref f2)))
    (hsD : findIn K (.ref D) (PySem.dunder op.info.2) = some (some (.ref f3))) (hr : findIn K (.ref D) (dunderR op.info.2) = some (some (.ref g))) (hsub : subIn K (.ref D) (.ref C) = some false)
    (h : wpAny (model prog w) A (call (.ref f) [.ref x, .ref y]) (PySem.W.CmpBack Q) E s) : wpAny (model prog w) A (binaryOp op (.ref x) (.ref y)) Q E s := by
  have X := X₀.keeps F.keep
  obtain ⟨cd, rest, hcd, hm⟩ := ksp_first hc
  obtain ⟨ce, rest', hce, hm'⟩ := ksp_first hcD
  rcases hi : op.info with ⟨sym, nm'⟩
  rw [hi] at hs hr hrC hsD
  dsimp only at hs hr hrC hsD
  have one := ksp_try X I hs hf h
  have hne : (Value.ref C == Value.ref D) = false := Bool.eq_false_iff.mpr fun q => ne (by cases beq_iff_eq.mp q; rfl)
  simp only [binaryOp, hi]
  refine wpAny_holding (wpAny_bind ?_)
  simp only [binaryOp1]
  refine wpAny_bind (I.type.here (wpAny_bind (J.type.here ?_)))
  refine wpAny_bind ((fills_K X hcd hm hs).here ?_)
  simp only [hne, Bool.false_eq_true, if_false]
  refine wpAny_bind ((fills_K X hce hm' hsD).here ?_)
  simp only [Bool.and_self, if_true]
  refine wpAny_bind ((looks_subIn X hsub).here ?_)
  simp only [Bool.false_eq_true, if_false, pure_bind, Bool.not_false, Bool.and_self, if_true]
  refine wpAny_bind ((ksp_inPy X hs hrC (.inr ⟨_, rfl⟩)).here ?_)
  simp only [if_true]
  refine wpAny_bind ((ksp_inPy X hsD hr (.inr ⟨_, rfl⟩)).here ?_)
  simp only [Bool.not_true, Bool.false_eq_true, if_false, pure_bind]
  refine wpAny_bind (wpAny_mono one (fun r s' hr' => ?_) fun _ _ e => e)
  obtain ⟨v, rfl, hq⟩ := hr'
  exact wpAny_pure (wpAny_pure hq)
end
def rOL (C D : Addr) (sp : Sp) : R2 := fun x y H Q => ∃ (a dx : Addr) (gs : List (Str × V)) (b dy : Addr) (hs : List (Str × V)), x = .ref a ∧ H a = some (.ins C dx gs) ∧ y = .ref b ∧ H b = some (.ins D dy hs) ∧ sp [.ref a, .ref b] H (oR Q) E0
theorem op_ol {X : Cx} {k : Nat} {C D f2 f3 g : Addr} {ps : List Str} {sp : Sp} {op : Operator} (M : OpOwn X.prog X.w X.K X.mg X.base k C (PySem.dunder op.info.2) ps sp) (hc : PySem.W.selfFirst X.K C = true) (hcD : PySem.W.selfFirst X.K D = true) (ne : C ≠ D)
    (hrC : PySem.W.findIn X.K (.ref C) (dunderR op.info.2) = some (some (.ref f2))) (hsD : PySem.W.findIn X.K (.ref D) (PySem.dunder op.info.2) = some (some (.ref f3))) (hrD : PySem.W.findIn X.K (.ref D) (dunderR op.info.2) = some (some (.ref g))) (hsub : PySem.W.subIn X.K (.ref D) (.ref C) = some false) (hr : Room k X.A) : OpR X (binaryOp op) (rOL C D sp) := by
  obtain ⟨f, fd, hs, hf, F, b⟩ := M.ex
  intro pins s σ H x y v u Q I rx ry h
  obtain ⟨a, dx, gs, b', dy, gs', rfl, ea, rfl, eb, q⟩ := h
  cases rx
  cases ry
  obtain ⟨mA, J, _⟩ := ins_get I.hok ea
  obtain ⟨od, J, _⟩ := J.look
  obtain ⟨mB, J', _⟩ := ins_get I.hok eb
  obtain ⟨od', J', _⟩ := J'.look
  obtain ⟨m, hF⟩ := I.fr
  refine bin_own1 hF I.ok.mod.kin J J' hc hcD ne hs hf hrC hsD hrD hsub (wpAny_mono (run_fn F hr b (dvs := []) .nil pass0 I (.cons (show RelV (.ref a) (.ref a) from rfl) (.cons (show RelV (.ref b') (.ref b') from rfl) .nil)) q) (fun r s' hr => ?_) fun _ _ z => z)
  obtain ⟨z, H2, I2, rz, c, rfl, q2⟩ := hr
  cases rz
  exact ⟨V.ref c, H2, I2, rfl, q2⟩
/-! ### what the operators of lines ask -/
theorem lop_add {C D : Addr} {H : Hp} {x y : Addr} {n m n' m' p q p' q' : Int} {Q : VK} (h1 : LinQ C D H x n m n' m') (h2 : LinQ C D H y p q p' q') (s1 : Sq n m) (s2 : Sq n' m') (s3 : Sq p q) (s4 : Sq p' q') (k : ∀ (z : Addr) (H' : Hp), Same H H' → LinQ C D H' z (n * q + p * m) (m * q) (n' * q' + p' * m') (m' * q') → Q (.ref z) H') : rOO D (spLAdd C D) (.ref x) (.ref y) H Q := by
  obtain ⟨dx, a, b, hx, _⟩ := h1.ex
  obtain ⟨dy, c, d, hy, _⟩ := h2.ex
  exact ⟨x, dx, _, y, dy, _, rfl, hx, rfl, hy, x, y, _, _, _, _, _, _, _, _, rfl, h1, h2, s1, s2, s3, s4, fun z H' s hz => ⟨z, rfl, k z H' s hz⟩⟩
theorem lop_sub {C D : Addr} {H : Hp} {x y : Addr} {n m n' m' p q p' q' : Int} {Q : VK} (h1 : LinQ C D H x n m n' m') (h2 : LinQ C D H y p q p' q') (s1 : Sq n m) (s2 : Sq n' m') (s3 : Sq p q) (s4 : Sq p' q') (k : ∀ (z : Addr) (H' : Hp), Same H H' → LinQ C D H' z (n * q + (-p) * m) (m * q) (n' * q' + (-p') * m') (m' * q') → Q (.ref z) H') : rOO D (spLSub C D) (.ref x) (.ref y) H Q := by
  obtain ⟨dx, a, b, hx, _⟩ := h1.ex
  obtain ⟨dy, c, d, hy, _⟩ := h2.ex
  exact ⟨x, dx, _, y, dy, _, rfl, hx, rfl, hy, x, y, _, _, _, _, _, _, _, _, rfl, h1, h2, s1, s2, s3, s4, fun z H' s hz => ⟨z, rfl, k z H' s hz⟩⟩
theorem lop_neg {C D : Addr} {H : Hp} {x : Addr} {n m n' m' : Int} {Q : VK} (h1 : LinQ C D H x n m n' m') (s1 : Sq n m) (s2 : Sq n' m') (k : ∀ (z : Addr) (H' : Hp), Same H H' → LinQ C D H' z (-n) m (-n') m' → Q (.ref z) H') : rNegO D (spLNeg C D) (.ref x) H Q := by
  obtain ⟨dx, a, b, hx, _⟩ := h1.ex
  exact ⟨x, dx, _, rfl, hx, x, _, _, _, _, rfl, h1, s1, s2, k⟩
theorem lop_mul {C D : Addr} {H : Hp} {x : Addr} {v : V} {n m n' m' p q : Int} {Q : VK} (h1 : LinQ C D H x n m n' m') (hv : NumQ C H v p q) (s1 : Sq n m) (s2 : Sq n' m') (s3 : Sq p q) (k : ∀ (z : Addr) (H' : Hp), Same H H' → LinQ C D H' z (n * p) (m * q) (n' * p) (m' * q) → Q (.ref z) H') : rOL D C (spLMul C D) (.ref x) v H Q ∨ rOI D (spLMul C D) (.ref x) v H Q := by
  obtain ⟨dx, a, b, hx, _⟩ := h1.ex
  rcases id hv with ⟨z, rfl, _⟩ | ⟨y, rfl, dy, hy⟩
  · exact .inr ⟨x, dx, _, z, rfl, hx, rfl, x, _, _, _, _, _, p, q, rfl, h1, hv, s1, s2, s3, fun z H' s hz => ⟨z, rfl, k z H' s hz⟩⟩
  · exact .inl ⟨x, dx, _, y, dy, _, rfl, hx, rfl, hy, x, _, _, _, _, _, p, q, rfl, h1, hv, s1, s2, s3, fun z H' s hz => ⟨z, rfl, k z H' s hz⟩⟩
theorem lop_rmul {C D : Addr} {H : Hp} {x : Addr} {v : V} {n m n' m' p q : Int} {Q : VK} (hv : NumQ C H v p q) (h1 : LinQ C D H x n m n' m') (s1 : Sq n m) (s2 : Sq n' m') (s3 : Sq p q) (k : ∀ (z : Addr) (H' : Hp), Same H H' → LinQ C D H' z (n * p) (m * q) (n' * p) (m' * q) → Q (.ref z) H') : rNI C D (spNI C D) (spLMul C D) v (.ref x) H Q ∨ rIO D (spLMul C D) v (.ref x) H Q := by
  obtain ⟨dx, a, b, hx, _⟩ := h1.ex
  rcases id hv with ⟨z, rfl, _⟩ | ⟨y, rfl, dy, hy⟩
  · exact .inr ⟨x, dx, _, z, rfl, hx, rfl, x, _, _, _, _, _, p, q, rfl, h1, hv, s1, s2, s3, fun z H' s hz => ⟨z, rfl, k z H' s hz⟩⟩
  · exact .inl ⟨y, dy, _, x, dx, _, rfl, hy, rfl, hx, y, x, dy, dx, _, _, rfl, hy, hx, ⟨_, hy⟩, ⟨_, hx⟩, x, _, _, _, _, _, p, q, rfl, h1, hv, s1, s2, s3, fun z H' s hz => ⟨z, rfl, k z H' s hz⟩⟩
theorem lop_eq {C D : Addr} {H : Hp} {x y : Addr} {n m n' m' p q p' q' : Int} {Q : VK} (h1 : LinQ C D H x n m n' m') (h2 : LinQ C D H y p q p' q') (m0 : m ≠ 0) (m1 : m' ≠ 0) (q0 : q ≠ 0) (q1 : q' ≠ 0) (k : Q (.bl (decide (n * q = p * m) && decide (n' * q' = p' * m'))) H) : cOO D (spLEq C D) (.ref x) (.ref y) H Q := by
  obtain ⟨dx, a, b, hx, _⟩ := h1.ex
  obtain ⟨dy, c, d, hy, _⟩ := h2.ex
  exact ⟨x, dx, _, y, dy, _, rfl, hx, rfl, hy, x, y, _, _, _, _, _, _, _, _, rfl, h1, h2, m0, m1, q0, q1, _, rfl, k⟩
/-- Line(v, u) -/
theorem mkn_q {C D : Addr} {H : Hp} {v u : V} {n m n' m' : Int} {Q : VK} (hv : NumQ C H v n m) (hu : NumQ C H u n' m') (m0 : m ≠ 0) (m1 : m' ≠ 0) (k : ∀ (z : Addr) (H' : Hp), Same H H' → LinQ C D H' z n m n' m' → Q (.ref z) H') :
    ∀ x dx, H x = none → H dx = none → dx ≠ x → spLine C D [.ref x, v, u] (upd (upd H dx (.own x)) x (.ins D dx [])) (fun v H2 => v = .non ∧ Q (.ref x) H2) E0 := fun x dx nx nd ne => by
  have s : Same H (upd (upd H dx (.own x)) x (.ins D dx [])) := (same_upd nd).trans (same_upd (by rw [upd_ne ne.symm]; exact nx))
  exact ⟨x, dx, _, _, n, m, n', m', rfl, upd_same, hv.same s, hu.same s, m0, m1, fun H' kp hL => ⟨rfl, k x H' (made nx nd kp) hL⟩⟩
section
variable {P : Program} {w : World} {K : PySem.W.Frag} {mg : Str → Option Value} {base : Heap}

def spSame (C : Addr) : Sp := fun vs H Q _ => ∃ (x t : Addr) (n m : Int), vs = [.ref x, .ref t] ∧ RatQ C H x n m ∧ Sq n m ∧ H t = some (.tup [.int n, .int m]) ∧ Q (.bl true) H
abbrev CalSame (P : Program) (w : World) (K : PySem.W.Frag) (mg : Str → Option Value) (base : Heap) (C : Addr) := Cal P w K mg base 3 "_law_same" ["_law_actual", "_law_due"] (spSame C)
theorem ok_same {C : Addr} (B : Blt mg) (T : RatC K mg C) (Df : Dfn K mg "_law_same" "_law_same" s_same ["_law_actual", "_law_due"]) (C_ratio : CalRatioQ P w K mg base C) : CalSame P w K mg base C := by
  refine Df.cal sc_same (fun vs H Q E h => ?_) (fun f cdv A outer st H vs Q E hr h => ?_)
  · obtain ⟨x, t, n, m, rfl, _⟩ := h
    rfl
  · obtain ⟨x, t, n, m, rfl, ⟨dx, hx⟩, sq, ht, q⟩ := h
    have m0 : m ≠ 0 := Int.ne_of_gt sq.p
    have z1 := Nat.lt_of_le_of_lt (nT_le (t := n) m0) sq.n
    have z2 := Nat.lt_of_le_of_lt (nU_le (t := n) m0) sq.m
    refine ⟨_, (pss_cons (ps_if (pt_not (pt_val (pe_cal C_ratio (hr.mono (by decide)) (pa_cons (pv 0) pa_nil)))) (pss_one (ps_ret (pe_bl))) pss_nil)
      (pss_one (ps_ret (pe_cmpR op_eq (pe_op op_mulW (pe_fld (pv 0) rfl) (pe_ix ix_tup (pv 1) (pe_int) (fun _ _ => rfl))) (pe_op op_mulW (pe_ix ix_tup (pv 1) (pe_int) (fun _ _ => rfl)) (pe_fld (pv 0) rfl)) (nomark _))))), ?_⟩
    refine ⟨_, rfl, x, _, _, rfl, ⟨dx, hx⟩, _, rfl, ?_⟩
    rw [decide_eq_true (nU_pos (t := n) m0)]
    refine iteF ?_
    refine ⟨_, rfl, x, C, dx, _, _, rfl, hx, T.cl, T.nT, rf_top _ _, ?_⟩
    refine ⟨_, rfl, _, _, _, _, rfl, rfl, SqT.of ht, rfl, _, _, rfl, rfl, wide_mul z1 sq.m (by decide) (by decide) (by decide), ?_⟩
    refine ⟨_, rfl, _, _, _, _, rfl, rfl, SqT.of ht, rfl, ?_⟩
    refine ⟨_, rfl, x, C, dx, _, _, rfl, hx, T.cl, T.nU, rf_under _ _, _, _, rfl, rfl, wide_mul sq.n z2 (by decide) (by decide) (by decide), rfl, ?_⟩
    have e2 : decide (V.int (nT n m * m) = V.int (n * nU n m)) = true := decide_eq_true (by rw [n_cross])
    show Q (V.bl (decide (V.int (nT n m * m) = V.int (n * nU n m)))) _
    rw [e2]
    exact q
def spGive (C : Addr) : Sp := fun vs H Q _ => ∃ (t : Addr) (p : Pla) (n m : Int), vs = [.ref t, .ref p] ∧ H t = some (.tup [.int n, .int m]) ∧ Pool H p ∧ 0 < m ∧ n.natAbs < 2 ^ 210 ∧ m.natAbs < 2 ^ 210 ∧ ∀ (v : V) (H' : Hp), Pool H' p → Keeps H H' p → NumQ C H' v n m → Q v H'
abbrev CalGive (P : Program) (w : World) (K : PySem.W.Frag) (mg : Str → Option Value) (base : Heap) (C : Addr) := Cal P w K mg base 4 "_law_give" ["_law_pair", "_law_pool_here"] (spGive C)
theorem ok_give {C ZU : Addr} (B : Blt mg) (M2 : CalRatio P w K mg base C ZU []) (C_draw : CalDraw P w K mg base) (Df : Dfn K mg "_law_give" "_law_give" s_give ["_law_pair", "_law_pool_here"]) : Cal P w K mg base 4 "_law_give" ["_law_pair", "_law_pool_here"] (spGive C) := by
  refine Df.cal sc_give (fun vs H Q E h => ?_) (fun fA cdv A outer st H vs Q E hr h => ?_)
  · obtain ⟨t, p, n, m, rfl, _⟩ := h
    rfl
  · obtain ⟨t, p, n, m, rfl, ht, hP, pm, bn_, bm_, k⟩ := h
    have W := (Wd.nil hP).got ht (by intro _ z; cases z)
    have S := Keeps.refl H p.p
    refine ⟨_, (pss_cons (ps_if (PW.pt (pw_and (pt_cmpR op_eq (pe_ix ix_tup (pv 0) (pe_int) (fun _ _ => rfl)) (pe_int) (nomark _)) (pw_and1 (pt_cmpR op_eq (pe_cal C_draw (hr.mono (by decide)) (pa_cons (pv 1) (pa_cons (pe_int) pa_nil))) (pe_int) (nomark _))))) (pss_one (ps_ret (pe_ix ix_tup (pv 0) (pe_int) (fun _ _ => rfl)))) pss_nil)
      (pss_one (ps_ret (pe_mk M2 (hr.mono (by decide)) (pa_cons (pe_ix ix_tup (pv 0) (pe_int) (fun _ _ => rfl)) (pa_cons (pe_ix ix_tup (pv 0) (pe_int) (fun _ _ => rfl)) pa_nil)))))), ?_⟩
    refine ⟨_, rfl, _, _, _, _, rfl, rfl, SqT.of (W.at (List.Mem.head _)), rfl, rfl, _, rfl, ifE (fun h1 => ?_) (fun h1 => ?_)⟩
    · skip
      refine ⟨_, rfl, p, 2, rfl, W.P, by decide, by decide, fun r2 H3 h0r2 h1r2 hP4 k5 => ?_⟩
      have W := W.keep hP4 k5
      have S := S.trans k5
      refine ⟨rfl, _, rfl, ifE (fun h6 => ?_) (fun h6 => ?_)⟩
      · skip
        exact ⟨_, rfl, _, _, _, _, rfl, rfl, SqT.of (W.at (List.Mem.head _)), rfl, k _ _ W.P S (.inl ⟨n, rfl, by rw [h1, Int.mul_one]⟩)⟩
      · skip
        refine ⟨_, rfl, _, _, _, _, rfl, rfl, SqT.of (W.at (List.Mem.head _)), rfl, _, rfl, _, _, _, _, rfl, rfl, SqT.of (W.at (List.Mem.head _)), rfl, fun x7 dx7 nxx7 ndx7 nex7 => ⟨x7, dx7, n, m, rfl, upd_same, (ub bm_ (by decide)), fun _ H8 hx7 kx7 => ⟨rfl, ?_⟩, fun h => absurd h (Int.ne_of_gt pm)⟩⟩
        have sx7 := made nxx7 ndx7 kx7
        have W := W.same sx7
        have S := S.trans (same_keeps sx7)
        have W := W.got hx7 (by intro _ z; cases z)
        exact k _ _ W.P S (.inr ⟨x7, rfl, dx7, (W.at (List.Mem.head _))⟩)
    · skip
      refine iteF ?_
      refine ⟨_, rfl, _, _, _, _, rfl, rfl, SqT.of (W.at (List.Mem.head _)), rfl, _, rfl, _, _, _, _, rfl, rfl, SqT.of (W.at (List.Mem.head _)), rfl, fun x9 dx9 nxx9 ndx9 nex9 => ⟨x9, dx9, n, m, rfl, upd_same, (ub bm_ (by decide)), fun _ H10 hx9 kx9 => ⟨rfl, ?_⟩, fun h => absurd h (Int.ne_of_gt pm)⟩⟩
      have sx9 := made nxx9 ndx9 kx9
      have W := W.same sx9
      have S := S.trans (same_keeps sx9)
      have W := W.got hx9 (by intro _ z; cases z)
      exact k _ _ W.P S (.inr ⟨x9, rfl, dx9, (W.at (List.Mem.head _))⟩)
def spFrac : Sp := fun vs H Q _ => ∃ (p : Pla), vs = [.ref p] ∧ Pool H p ∧ ∀ (t : Addr) (n m : Int) (H' : Hp), Pool H' p → Keeps H H' p → H' t = some (.tup [.int n, .int m]) → 0 < m → n.natAbs < 2 ^ 210 → m.natAbs < 2 ^ 210 → Q (.ref t) H'
abbrev CalFrac (P : Program) (w : World) (K : PySem.W.Frag) (mg : Str → Option Value) (base : Heap) := Cal P w K mg base 6 "_law_fraction" ["_law_pool_here"] spFrac
theorem ok_fraction (B : Blt mg) (C_draw : CalDraw P w K mg base) (C_any : CalAny P w K mg base) (C_either : CalEither P w K mg base) (Df : Dfn K mg "_law_fraction" "_law_fraction" s_fraction ["_law_pool_here"]) : Cal P w K mg base 6 "_law_fraction" ["_law_pool_here"] spFrac := by
  refine Df.cal sc_fraction (fun vs H Q E h => ?_) (fun fA cdv A outer st H vs Q E hr h => ?_)
  · obtain ⟨p, rfl, _⟩ := h
    rfl
  · obtain ⟨p, rfl, hP, k⟩ := h
    have W := Wd.nil hP
    have S := Keeps.refl H p.p
    refine ⟨_, (pss_cons (ps_set (i := 1) sc_fraction.nd rfl (Or.inl rfl) (pe_cal C_either (hr.mono (by decide)) (pa_cons (pv 0) pa_nil)))
      (pss_cons (ps_if (pt_cmpR op_eq (pe_cal C_draw (hr.mono (by decide)) (pa_cons (pv 0) (pa_cons (pe_int) pa_nil))) (pe_int) (nomark _)) (pss_one (ps_ret (pe_tup (pa_cons (pv 1) (pa_cons (pe_int) pa_nil))))) pss_nil)
      (pss_one (ps_ret (pe_tup (pa_cons (pv 1) (pa_cons (pe_op op_add (pe_int) (pe_cal C_any (hr.mono (by decide)) (pa_cons (pv 0) pa_nil))) pa_nil))))))), ?_⟩
    refine ⟨_, rfl, p, rfl, W.P, fun r1 H2 h0r1 h1r1 hP3 k4 => ?_⟩
    have W := W.keep hP3 k4
    have S := S.trans k4
    refine ⟨_, rfl, p, 2, rfl, W.P, by decide, by decide, fun r5 H6 h0r5 h1r5 hP7 k8 => ?_⟩
    have W := W.keep hP7 k8
    have S := S.trans k8
    refine ⟨rfl, _, rfl, ifE (fun h9 => ?_) (fun h9 => ?_)⟩
    · skip
      refine ⟨_, rfl, (by show 2 ≤ sizeLine; decide), fun t10 ht10 => ?_⟩
      have W := W.new (o := .tup [.int r1, .int 1]) ht10
      have S := S.trans (same_keeps (same_upd (o := .tup [.int r1, .int 1]) ht10))
      exact k _ _ _ _ W.P S (W.at (List.Mem.head _)) (by omega) (by omega) (by omega)
    · skip
      refine ⟨_, rfl, _, rfl, p, rfl, W.P, fun r11 H12 h0r11 h1r11 hP13 k14 => ?_⟩
      have W := W.keep hP13 k14
      have S := S.trans k14
      refine ⟨_, _, rfl, rfl, (by show 2 ≤ sizeLine; decide), fun t15 ht15 => ?_⟩
      have W := W.new (o := .tup [.int r1, .int (1 + r11)]) ht15
      have S := S.trans (same_keeps (same_upd (o := .tup [.int r1, .int (1 + r11)]) ht15))
      exact k _ _ _ _ W.P S (W.at (List.Mem.head _)) (by omega) (by omega) (by omega)
def spPlus : Sp := fun vs H Q _ => ∃ (t u : Addr) (a b c d : Int), vs = [.ref t, .ref u] ∧ H t = some (.tup [.int a, .int b]) ∧ H u = some (.tup [.int c, .int d]) ∧ a.natAbs < 2 ^ 900 ∧ b.natAbs < 2 ^ 900 ∧ c.natAbs < 2 ^ 900 ∧ d.natAbs < 2 ^ 900 ∧ ∀ (z : Addr) (H' : Hp), Same H H' → H' z = some (.tup [.int (a * d + c * b), .int (b * d)]) → Q (.ref z) H'
abbrev CalPlus (P : Program) (w : World) (K : PySem.W.Frag) (mg : Str → Option Value) (base : Heap) := Cal P w K mg base 1 "_law_plus" ["_law_one", "_law_other"] spPlus
theorem ok_plus (B : Blt mg) (Df : Dfn K mg "_law_plus" "_law_plus" s_plus ["_law_one", "_law_other"]) : Cal P w K mg base 1 "_law_plus" ["_law_one", "_law_other"] spPlus := by
  refine Df.cal sc_plus (fun vs H Q E h => ?_) (fun fA cdv A outer st H vs Q E hr h => ?_)
  · obtain ⟨t, u, a, b, c, d, rfl, _⟩ := h
    rfl
  · obtain ⟨t, u, a, b, c, d, rfl, ht, hu, ba_, bb_, bc_, bd_, k⟩ := h
    have W := (((Al.nil (H := H)).got hu).got ht)
    have S := Same.refl H
    refine ⟨_, (pss_one (ps_ret (pe_tup (pa_cons (pe_op op_add (pe_op op_mulW (pe_ix ix_tup (pv 0) (pe_int) (fun _ _ => rfl)) (pe_ix ix_tup (pv 1) (pe_int) (fun _ _ => rfl))) (pe_op op_mulW (pe_ix ix_tup (pv 1) (pe_int) (fun _ _ => rfl)) (pe_ix ix_tup (pv 0) (pe_int) (fun _ _ => rfl)))) (pa_cons (pe_op op_mulW (pe_ix ix_tup (pv 0) (pe_int) (fun _ _ => rfl)) (pe_ix ix_tup (pv 1) (pe_int) (fun _ _ => rfl))) pa_nil))))), ?_⟩
    refine ⟨_, rfl, _, _, _, _, rfl, rfl, SqT.of (W.at (List.Mem.head _)), rfl, _, rfl, _, _, _, _, rfl, rfl, SqT.of (W.at (List.Mem.tail _ (List.Mem.head _))), rfl, _, _, rfl, rfl, wide_mul ba_ bd_ (by decide) (by decide) (by decide), _, rfl, _, _, _, _, rfl, rfl, SqT.of (W.at (List.Mem.tail _ (List.Mem.head _))), rfl, _, rfl, _, _, _, _, rfl, rfl, SqT.of (W.at (List.Mem.head _)), rfl, _, _, rfl, rfl, wide_mul bc_ bb_ (by decide) (by decide) (by decide), _, _, rfl, rfl, _, rfl, _, _, _, _, rfl, rfl, SqT.of (W.at (List.Mem.head _)), rfl, _, rfl, _, _, _, _, rfl, rfl, SqT.of (W.at (List.Mem.tail _ (List.Mem.head _))), rfl, _, _, rfl, rfl, wide_mul bb_ bd_ (by decide) (by decide) (by decide), (by show 2 ≤ sizeLine; decide), fun t1 ht1 => ?_⟩
    have W := W.new (o := .tup [.int ((a * d) + (c * b)), .int (b * d)]) ht1
    have S := S.trans (same_upd (o := .tup [.int ((a * d) + (c * b)), .int (b * d)]) ht1)
    exact k _ _ S (W.at (List.Mem.head _))
def spTimes : Sp := fun vs H Q _ => ∃ (t u : Addr) (a b c d : Int), vs = [.ref t, .ref u] ∧ H t = some (.tup [.int a, .int b]) ∧ H u = some (.tup [.int c, .int d]) ∧ a.natAbs < 2 ^ 900 ∧ b.natAbs < 2 ^ 900 ∧ c.natAbs < 2 ^ 900 ∧ d.natAbs < 2 ^ 900 ∧ ∀ (z : Addr) (H' : Hp), Same H H' → H' z = some (.tup [.int (a * c), .int (b * d)]) → Q (.ref z) H'
abbrev CalTimes (P : Program) (w : World) (K : PySem.W.Frag) (mg : Str → Option Value) (base : Heap) := Cal P w K mg base 1 "_law_times" ["_law_one", "_law_other"] spTimes
theorem ok_times (B : Blt mg) (Df : Dfn K mg "_law_times" "_law_times" s_times ["_law_one", "_law_other"]) : Cal P w K mg base 1 "_law_times" ["_law_one", "_law_other"] spTimes := by
  refine Df.cal sc_times (fun vs H Q E h => ?_) (fun fA cdv A outer st H vs Q E hr h => ?_)
  · obtain ⟨t, u, a, b, c, d, rfl, _⟩ := h
    rfl
  · obtain ⟨t, u, a, b, c, d, rfl, ht, hu, ba_, bb_, bc_, bd_, k⟩ := h
    have W := (((Al.nil (H := H)).got hu).got ht)
    have S := Same.refl H
    refine ⟨_, (pss_one (ps_ret (pe_tup (pa_cons (pe_op op_mulW (pe_ix ix_tup (pv 0) (pe_int) (fun _ _ => rfl)) (pe_ix ix_tup (pv 1) (pe_int) (fun _ _ => rfl))) (pa_cons (pe_op op_mulW (pe_ix ix_tup (pv 0) (pe_int) (fun _ _ => rfl)) (pe_ix ix_tup (pv 1) (pe_int) (fun _ _ => rfl))) pa_nil))))), ?_⟩
    refine ⟨_, rfl, _, _, _, _, rfl, rfl, SqT.of (W.at (List.Mem.head _)), rfl, _, rfl, _, _, _, _, rfl, rfl, SqT.of (W.at (List.Mem.tail _ (List.Mem.head _))), rfl, _, _, rfl, rfl, wide_mul ba_ bc_ (by decide) (by decide) (by decide), _, rfl, _, _, _, _, rfl, rfl, SqT.of (W.at (List.Mem.head _)), rfl, _, rfl, _, _, _, _, rfl, rfl, SqT.of (W.at (List.Mem.tail _ (List.Mem.head _))), rfl, _, _, rfl, rfl, wide_mul bb_ bd_ (by decide) (by decide) (by decide), (by show 2 ≤ sizeLine; decide), fun t1 ht1 => ?_⟩
    have W := W.new (o := .tup [.int (a * c), .int (b * d)]) ht1
    have S := S.trans (same_upd (o := .tup [.int (a * c), .int (b * d)]) ht1)
    exact k _ _ S (W.at (List.Mem.head _))
def spIsLine (C D : Addr) : Sp := fun vs H Q _ => ∃ (x t u p : Addr) (v : V) (n m n' m' r s : Int), vs = [.ref x, .ref t, .ref u, .ref p, v] ∧ LinQ C D H x n m n' m' ∧ H t = some (.tup [.int n, .int m]) ∧ H u = some (.tup [.int n', .int m']) ∧ H p = some (.tup [.int r, .int s]) ∧ NumQ C H v r s ∧ 0 < m ∧ 0 < m' ∧ 0 < s ∧
  n.natAbs < 2 ^ 440 ∧ m.natAbs < 2 ^ 440 ∧ n'.natAbs < 2 ^ 440 ∧ m'.natAbs < 2 ^ 440 ∧ r.natAbs < 2 ^ 440 ∧ s.natAbs < 2 ^ 440 ∧ ∀ H', Same H H' → Q (.bl true) H'
abbrev CalIsLine (P : Program) (w : World) (K : PySem.W.Frag) (mg : Str → Option Value) (base : Heap) (C D : Addr) := Cal P w K mg base 5 "_law_is_line" ["_law_line", "_law_start", "_law_slope", "_law_place", "_law_handed"] (spIsLine C D)
theorem ok_is_line {C D : Addr} (B : Blt mg) (TD : LineC K mg D) (C_same : CalSame P w K mg base C) (C_plus : CalPlus P w K mg base) (C_times : CalTimes P w K mg base) (LC : OpCall P w K mg base 4 D ["self", "k"] (spLCall C D)) (Df : Dfn K mg "_law_is_line" "_law_is_line" s_is_line ["_law_line", "_law_start", "_law_slope", "_law_place", "_law_handed"]) : Cal P w K mg base 5 "_law_is_line" ["_law_line", "_law_start", "_law_slope", "_law_place", "_law_handed"] (spIsLine C D) := by
  refine Df.cal sc_is_line (fun vs H Q E h => ?_) (fun fA cdv A outer st H vs Q E hr h => ?_)
  · obtain ⟨x, t, u, p, v, n, m, n', m', r, s, rfl, _⟩ := h
    rfl
  · obtain ⟨x, t, u, p, v, n, m, n', m', r, s, rfl, hL, ht, hu, hp, hv, pm, pm', ps, bn1, bm1, bn2, bm2, br1, bs1, k⟩ := h
    obtain ⟨dx, a, b, hx, ha, hb⟩ := hL.ex
    have q1 : Sq n m := .of pm bn1 bm1 (by decide)
    have q2 : Sq n' m' := .of pm' bn2 bm2 (by decide)
    have q3 : Sq r s := .of ps br1 bs1 (by decide)
    have q4 : Sq (n' * r) (m' * s) := .of (Int.mul_pos pm' ps) (wide_lt bn2 br1) (wide_lt bm2 bs1) (by decide)
    have q5 : Sq (n * (m' * s) + n' * r * m) (m * (m' * s)) := .of (b := 1400) (Int.mul_pos pm (Int.mul_pos pm' ps)) (ub (ba (wide_lt bn1 (wide_lt bm2 bs1)) (ub (wide_lt (wide_lt bn2 br1) bm1) (by decide))) (by decide)) (ub (wide_lt bm1 (wide_lt bm2 bs1)) (by decide)) (by decide)
    have W := ((((Al.nil (H := H)).got hp).got hu).got ht).got hx
    have S := Same.refl H
    refine ⟨_, (pss_cons (ps_if (PW.pt (pw_or (pt_not (pt_val (pe_callB call_isi (by rfl) B.isinstance (by decide +kernel) (pa_cons (pv 0) (pa_cons (pe_glob (v := .ref _) (by rfl) TD.g rfl) pa_nil))))) (pw_or (pt_not (pt_val (pe_cal C_same (hr.mono (by decide)) (pa_cons (pe_fld (pv 0) rfl) (pa_cons (pv 1) pa_nil))))) (pw_or1 (pt_not (pt_val (pe_cal C_same (hr.mono (by decide)) (pa_cons (pe_fld (pv 0) rfl) (pa_cons (pv 2) pa_nil))))))))) (pss_one (ps_ret (pe_bl))) pss_nil)
      (pss_one (ps_ret (pe_cal C_same (hr.mono (by decide)) (pa_cons (pe_callO LC (hr.mono (by decide)) (pv 0) (pa_cons (pv 4) pa_nil)) (pa_cons (pe_cal C_plus (hr.mono (by decide)) (pa_cons (pv 1) (pa_cons (pe_cal C_times (hr.mono (by decide)) (pa_cons (pv 2) (pa_cons (pv 3) pa_nil))) pa_nil))) pa_nil)))))), ?_⟩
    refine ⟨_, rfl, _, _, _, _, true, rfl, .own _, TD.tyX (W.at (List.Mem.head _)), kit_self _, _, rfl, iteF ?_⟩
    refine ⟨_, rfl, x, D, dx, _, _, rfl, (W.at (List.Mem.head _)), TD.cl, TD.nA, lf_start _ _, _, rfl, a, t, n, m, rfl, ha, q1, (W.at (List.Mem.tail _ (List.Mem.head _))), _, rfl, iteF ?_⟩
    refine ⟨_, rfl, x, D, dx, _, _, rfl, (W.at (List.Mem.head _)), TD.cl, TD.nB, lf_slope _ _, _, rfl, b, u, n', m', rfl, hb, q2, (W.at (List.Mem.tail _ (List.Mem.tail _ (List.Mem.head _)))), _, rfl, iteF ?_⟩
    refine ⟨_, rfl, x, rfl, _, rfl, ⟨_, _, (W.at (List.Mem.head _))⟩, x, v, n, m, n', m', r, s, rfl, hL, hv, q1, q2, q3, q4, fun z H1 s1 hz => ?_⟩
    have ha := ha.same s1
    have hb := hb.same s1
    have W := W.same s1
    have S := S.trans s1
    refine ⟨_, rfl, _, rfl, _, rfl, u, p, n', m', r, s, rfl, (W.at (List.Mem.tail _ (List.Mem.tail _ (List.Mem.head _)))), (W.at (List.Mem.tail _ (List.Mem.tail _ (List.Mem.tail _ (List.Mem.head _))))), (ub bn2 (by decide)), (ub bm2 (by decide)), (ub br1 (by decide)), (ub bs1 (by decide)), fun z1 H2 s3 hz1 => ?_⟩
    have ha := ha.same s3
    have hb := hb.same s3
    have hz := hz.same s3
    have W := W.same s3
    have S := S.trans s3
    have W := W.got hz1
    refine ⟨t, z1, n, m, (n' * r), (m' * s), rfl, (W.at (List.Mem.tail _ (List.Mem.tail _ (List.Mem.head _)))), (W.at (List.Mem.head _)), (ub bn1 (by decide)), (ub bm1 (by decide)), (ub (wide_lt bn2 br1) (by decide)), (ub (wide_lt bm2 bs1) (by decide)), fun z4 H5 s6 hz4 => ?_⟩
    have ha := ha.same s6
    have hb := hb.same s6
    have hz := hz.same s6
    have W := W.same s6
    have S := S.trans s6
    have W := W.got hz4
    exact ⟨z, z4, (n * (m' * s) + n' * r * m), (m * (m' * s)), rfl, hz, q5, (W.at (List.Mem.head _)), k _ S⟩
end
end L

set_option Elab.async false
set_option linter.all false
set_option maxRecDepth 100000
set_option maxHeartbeats 4000000
set_option pp.maxSteps 160
set_option pp.deepTerms false
namespace L
open PySem PySem.Spec PyProof.Rows L2 Fl
local macro_rules | `(tactic| walk_at "side") => `(tactic| first | (exact .inl ⟨by omega, by omega⟩) | (exact .inr ⟨by omega, by omega⟩) | (exact .inr ⟨by decide, by decide⟩) | (show (_ : Int) ≠ _; omega) | (exact ⟨by omega, by decide⟩) | (exact ⟨by decide, by decide, by decide⟩))
local macro_rules | `(tactic| walk_at "go") => `(tactic| repeat (first | refine ⟨_, rfl, ?_⟩ | refine ⟨_, _, rfl, rfl, ?_⟩ | refine .inl ⟨_, rfl, ?_⟩ | refine ⟨rfl, ?_⟩ | refine ⟨(by walk_at "side"), ?_⟩))
local macro_rules | `(tactic| walk_at "see") => `(tactic| (set_option pp.maxSteps 110 in set_option pp.deepTerms false in trace_state))
local macro_rules | `(tactic| walk_at "if") => `(tactic| first | refine ifE ?_ ?_ | refine ifNE ?_ ?_ | refine ifD ?_ ?_ | refine ifN ?_ ?_ | refine ifB ?_ ?_)
open Bx

theorem new2 {C x dx : Addr} {fs : List (Str × V)} {H : Hp} (nx : H x = none) (nd : H dx = none) (ne : dx ≠ x) : Same H (upd (upd H dx (.own x)) x (.ins C dx fs)) := (same_upd nd).trans (same_upd (by rw [upd_ne ne.symm]; exact nx))
theorem lop_eqT {C D : Addr} {H : Hp} {x y : Addr} {n m n' m' p q p' q' : Int} {Q : VK} (h1 : LinQ C D H x n m n' m') (h2 : LinQ C D H y p q p' q') (m0 : m ≠ 0) (m1 : m' ≠ 0) (q0 : q ≠ 0) (q1 : q' ≠ 0) (e1 : n * q = p * m) (e2 : n' * q' = p' * m') (k : Q (.bl true) H) : cOO D (spLEq C D) (.ref x) (.ref y) H Q :=
  lop_eq h1 h2 m0 m1 q0 q1 (by rw [decide_eq_true e1, decide_eq_true e2]; exact k)
theorem lop_eqF {C D : Addr} {H : Hp} {x y : Addr} {n m n' m' p q p' q' : Int} {Q : VK} (h1 : LinQ C D H x n m n' m') (h2 : LinQ C D H y p q p' q') (m0 : m ≠ 0) (m1 : m' ≠ 0) (q0 : q ≠ 0) (q1 : q' ≠ 0) (e : ¬ (n * q = p * m) ∨ ¬ (n' * q' = p' * m')) (k : Q (.bl false) H) : cOO D (spLEq C D) (.ref x) (.ref y) H Q :=
  lop_eq h1 h2 m0 m1 q0 q1 (by
    rcases e with e | e
    · rw [decide_eq_false e, Bool.false_and]; exact k
    · rw [decide_eq_false e, Bool.and_false]; exact k)
theorem _root_.Fl.Wd.pick {p : Pla} {big fs : List (Addr × HO)} {H : Hp} {x : Addr × HO} (W : Wd p big H) (S : Wd p fs H) (h : x ∈ big) : Wd p (x :: fs) H := ⟨W.P, fun a o hm => by
  rcases List.mem_cons.mp hm with e | e
  · exact W.W a o (e ▸ h)
  · exact S.W a o e, fun a o hm => by
  rcases List.mem_cons.mp hm with e | e
  · exact W.n a o (e ▸ h)
  · exact S.n a o e⟩
theorem up1 {n m : Int} (pm : 0 < m) : ¬ (n * m = (n + m) * m) := fun h => by
  have := Int.mul_pos pm pm
  rw [Int.add_mul] at h
  omega
theorem dn1 {n m : Int} (pm : 0 < m) : ¬ (n * m = (n - m) * m) := fun h => by
  have := Int.mul_pos pm pm
  rw [Int.sub_mul] at h
  omega
section
variable {P : Program} {w : World} {K : PySem.W.Frag} {mg : Str → Option Value} {base : Heap}
def spLaw (K : PySem.W.Frag) : Sp := fun vs H Q _ => ∃ (a : Addr) (ns : List Int), vs = [.ref a] ∧ SqL K H a (ns.map V.int) ∧ ns.length ≤ 63 ∧ ∀ H', Q (.bl true) H'
theorem ok_law {C D ZU fA : Addr} {fd : FuncData} (B : Blt mg) (T : RatC K mg C) (TD : LineC K mg D) (F : Fun K "law" "law" s_law fA fd) (M2 : CalRatio P w K mg base C ZU []) (ML : CalLine P w K mg base C D) (C_pool : CalPool P w K mg base) (C_fraction : CalFrac P w K mg base) (C_give : CalGive P w K mg base C) (C_plus : CalPlus P w K mg base) (C_times : CalTimes P w K mg base) (C_is_line : CalIsLine P w K mg base C D)
    (LAdd : OpOwn P w K mg base 6 D (PySem.dunder (Operator.info .Add).2) ["self", "other"] (spLAdd C D)) (LSub : OpOwn P w K mg base 6 D (PySem.dunder (Operator.info .Sub).2) ["self", "other"] (spLSub C D)) (LNEG : OpOwn P w K mg base 6 D "__neg__" ["self"] (spLNeg C D)) (LMUL : OpOwn P w K mg base 6 D (PySem.dunder (Operator.info .Mult).2) ["self", "other"] (spLMul C D)) (LRMUL : OpOwn P w K mg base 6 D (dunderR (Operator.info .Mult).2) ["self", "other"] (spLMul C D)) (LEQ : OpOwn P w K mg base 3 D (cmpInfo .Eq).2.1 ["self", "other"] (spLEq C D))
    (NIM : OpNI P w K mg base 2 C (PySem.dunder (Operator.info .Mult).2) ["self", "other"] (spNI C D)) (hSF : PySem.W.selfFirst K C = true) (hSFD : PySem.W.selfFirst K D = true) (neCD : C ≠ D) (neDC : D ≠ C) (sCD : PySem.W.subIn K (.ref C) (.ref D) = some false) (sDC : PySem.W.subIn K (.ref D) (.ref C) = some false) (siD : PySem.W.subIn K (.type "int") (.ref D) = some false) (sDI : PySem.W.subIn K (.ref D) (.type "int") = some false)
    {fi ri : Option Value} (iMult : PySem.W.findIn K (.type "int") (PySem.dunder (Operator.info .Mult).2) = some fi) (jMult : PySem.W.findIn K (.type "int") (dunderR (Operator.info .Mult).2) = some ri) {r1 o1 r2 o2 : Addr} (hRMult : PySem.W.findIn K (.ref C) (dunderR (Operator.info .Mult).2) = some (some (.ref r1))) (hOMult : PySem.W.findIn K (.ref C) (PySem.dunder (Operator.info .Mult).2) = some (some (.ref o1)))
    (hRL : PySem.W.findIn K (.ref D) (dunderR (Operator.info .Mult).2) = some (some (.ref r2))) (hOL : PySem.W.findIn K (.ref D) (PySem.dunder (Operator.info .Mult).2) = some (some (.ref o2))) : FnOk P w K mg base CX0 7 fA fd ["_law_script"] (spLaw K) := by
  refine F.ok sc_law (fun vs H Q E h => ?_) (fun cdv A outer st H vs Q E hr h => ?_)
  · obtain ⟨a, ns, rfl, _⟩ := h
    rfl
  · obtain ⟨a, ns, rfl, hS, hl, k⟩ := h
    refine ⟨_, (pss_cons (ps_set (i := 1) sc_law.nd rfl (Or.inl rfl) (pe_cal C_pool (hr.mono (by decide)) (pa_cons (pv 0) pa_nil)))
      (Evl.pss_cut (ps_set (i := 2) sc_law.nd rfl (Or.inl rfl) (pe_cal C_fraction (hr.mono (by decide)) (pa_cons (pv 1) pa_nil)))
      (Evl.pss_cut (ps_set (i := 3) sc_law.nd rfl (Or.inl rfl) (pe_cal C_fraction (hr.mono (by decide)) (pa_cons (pv 1) pa_nil)))
      (Evl.pss_cut (ps_set (i := 4) sc_law.nd rfl (Or.inl rfl) (pe_cal C_fraction (hr.mono (by decide)) (pa_cons (pv 1) pa_nil)))
      (Evl.pss_cut (ps_set (i := 5) sc_law.nd rfl (Or.inl rfl) (pe_cal C_fraction (hr.mono (by decide)) (pa_cons (pv 1) pa_nil)))
      (Evl.pss_cut (ps_set (i := 6) sc_law.nd rfl (Or.inl rfl) (pe_cal C_fraction (hr.mono (by decide)) (pa_cons (pv 1) pa_nil)))
      (Evl.pss_cut (ps_set (i := 7) sc_law.nd rfl (Or.inl rfl) (pe_cal C_fraction (hr.mono (by decide)) (pa_cons (pv 1) pa_nil)))
      (Evl.pss_cut (ps_set (i := 8) sc_law.nd rfl (Or.inl rfl) (pe_mk0 ML (hr.mono (by decide)) (pa_cons (pe_cal C_give (hr.mono (by decide)) (pa_cons (pv 2) (pa_cons (pv 1) pa_nil))) (pa_cons (pe_cal C_give (hr.mono (by decide)) (pa_cons (pv 3) (pa_cons (pv 1) pa_nil))) pa_nil))))
      (Evl.pss_cut (ps_set (i := 9) sc_law.nd rfl (Or.inl rfl) (pe_mk0 ML (hr.mono (by decide)) (pa_cons (pe_cal C_give (hr.mono (by decide)) (pa_cons (pv 4) (pa_cons (pv 1) pa_nil))) (pa_cons (pe_cal C_give (hr.mono (by decide)) (pa_cons (pv 5) (pa_cons (pv 1) pa_nil))) pa_nil))))
      (Evl.pss_cut (ps_set (i := 10) sc_law.nd rfl (Or.inl rfl) (pe_cal C_give (hr.mono (by decide)) (pa_cons (pv 6) (pa_cons (pv 1) pa_nil))))
      (Evl.pss_cut (ps_set (i := 11) sc_law.nd rfl (Or.inl rfl) (pe_cal C_give (hr.mono (by decide)) (pa_cons (pv 7) (pa_cons (pv 1) pa_nil))))
      (Evl.pss_cut (ps_set (i := 12) sc_law.nd rfl (Or.inl rfl) (pe_tup (pa_cons (pe_un un_neg (pe_ix ix_tup (pv 4) (pe_int) (fun _ _ => rfl))) (pa_cons (pe_ix ix_tup (pv 4) (pe_int) (fun _ _ => rfl)) pa_nil))))
      (Evl.pss_cut (ps_set (i := 13) sc_law.nd rfl (Or.inl rfl) (pe_tup (pa_cons (pe_un un_neg (pe_ix ix_tup (pv 5) (pe_int) (fun _ _ => rfl))) (pa_cons (pe_ix ix_tup (pv 5) (pe_int) (fun _ _ => rfl)) pa_nil))))
      (Evl.pss_cut (ps_set (i := 14) sc_law.nd rfl (Or.inl rfl) (pe_tup (pa_cons (pe_un un_neg (pe_ix ix_tup (pv 2) (pe_int) (fun _ _ => rfl))) (pa_cons (pe_ix ix_tup (pv 2) (pe_int) (fun _ _ => rfl)) pa_nil))))
      (Evl.pss_cut (ps_set (i := 15) sc_law.nd rfl (Or.inl rfl) (pe_tup (pa_cons (pe_un un_neg (pe_ix ix_tup (pv 3) (pe_int) (fun _ _ => rfl))) (pa_cons (pe_ix ix_tup (pv 3) (pe_int) (fun _ _ => rfl)) pa_nil))))
      (Evl.pss_cut (ps_set (i := 16) sc_law.nd rfl (Or.inl rfl) (pe_lst (pa_cons (pe_tup (pa_cons (pv 8) (pa_cons (pv 2) (pa_cons (pv 3) pa_nil)))) (pa_cons (pe_tup (pa_cons (pv 9) (pa_cons (pv 4) (pa_cons (pv 5) pa_nil)))) pa_nil))))
      (Evl.pss_cut (ps_set (i := 16) sc_law.nd rfl (Or.inl rfl) (pe_op op_cat (pv 16) (pe_lst (pa_cons (pe_tup (pa_cons (pe_op (op_oo (op := .Add) LAdd hSFD (hr.mono (by decide))) (pv 8) (pv 9)) (pa_cons (pe_cal C_plus (hr.mono (by decide)) (pa_cons (pv 2) (pa_cons (pv 4) pa_nil))) (pa_cons (pe_cal C_plus (hr.mono (by decide)) (pa_cons (pv 3) (pa_cons (pv 5) pa_nil))) pa_nil)))) pa_nil))))
      (Evl.pss_cut (ps_set (i := 16) sc_law.nd rfl (Or.inl rfl) (pe_op op_cat (pv 16) (pe_lst (pa_cons (pe_tup (pa_cons (pe_op (op_oo (op := .Add) LAdd hSFD (hr.mono (by decide))) (pv 9) (pv 8)) (pa_cons (pe_cal C_plus (hr.mono (by decide)) (pa_cons (pv 2) (pa_cons (pv 4) pa_nil))) (pa_cons (pe_cal C_plus (hr.mono (by decide)) (pa_cons (pv 3) (pa_cons (pv 5) pa_nil))) pa_nil)))) pa_nil))))
      (Evl.pss_cut (ps_set (i := 16) sc_law.nd rfl (Or.inl rfl) (pe_op op_cat (pv 16) (pe_lst (pa_cons (pe_tup (pa_cons (pe_op (op_oo (op := .Sub) LSub hSFD (hr.mono (by decide))) (pv 8) (pv 9)) (pa_cons (pe_cal C_plus (hr.mono (by decide)) (pa_cons (pv 2) (pa_cons (pv 12) pa_nil))) (pa_cons (pe_cal C_plus (hr.mono (by decide)) (pa_cons (pv 3) (pa_cons (pv 13) pa_nil))) pa_nil)))) pa_nil))))
      (Evl.pss_cut (ps_set (i := 16) sc_law.nd rfl (Or.inl rfl) (pe_op op_cat (pv 16) (pe_lst (pa_cons (pe_tup (pa_cons (pe_op (op_oo (op := .Sub) LSub hSFD (hr.mono (by decide))) (pv 9) (pv 8)) (pa_cons (pe_cal C_plus (hr.mono (by decide)) (pa_cons (pv 4) (pa_cons (pv 14) pa_nil))) (pa_cons (pe_cal C_plus (hr.mono (by decide)) (pa_cons (pv 5) (pa_cons (pv 15) pa_nil))) pa_nil)))) (pa_cons (pe_tup (pa_cons (pe_un (un_negO LNEG (hr.mono (by decide))) (pv 8)) (pa_cons (pv 14) (pa_cons (pv 15) pa_nil)))) pa_nil)))))
      (Evl.pss_cut (ps_set (i := 16) sc_law.nd rfl (Or.inl rfl) (pe_op op_cat (pv 16) (pe_lst (pa_cons (pe_tup (pa_cons (pe_op (op_or (op_ol (op := .Mult) LMUL hSFD hSF neDC hRL hOMult hRMult sCD (hr.mono (by decide))) (op_oi (op := .Mult) LMUL hSFD hRL (.inr ⟨_, rfl⟩) iMult jMult siD (hr.mono (by decide)))) (pv 8) (pv 10)) (pa_cons (pe_cal C_times (hr.mono (by decide)) (pa_cons (pv 2) (pa_cons (pv 6) pa_nil))) (pa_cons (pe_cal C_times (hr.mono (by decide)) (pa_cons (pv 3) (pa_cons (pv 6) pa_nil))) pa_nil)))) pa_nil))))
      (Evl.pss_cut (ps_set (i := 16) sc_law.nd rfl (Or.inl rfl) (pe_op op_cat (pv 16) (pe_lst (pa_cons (pe_tup (pa_cons (pe_op (op_or (op_ni (op := .Mult) NIM LRMUL hSF hSFD neCD hRMult hOL sDC (hr.mono (by decide)) (hr.mono (by decide))) (op_io (op := .Mult) LRMUL hSFD hOL sDI PySem.F.fills_int_mul PySem.F.slot_int_mul PySem.F.entry_int_mul PySem.F.args_int_mul_2 int_mul_own (hr.mono (by decide)))) (pv 10) (pv 8)) (pa_cons (pe_cal C_times (hr.mono (by decide)) (pa_cons (pv 2) (pa_cons (pv 6) pa_nil))) (pa_cons (pe_cal C_times (hr.mono (by decide)) (pa_cons (pv 3) (pa_cons (pv 6) pa_nil))) pa_nil)))) pa_nil))))
      (Evl.pss_cut (ps_set (i := 16) sc_law.nd rfl (Or.inl rfl) (pe_op op_cat (pv 16) (pe_lst (pa_cons (pe_tup (pa_cons (pe_op (op_oo (op := .Add) LAdd hSFD (hr.mono (by decide))) (pv 8) (pv 8)) (pa_cons (pe_tup (pa_cons (pe_op op_mulW (pe_int) (pe_ix ix_tup (pv 2) (pe_int) (fun _ _ => rfl))) (pa_cons (pe_ix ix_tup (pv 2) (pe_int) (fun _ _ => rfl)) pa_nil))) (pa_cons (pe_tup (pa_cons (pe_op op_mulW (pe_int) (pe_ix ix_tup (pv 3) (pe_int) (fun _ _ => rfl))) (pa_cons (pe_ix ix_tup (pv 3) (pe_int) (fun _ _ => rfl)) pa_nil))) pa_nil)))) (pa_cons (pe_tup (pa_cons (pe_op (op_oo (op := .Sub) LSub hSFD (hr.mono (by decide))) (pv 8) (pv 8)) (pa_cons (pe_tup (pa_cons (pe_int) (pa_cons (pe_int) pa_nil))) (pa_cons (pe_tup (pa_cons (pe_int) (pa_cons (pe_int) pa_nil))) pa_nil)))) pa_nil)))))
      (Evl.pss_cut (ps_set (i := 16) sc_law.nd rfl (Or.inl rfl) (pe_op op_cat (pv 16) (pe_lst (pa_cons (pe_tup (pa_cons (pv 8) (pa_cons (pv 2) (pa_cons (pv 3) pa_nil)))) (pa_cons (pe_tup (pa_cons (pv 9) (pa_cons (pv 4) (pa_cons (pv 5) pa_nil)))) pa_nil)))))
      (pss_cons (ps_for PassesOwn.never rfl (pi_list (pv 16)) (pg_name (i := 17) sc_law.nd rfl (Or.inl rfl)) (pss_one (ps_if (pt_not (pt_val (pe_cal C_is_line (hr.mono (by decide)) (pa_cons (pe_ix ix_tup (pv 17) (pe_int) (fun _ _ => rfl)) (pa_cons (pe_ix ix_tup (pv 17) (pe_int) (fun _ _ => rfl)) (pa_cons (pe_ix ix_tup (pv 17) (pe_int) (fun _ _ => rfl)) (pa_cons (pv 7) (pa_cons (pv 11) pa_nil)))))))) (pss_one (ps_ret (pe_bl))) pss_nil)))
      (pss_cons (ps_if (pt_not (pt_cmpR (cmp_oo (op := .Eq) (fun _ _ => rfl) LEQ hr.units0 (hr.mono (by decide))) (pv 8) (pe_mk0 ML (hr.mono (by decide)) (pa_cons (pe_mk M2 (hr.mono (by decide)) (pa_cons (pe_ix ix_tup (pv 2) (pe_int) (fun _ _ => rfl)) (pa_cons (pe_ix ix_tup (pv 2) (pe_int) (fun _ _ => rfl)) pa_nil))) (pa_cons (pe_mk M2 (hr.mono (by decide)) (pa_cons (pe_ix ix_tup (pv 3) (pe_int) (fun _ _ => rfl)) (pa_cons (pe_ix ix_tup (pv 3) (pe_int) (fun _ _ => rfl)) pa_nil))) pa_nil))) (nomark _))) (pss_one (ps_ret (pe_bl))) pss_nil)
      (pss_cons (ps_if (pt_cmpR (cmp_oo (op := .Eq) (fun _ _ => rfl) LEQ hr.units0 (hr.mono (by decide))) (pv 8) (pe_mk0 ML (hr.mono (by decide)) (pa_cons (pe_mk M2 (hr.mono (by decide)) (pa_cons (pe_op op_add (pe_ix ix_tup (pv 2) (pe_int) (fun _ _ => rfl)) (pe_ix ix_tup (pv 2) (pe_int) (fun _ _ => rfl))) (pa_cons (pe_ix ix_tup (pv 2) (pe_int) (fun _ _ => rfl)) pa_nil))) (pa_cons (pe_mk M2 (hr.mono (by decide)) (pa_cons (pe_ix ix_tup (pv 3) (pe_int) (fun _ _ => rfl)) (pa_cons (pe_ix ix_tup (pv 3) (pe_int) (fun _ _ => rfl)) pa_nil))) pa_nil))) (nomark _)) (pss_one (ps_ret (pe_bl))) pss_nil)
      (pss_one (ps_ret (pe_not (pe_cmpR (cmp_oo (op := .Eq) (fun _ _ => rfl) LEQ hr.units0 (hr.mono (by decide))) (pv 8) (pe_mk0 ML (hr.mono (by decide)) (pa_cons (pe_mk M2 (hr.mono (by decide)) (pa_cons (pe_ix ix_tup (pv 2) (pe_int) (fun _ _ => rfl)) (pa_cons (pe_ix ix_tup (pv 2) (pe_int) (fun _ _ => rfl)) pa_nil))) (pa_cons (pe_mk M2 (hr.mono (by decide)) (pa_cons (pe_op op_sub (pe_ix ix_tup (pv 3) (pe_int) (fun _ _ => rfl)) (pe_ix ix_tup (pv 3) (pe_int) (fun _ _ => rfl))) (pa_cons (pe_ix ix_tup (pv 3) (pe_int) (fun _ _ => rfl)) pa_nil))) pa_nil))) (nomark _)))))))))))))))))))))))))))))))), ?_⟩
    refine ⟨_, rfl, a, ns, rfl, hS, hl, fun p HP s1 np nq hP1 => ?_⟩
    have W := Wd.nil hP1
    have S := Keeps.refl HP p.p
    refine ⟨fun σ' H' => ∃ t1 : Addr, ∃ n2 : Int, ∃ m3 : Int, σ' = [some (.ref a), some (.ref (p : Addr)), some (.ref t1), none, none, none, none, none, none, none, none, none, none, none, none, none, none, none] ∧ n2.natAbs < 2 ^ 210 ∧ 0 < m3 ∧ m3.natAbs < 2 ^ 210 ∧ Wd p [(t1, .tup [.int n2, .int m3])] H' ∧ Keeps HP H' p.p, ?_, ?_⟩
    · skip
      refine ⟨_, rfl, p, rfl, W.P, fun t1 n2 m3 H4 hP5 k6 ht1 pm3 bn2 bm3 => ?_⟩
      have W := W.keep hP5 k6
      have S := S.trans k6
      have W := W.got ht1 (by intro _ z; cases z)
      exact ⟨t1, n2, m3, rfl, bn2, pm3, bm3, (W.pick (Wd.nil W.P) (List.Mem.head _)), S⟩
    rintro σ' H7 ⟨t1, n2, m3, rfl, bn2, pm3, bm3, W, S⟩
    refine ⟨fun σ' H' => ∃ t8 : Addr, ∃ n9 : Int, ∃ m10 : Int, σ' = [some (.ref a), some (.ref (p : Addr)), some (.ref t1), some (.ref t8), none, none, none, none, none, none, none, none, none, none, none, none, none, none] ∧ n9.natAbs < 2 ^ 210 ∧ 0 < m10 ∧ m10.natAbs < 2 ^ 210 ∧ Wd p [(t1, .tup [.int n2, .int m3]), (t8, .tup [.int n9, .int m10])] H' ∧ Keeps HP H' p.p, ?_, ?_⟩
    · skip
      refine ⟨_, rfl, p, rfl, W.P, fun t8 n9 m10 H11 hP12 k13 ht8 pm10 bn9 bm10 => ?_⟩
      have W := W.keep hP12 k13
      have S := S.trans k13
      have W := W.got ht8 (by intro _ z; cases z)
      exact ⟨t8, n9, m10, rfl, bn9, pm10, bm10, (W.pick (W.pick (Wd.nil W.P) (List.Mem.head _)) (List.Mem.tail _ (List.Mem.head _))), S⟩
    rintro σ' H14 ⟨t8, n9, m10, rfl, bn9, pm10, bm10, W, S⟩
    refine ⟨fun σ' H' => ∃ t15 : Addr, ∃ n16 : Int, ∃ m17 : Int, σ' = [some (.ref a), some (.ref (p : Addr)), some (.ref t1), some (.ref t8), some (.ref t15), none, none, none, none, none, none, none, none, none, none, none, none, none] ∧ n16.natAbs < 2 ^ 210 ∧ 0 < m17 ∧ m17.natAbs < 2 ^ 210 ∧ Wd p [(t1, .tup [.int n2, .int m3]), (t8, .tup [.int n9, .int m10]), (t15, .tup [.int n16, .int m17])] H' ∧ Keeps HP H' p.p, ?_, ?_⟩
    · skip
      refine ⟨_, rfl, p, rfl, W.P, fun t15 n16 m17 H18 hP19 k20 ht15 pm17 bn16 bm17 => ?_⟩
      have W := W.keep hP19 k20
      have S := S.trans k20
      have W := W.got ht15 (by intro _ z; cases z)
      exact ⟨t15, n16, m17, rfl, bn16, pm17, bm17, (W.pick (W.pick (W.pick (Wd.nil W.P) (List.Mem.head _)) (List.Mem.tail _ (List.Mem.tail _ (List.Mem.head _)))) (List.Mem.tail _ (List.Mem.head _))), S⟩
    rintro σ' H21 ⟨t15, n16, m17, rfl, bn16, pm17, bm17, W, S⟩
    refine ⟨fun σ' H' => ∃ t22 : Addr, ∃ n23 : Int, ∃ m24 : Int, σ' = [some (.ref a), some (.ref (p : Addr)), some (.ref t1), some (.ref t8), some (.ref t15), some (.ref t22), none, none, none, none, none, none, none, none, none, none, none, none] ∧ n23.natAbs < 2 ^ 210 ∧ 0 < m24 ∧ m24.natAbs < 2 ^ 210 ∧ Wd p [(t1, .tup [.int n2, .int m3]), (t8, .tup [.int n9, .int m10]), (t15, .tup [.int n16, .int m17]), (t22, .tup [.int n23, .int m24])] H' ∧ Keeps HP H' p.p, ?_, ?_⟩
    · skip
      refine ⟨_, rfl, p, rfl, W.P, fun t22 n23 m24 H25 hP26 k27 ht22 pm24 bn23 bm24 => ?_⟩
      have W := W.keep hP26 k27
      have S := S.trans k27
      have W := W.got ht22 (by intro _ z; cases z)
      exact ⟨t22, n23, m24, rfl, bn23, pm24, bm24, (W.pick (W.pick (W.pick (W.pick (Wd.nil W.P) (List.Mem.head _)) (List.Mem.tail _ (List.Mem.tail _ (List.Mem.tail _ (List.Mem.head _))))) (List.Mem.tail _ (List.Mem.tail _ (List.Mem.head _)))) (List.Mem.tail _ (List.Mem.head _))), S⟩
    rintro σ' H28 ⟨t22, n23, m24, rfl, bn23, pm24, bm24, W, S⟩
    refine ⟨fun σ' H' => ∃ t29 : Addr, ∃ n30 : Int, ∃ m31 : Int, σ' = [some (.ref a), some (.ref (p : Addr)), some (.ref t1), some (.ref t8), some (.ref t15), some (.ref t22), some (.ref t29), none, none, none, none, none, none, none, none, none, none, none] ∧ n30.natAbs < 2 ^ 210 ∧ 0 < m31 ∧ m31.natAbs < 2 ^ 210 ∧ Wd p [(t1, .tup [.int n2, .int m3]), (t8, .tup [.int n9, .int m10]), (t15, .tup [.int n16, .int m17]), (t22, .tup [.int n23, .int m24]), (t29, .tup [.int n30, .int m31])] H' ∧ Keeps HP H' p.p, ?_, ?_⟩
    · skip
      refine ⟨_, rfl, p, rfl, W.P, fun t29 n30 m31 H32 hP33 k34 ht29 pm31 bn30 bm31 => ?_⟩
      have W := W.keep hP33 k34
      have S := S.trans k34
      have W := W.got ht29 (by intro _ z; cases z)
      exact ⟨t29, n30, m31, rfl, bn30, pm31, bm31, (W.pick (W.pick (W.pick (W.pick (W.pick (Wd.nil W.P) (List.Mem.head _)) (List.Mem.tail _ (List.Mem.tail _ (List.Mem.tail _ (List.Mem.tail _ (List.Mem.head _)))))) (List.Mem.tail _ (List.Mem.tail _ (List.Mem.tail _ (List.Mem.head _))))) (List.Mem.tail _ (List.Mem.tail _ (List.Mem.head _)))) (List.Mem.tail _ (List.Mem.head _))), S⟩
    rintro σ' H35 ⟨t29, n30, m31, rfl, bn30, pm31, bm31, W, S⟩
    refine ⟨fun σ' H' => ∃ t36 : Addr, ∃ n37 : Int, ∃ m38 : Int, σ' = [some (.ref a), some (.ref (p : Addr)), some (.ref t1), some (.ref t8), some (.ref t15), some (.ref t22), some (.ref t29), some (.ref t36), none, none, none, none, none, none, none, none, none, none] ∧ n37.natAbs < 2 ^ 210 ∧ 0 < m38 ∧ m38.natAbs < 2 ^ 210 ∧ Wd p [(t1, .tup [.int n2, .int m3]), (t8, .tup [.int n9, .int m10]), (t15, .tup [.int n16, .int m17]), (t22, .tup [.int n23, .int m24]), (t29, .tup [.int n30, .int m31]), (t36, .tup [.int n37, .int m38])] H' ∧ Keeps HP H' p.p, ?_, ?_⟩
    · skip
      refine ⟨_, rfl, p, rfl, W.P, fun t36 n37 m38 H39 hP40 k41 ht36 pm38 bn37 bm38 => ?_⟩
      have W := W.keep hP40 k41
      have S := S.trans k41
      have W := W.got ht36 (by intro _ z; cases z)
      exact ⟨t36, n37, m38, rfl, bn37, pm38, bm38, (W.pick (W.pick (W.pick (W.pick (W.pick (W.pick (Wd.nil W.P) (List.Mem.head _)) (List.Mem.tail _ (List.Mem.tail _ (List.Mem.tail _ (List.Mem.tail _ (List.Mem.tail _ (List.Mem.head _))))))) (List.Mem.tail _ (List.Mem.tail _ (List.Mem.tail _ (List.Mem.tail _ (List.Mem.head _)))))) (List.Mem.tail _ (List.Mem.tail _ (List.Mem.tail _ (List.Mem.head _))))) (List.Mem.tail _ (List.Mem.tail _ (List.Mem.head _)))) (List.Mem.tail _ (List.Mem.head _))), S⟩
    rintro σ' H42 ⟨t36, n37, m38, rfl, bn37, pm38, bm38, W, S⟩
    refine ⟨fun σ' H' => ∃ z51 : Addr, σ' = [some (.ref a), some (.ref (p : Addr)), some (.ref t1), some (.ref t8), some (.ref t15), some (.ref t22), some (.ref t29), some (.ref t36), some (.ref z51), none, none, none, none, none, none, none, none, none] ∧ Wd p [(t1, .tup [.int n2, .int m3]), (t8, .tup [.int n9, .int m10]), (t15, .tup [.int n16, .int m17]), (t22, .tup [.int n23, .int m24]), (t29, .tup [.int n30, .int m31]), (t36, .tup [.int n37, .int m38])] H' ∧ Keeps HP H' p.p ∧ LinQ C D H' z51 n2 m3 n9 m10, ?_, ?_⟩
    · skip
      refine ⟨_, rfl, _, rfl, t1, p, n2, m3, rfl, (W.at (List.Mem.head _)), W.P, pm3, bn2, bm3, fun v43 H44 hP45 k46 hv43 => ?_⟩
      have W := W.keep hP45 k46
      have S := S.trans k46
      refine ⟨_, rfl, _, rfl, t8, p, n9, m10, rfl, (W.at (List.Mem.tail _ (List.Mem.head _))), W.P, pm10, bn9, bm10, fun v47 H48 hP49 k50 hv47 => ?_⟩
      have hv43 := hv43.keep W.P k50
      have W := W.keep hP49 k50
      have S := S.trans k50
      refine fun z51 dz51 nxz51 ndz51 nez51 => ⟨z51, dz51, _, _, n2, m3, n9, m10, rfl, upd_same, NumQ.same hv43 (new2 nxz51 ndz51 nez51), NumQ.same hv47 (new2 nxz51 ndz51 nez51), (Int.ne_of_gt pm3), (Int.ne_of_gt pm10), fun H52 kz51 hz51 => ⟨rfl, ?_⟩⟩
      have s53 := made nxz51 ndz51 kz51
      have hv43 := hv43.same s53
      have hv47 := hv47.same s53
      have W := W.same s53
      have S := S.trans (same_keeps s53)
      exact ⟨z51, rfl, (W.pick (W.pick (W.pick (W.pick (W.pick (W.pick (Wd.nil W.P) (List.Mem.tail _ (List.Mem.tail _ (List.Mem.tail _ (List.Mem.tail _ (List.Mem.tail _ (List.Mem.head _))))))) (List.Mem.tail _ (List.Mem.tail _ (List.Mem.tail _ (List.Mem.tail _ (List.Mem.head _)))))) (List.Mem.tail _ (List.Mem.tail _ (List.Mem.tail _ (List.Mem.head _))))) (List.Mem.tail _ (List.Mem.tail _ (List.Mem.head _)))) (List.Mem.tail _ (List.Mem.head _))) (List.Mem.head _)), S, hz51⟩
    rintro σ' H54 ⟨z51, rfl, W, S, hz51⟩
    refine ⟨fun σ' H' => ∃ z63 : Addr, σ' = [some (.ref a), some (.ref (p : Addr)), some (.ref t1), some (.ref t8), some (.ref t15), some (.ref t22), some (.ref t29), some (.ref t36), some (.ref z51), some (.ref z63), none, none, none, none, none, none, none, none] ∧ Wd p [(t1, .tup [.int n2, .int m3]), (t8, .tup [.int n9, .int m10]), (t15, .tup [.int n16, .int m17]), (t22, .tup [.int n23, .int m24]), (t29, .tup [.int n30, .int m31]), (t36, .tup [.int n37, .int m38])] H' ∧ Keeps HP H' p.p ∧ LinQ C D H' z51 n2 m3 n9 m10 ∧ LinQ C D H' z63 n16 m17 n23 m24, ?_, ?_⟩
    · skip
      refine ⟨_, rfl, _, rfl, t15, p, n16, m17, rfl, (W.at (List.Mem.tail _ (List.Mem.tail _ (List.Mem.head _)))), W.P, pm17, bn16, bm17, fun v55 H56 hP57 k58 hv55 => ?_⟩
      have hz51 := hz51.keep W.P k58
      have W := W.keep hP57 k58
      have S := S.trans k58
      refine ⟨_, rfl, _, rfl, t22, p, n23, m24, rfl, (W.at (List.Mem.tail _ (List.Mem.tail _ (List.Mem.tail _ (List.Mem.head _))))), W.P, pm24, bn23, bm24, fun v59 H60 hP61 k62 hv59 => ?_⟩
      have hz51 := hz51.keep W.P k62
      have hv55 := hv55.keep W.P k62
      have W := W.keep hP61 k62
      have S := S.trans k62
      refine fun z63 dz63 nxz63 ndz63 nez63 => ⟨z63, dz63, _, _, n16, m17, n23, m24, rfl, upd_same, NumQ.same hv55 (new2 nxz63 ndz63 nez63), NumQ.same hv59 (new2 nxz63 ndz63 nez63), (Int.ne_of_gt pm17), (Int.ne_of_gt pm24), fun H64 kz63 hz63 => ⟨rfl, ?_⟩⟩
      have s65 := made nxz63 ndz63 kz63
      have hz51 := hz51.same s65
      have hv55 := hv55.same s65
      have hv59 := hv59.same s65
      have W := W.same s65
      have S := S.trans (same_keeps s65)
      exact ⟨z63, rfl, (W.pick (W.pick (W.pick (W.pick (W.pick (W.pick (Wd.nil W.P) (List.Mem.tail _ (List.Mem.tail _ (List.Mem.tail _ (List.Mem.tail _ (List.Mem.tail _ (List.Mem.head _))))))) (List.Mem.tail _ (List.Mem.tail _ (List.Mem.tail _ (List.Mem.tail _ (List.Mem.head _)))))) (List.Mem.tail _ (List.Mem.tail _ (List.Mem.tail _ (List.Mem.head _))))) (List.Mem.tail _ (List.Mem.tail _ (List.Mem.head _)))) (List.Mem.tail _ (List.Mem.head _))) (List.Mem.head _)), S, hz51, hz63⟩
    rintro σ' H66 ⟨z63, rfl, W, S, hz51, hz63⟩
    refine ⟨fun σ' H' => ∃ v67 : V, σ' = [some (.ref a), some (.ref (p : Addr)), some (.ref t1), some (.ref t8), some (.ref t15), some (.ref t22), some (.ref t29), some (.ref t36), some (.ref z51), some (.ref z63), some (v67), none, none, none, none, none, none, none] ∧ Wd p [(t1, .tup [.int n2, .int m3]), (t8, .tup [.int n9, .int m10]), (t15, .tup [.int n16, .int m17]), (t22, .tup [.int n23, .int m24]), (t29, .tup [.int n30, .int m31]), (t36, .tup [.int n37, .int m38])] H' ∧ Keeps HP H' p.p ∧ LinQ C D H' z51 n2 m3 n9 m10 ∧ LinQ C D H' z63 n16 m17 n23 m24 ∧ NumQ C H' v67 n30 m31, ?_, ?_⟩
    · skip
      refine ⟨_, rfl, _, rfl, t29, p, n30, m31, rfl, (W.at (List.Mem.tail _ (List.Mem.tail _ (List.Mem.tail _ (List.Mem.tail _ (List.Mem.head _)))))), W.P, pm31, bn30, bm31, fun v67 H68 hP69 k70 hv67 => ?_⟩
      have hz51 := hz51.keep W.P k70
      have hz63 := hz63.keep W.P k70
      have W := W.keep hP69 k70
      have S := S.trans k70
      exact ⟨v67, rfl, (W.pick (W.pick (W.pick (W.pick (W.pick (W.pick (Wd.nil W.P) (List.Mem.tail _ (List.Mem.tail _ (List.Mem.tail _ (List.Mem.tail _ (List.Mem.tail _ (List.Mem.head _))))))) (List.Mem.tail _ (List.Mem.tail _ (List.Mem.tail _ (List.Mem.tail _ (List.Mem.head _)))))) (List.Mem.tail _ (List.Mem.tail _ (List.Mem.tail _ (List.Mem.head _))))) (List.Mem.tail _ (List.Mem.tail _ (List.Mem.head _)))) (List.Mem.tail _ (List.Mem.head _))) (List.Mem.head _)), S, hz51, hz63, hv67⟩
    rintro σ' H71 ⟨v67, rfl, W, S, hz51, hz63, hv67⟩
    refine ⟨fun σ' H' => ∃ v72 : V, σ' = [some (.ref a), some (.ref (p : Addr)), some (.ref t1), some (.ref t8), some (.ref t15), some (.ref t22), some (.ref t29), some (.ref t36), some (.ref z51), some (.ref z63), some (v67), some (v72), none, none, none, none, none, none] ∧ Wd p [(t1, .tup [.int n2, .int m3]), (t8, .tup [.int n9, .int m10]), (t15, .tup [.int n16, .int m17]), (t22, .tup [.int n23, .int m24]), (t29, .tup [.int n30, .int m31]), (t36, .tup [.int n37, .int m38])] H' ∧ Keeps HP H' p.p ∧ LinQ C D H' z51 n2 m3 n9 m10 ∧ LinQ C D H' z63 n16 m17 n23 m24 ∧ NumQ C H' v67 n30 m31 ∧ NumQ C H' v72 n37 m38, ?_, ?_⟩
    · skip
      refine ⟨_, rfl, _, rfl, t36, p, n37, m38, rfl, (W.at (List.Mem.tail _ (List.Mem.tail _ (List.Mem.tail _ (List.Mem.tail _ (List.Mem.tail _ (List.Mem.head _))))))), W.P, pm38, bn37, bm38, fun v72 H73 hP74 k75 hv72 => ?_⟩
      have hz51 := hz51.keep W.P k75
      have hz63 := hz63.keep W.P k75
      have hv67 := hv67.keep W.P k75
      have W := W.keep hP74 k75
      have S := S.trans k75
      exact ⟨v72, rfl, (W.pick (W.pick (W.pick (W.pick (W.pick (W.pick (Wd.nil W.P) (List.Mem.tail _ (List.Mem.tail _ (List.Mem.tail _ (List.Mem.tail _ (List.Mem.tail _ (List.Mem.head _))))))) (List.Mem.tail _ (List.Mem.tail _ (List.Mem.tail _ (List.Mem.tail _ (List.Mem.head _)))))) (List.Mem.tail _ (List.Mem.tail _ (List.Mem.tail _ (List.Mem.head _))))) (List.Mem.tail _ (List.Mem.tail _ (List.Mem.head _)))) (List.Mem.tail _ (List.Mem.head _))) (List.Mem.head _)), S, hz51, hz63, hv67, hv72⟩
    rintro σ' H76 ⟨v72, rfl, W, S, hz51, hz63, hv67, hv72⟩
    refine ⟨fun σ' H' => ∃ t77 : Addr, σ' = [some (.ref a), some (.ref (p : Addr)), some (.ref t1), some (.ref t8), some (.ref t15), some (.ref t22), some (.ref t29), some (.ref t36), some (.ref z51), some (.ref z63), some (v67), some (v72), some (.ref t77), none, none, none, none, none] ∧ Wd p [(t1, .tup [.int n2, .int m3]), (t8, .tup [.int n9, .int m10]), (t15, .tup [.int n16, .int m17]), (t22, .tup [.int n23, .int m24]), (t29, .tup [.int n30, .int m31]), (t36, .tup [.int n37, .int m38]), (t77, .tup [.int (-n16), .int m17])] H' ∧ Keeps HP H' p.p ∧ LinQ C D H' z51 n2 m3 n9 m10 ∧ LinQ C D H' z63 n16 m17 n23 m24 ∧ NumQ C H' v67 n30 m31 ∧ NumQ C H' v72 n37 m38, ?_, ?_⟩
    · skip
      refine ⟨_, rfl, _, _, _, _, rfl, rfl, SqT.of (W.at (List.Mem.tail _ (List.Mem.tail _ (List.Mem.head _)))), rfl, _, rfl, _, rfl, _, _, _, _, rfl, rfl, SqT.of (W.at (List.Mem.tail _ (List.Mem.tail _ (List.Mem.head _)))), rfl, (by show 2 ≤ sizeLine; decide), fun t77 ht77 => ?_⟩
      have W := W.new (o := .tup [.int (-n16), .int m17]) ht77
      have hz51 := hz51.same (same_upd (o := .tup [.int (-n16), .int m17]) ht77)
      have hz63 := hz63.same (same_upd (o := .tup [.int (-n16), .int m17]) ht77)
      have hv67 := hv67.same (same_upd (o := .tup [.int (-n16), .int m17]) ht77)
      have hv72 := hv72.same (same_upd (o := .tup [.int (-n16), .int m17]) ht77)
      have S := S.trans (same_keeps (same_upd (o := .tup [.int (-n16), .int m17]) ht77))
      exact ⟨t77, rfl, (W.pick (W.pick (W.pick (W.pick (W.pick (W.pick (W.pick (Wd.nil W.P) (List.Mem.head _)) (List.Mem.tail _ (List.Mem.tail _ (List.Mem.tail _ (List.Mem.tail _ (List.Mem.tail _ (List.Mem.tail _ (List.Mem.head _)))))))) (List.Mem.tail _ (List.Mem.tail _ (List.Mem.tail _ (List.Mem.tail _ (List.Mem.tail _ (List.Mem.head _))))))) (List.Mem.tail _ (List.Mem.tail _ (List.Mem.tail _ (List.Mem.tail _ (List.Mem.head _)))))) (List.Mem.tail _ (List.Mem.tail _ (List.Mem.tail _ (List.Mem.head _))))) (List.Mem.tail _ (List.Mem.tail _ (List.Mem.head _)))) (List.Mem.tail _ (List.Mem.head _))), S, hz51, hz63, hv67, hv72⟩
    rintro σ' H78 ⟨t77, rfl, W, S, hz51, hz63, hv67, hv72⟩
    refine ⟨fun σ' H' => ∃ t79 : Addr, σ' = [some (.ref a), some (.ref (p : Addr)), some (.ref t1), some (.ref t8), some (.ref t15), some (.ref t22), some (.ref t29), some (.ref t36), some (.ref z51), some (.ref z63), some (v67), some (v72), some (.ref t77), some (.ref t79), none, none, none, none] ∧ Wd p [(t1, .tup [.int n2, .int m3]), (t8, .tup [.int n9, .int m10]), (t15, .tup [.int n16, .int m17]), (t22, .tup [.int n23, .int m24]), (t29, .tup [.int n30, .int m31]), (t36, .tup [.int n37, .int m38]), (t77, .tup [.int (-n16), .int m17]), (t79, .tup [.int (-n23), .int m24])] H' ∧ Keeps HP H' p.p ∧ LinQ C D H' z51 n2 m3 n9 m10 ∧ LinQ C D H' z63 n16 m17 n23 m24 ∧ NumQ C H' v67 n30 m31 ∧ NumQ C H' v72 n37 m38, ?_, ?_⟩
    · skip
      refine ⟨_, rfl, _, _, _, _, rfl, rfl, SqT.of (W.at (List.Mem.tail _ (List.Mem.tail _ (List.Mem.tail _ (List.Mem.head _))))), rfl, _, rfl, _, rfl, _, _, _, _, rfl, rfl, SqT.of (W.at (List.Mem.tail _ (List.Mem.tail _ (List.Mem.tail _ (List.Mem.head _))))), rfl, (by show 2 ≤ sizeLine; decide), fun t79 ht79 => ?_⟩
      have W := W.new (o := .tup [.int (-n23), .int m24]) ht79
      have hz51 := hz51.same (same_upd (o := .tup [.int (-n23), .int m24]) ht79)
      have hz63 := hz63.same (same_upd (o := .tup [.int (-n23), .int m24]) ht79)
      have hv67 := hv67.same (same_upd (o := .tup [.int (-n23), .int m24]) ht79)
      have hv72 := hv72.same (same_upd (o := .tup [.int (-n23), .int m24]) ht79)
      have S := S.trans (same_keeps (same_upd (o := .tup [.int (-n23), .int m24]) ht79))
      exact ⟨t79, rfl, (W.pick (W.pick (W.pick (W.pick (W.pick (W.pick (W.pick (W.pick (Wd.nil W.P) (List.Mem.head _)) (List.Mem.tail _ (List.Mem.tail _ (List.Mem.tail _ (List.Mem.tail _ (List.Mem.tail _ (List.Mem.tail _ (List.Mem.tail _ (List.Mem.head _))))))))) (List.Mem.tail _ (List.Mem.tail _ (List.Mem.tail _ (List.Mem.tail _ (List.Mem.tail _ (List.Mem.tail _ (List.Mem.head _)))))))) (List.Mem.tail _ (List.Mem.tail _ (List.Mem.tail _ (List.Mem.tail _ (List.Mem.tail _ (List.Mem.head _))))))) (List.Mem.tail _ (List.Mem.tail _ (List.Mem.tail _ (List.Mem.tail _ (List.Mem.head _)))))) (List.Mem.tail _ (List.Mem.tail _ (List.Mem.tail _ (List.Mem.head _))))) (List.Mem.tail _ (List.Mem.tail _ (List.Mem.head _)))) (List.Mem.tail _ (List.Mem.head _))), S, hz51, hz63, hv67, hv72⟩
    rintro σ' H80 ⟨t79, rfl, W, S, hz51, hz63, hv67, hv72⟩
    refine ⟨fun σ' H' => ∃ t81 : Addr, σ' = [some (.ref a), some (.ref (p : Addr)), some (.ref t1), some (.ref t8), some (.ref t15), some (.ref t22), some (.ref t29), some (.ref t36), some (.ref z51), some (.ref z63), some (v67), some (v72), some (.ref t77), some (.ref t79), some (.ref t81), none, none, none] ∧ Wd p [(t1, .tup [.int n2, .int m3]), (t8, .tup [.int n9, .int m10]), (t15, .tup [.int n16, .int m17]), (t22, .tup [.int n23, .int m24]), (t29, .tup [.int n30, .int m31]), (t36, .tup [.int n37, .int m38]), (t77, .tup [.int (-n16), .int m17]), (t79, .tup [.int (-n23), .int m24]), (t81, .tup [.int (-n2), .int m3])] H' ∧ Keeps HP H' p.p ∧ LinQ C D H' z51 n2 m3 n9 m10 ∧ LinQ C D H' z63 n16 m17 n23 m24 ∧ NumQ C H' v67 n30 m31 ∧ NumQ C H' v72 n37 m38, ?_, ?_⟩
    · skip
      refine ⟨_, rfl, _, _, _, _, rfl, rfl, SqT.of (W.at (List.Mem.head _)), rfl, _, rfl, _, rfl, _, _, _, _, rfl, rfl, SqT.of (W.at (List.Mem.head _)), rfl, (by show 2 ≤ sizeLine; decide), fun t81 ht81 => ?_⟩
      have W := W.new (o := .tup [.int (-n2), .int m3]) ht81
      have hz51 := hz51.same (same_upd (o := .tup [.int (-n2), .int m3]) ht81)
      have hz63 := hz63.same (same_upd (o := .tup [.int (-n2), .int m3]) ht81)
      have hv67 := hv67.same (same_upd (o := .tup [.int (-n2), .int m3]) ht81)
      have hv72 := hv72.same (same_upd (o := .tup [.int (-n2), .int m3]) ht81)
      have S := S.trans (same_keeps (same_upd (o := .tup [.int (-n2), .int m3]) ht81))
      exact ⟨t81, rfl, (W.pick (W.pick (W.pick (W.pick (W.pick (W.pick (W.pick (W.pick (W.pick (Wd.nil W.P) (List.Mem.head _)) (List.Mem.tail _ (List.Mem.tail _ (List.Mem.tail _ (List.Mem.tail _ (List.Mem.tail _ (List.Mem.tail _ (List.Mem.tail _ (List.Mem.tail _ (List.Mem.head _)))))))))) (List.Mem.tail _ (List.Mem.tail _ (List.Mem.tail _ (List.Mem.tail _ (List.Mem.tail _ (List.Mem.tail _ (List.Mem.tail _ (List.Mem.head _))))))))) (List.Mem.tail _ (List.Mem.tail _ (List.Mem.tail _ (List.Mem.tail _ (List.Mem.tail _ (List.Mem.tail _ (List.Mem.head _)))))))) (List.Mem.tail _ (List.Mem.tail _ (List.Mem.tail _ (List.Mem.tail _ (List.Mem.tail _ (List.Mem.head _))))))) (List.Mem.tail _ (List.Mem.tail _ (List.Mem.tail _ (List.Mem.tail _ (List.Mem.head _)))))) (List.Mem.tail _ (List.Mem.tail _ (List.Mem.tail _ (List.Mem.head _))))) (List.Mem.tail _ (List.Mem.tail _ (List.Mem.head _)))) (List.Mem.tail _ (List.Mem.head _))), S, hz51, hz63, hv67, hv72⟩
    rintro σ' H82 ⟨t81, rfl, W, S, hz51, hz63, hv67, hv72⟩
    refine ⟨fun σ' H' => ∃ t83 : Addr, σ' = [some (.ref a), some (.ref (p : Addr)), some (.ref t1), some (.ref t8), some (.ref t15), some (.ref t22), some (.ref t29), some (.ref t36), some (.ref z51), some (.ref z63), some (v67), some (v72), some (.ref t77), some (.ref t79), some (.ref t81), some (.ref t83), none, none] ∧ Wd p [(t1, .tup [.int n2, .int m3]), (t8, .tup [.int n9, .int m10]), (t15, .tup [.int n16, .int m17]), (t22, .tup [.int n23, .int m24]), (t29, .tup [.int n30, .int m31]), (t36, .tup [.int n37, .int m38]), (t77, .tup [.int (-n16), .int m17]), (t79, .tup [.int (-n23), .int m24]), (t81, .tup [.int (-n2), .int m3]), (t83, .tup [.int (-n9), .int m10])] H' ∧ Keeps HP H' p.p ∧ LinQ C D H' z51 n2 m3 n9 m10 ∧ LinQ C D H' z63 n16 m17 n23 m24 ∧ NumQ C H' v67 n30 m31 ∧ NumQ C H' v72 n37 m38, ?_, ?_⟩
    · skip
      refine ⟨_, rfl, _, _, _, _, rfl, rfl, SqT.of (W.at (List.Mem.tail _ (List.Mem.head _))), rfl, _, rfl, _, rfl, _, _, _, _, rfl, rfl, SqT.of (W.at (List.Mem.tail _ (List.Mem.head _))), rfl, (by show 2 ≤ sizeLine; decide), fun t83 ht83 => ?_⟩
      have W := W.new (o := .tup [.int (-n9), .int m10]) ht83
      have hz51 := hz51.same (same_upd (o := .tup [.int (-n9), .int m10]) ht83)
      have hz63 := hz63.same (same_upd (o := .tup [.int (-n9), .int m10]) ht83)
      have hv67 := hv67.same (same_upd (o := .tup [.int (-n9), .int m10]) ht83)
      have hv72 := hv72.same (same_upd (o := .tup [.int (-n9), .int m10]) ht83)
      have S := S.trans (same_keeps (same_upd (o := .tup [.int (-n9), .int m10]) ht83))
      exact ⟨t83, rfl, (W.pick (W.pick (W.pick (W.pick (W.pick (W.pick (W.pick (W.pick (W.pick (W.pick (Wd.nil W.P) (List.Mem.head _)) (List.Mem.tail _ (List.Mem.tail _ (List.Mem.tail _ (List.Mem.tail _ (List.Mem.tail _ (List.Mem.tail _ (List.Mem.tail _ (List.Mem.tail _ (List.Mem.tail _ (List.Mem.head _))))))))))) (List.Mem.tail _ (List.Mem.tail _ (List.Mem.tail _ (List.Mem.tail _ (List.Mem.tail _ (List.Mem.tail _ (List.Mem.tail _ (List.Mem.tail _ (List.Mem.head _)))))))))) (List.Mem.tail _ (List.Mem.tail _ (List.Mem.tail _ (List.Mem.tail _ (List.Mem.tail _ (List.Mem.tail _ (List.Mem.tail _ (List.Mem.head _))))))))) (List.Mem.tail _ (List.Mem.tail _ (List.Mem.tail _ (List.Mem.tail _ (List.Mem.tail _ (List.Mem.tail _ (List.Mem.head _)))))))) (List.Mem.tail _ (List.Mem.tail _ (List.Mem.tail _ (List.Mem.tail _ (List.Mem.tail _ (List.Mem.head _))))))) (List.Mem.tail _ (List.Mem.tail _ (List.Mem.tail _ (List.Mem.tail _ (List.Mem.head _)))))) (List.Mem.tail _ (List.Mem.tail _ (List.Mem.tail _ (List.Mem.head _))))) (List.Mem.tail _ (List.Mem.tail _ (List.Mem.head _)))) (List.Mem.tail _ (List.Mem.head _))), S, hz51, hz63, hv67, hv72⟩
    rintro σ' H84 ⟨t83, rfl, W, S, hz51, hz63, hv67, hv72⟩
    refine ⟨fun σ' H' => ∃ t87 : Addr, ∃ t85 : Addr, ∃ t86 : Addr, σ' = [some (.ref a), some (.ref (p : Addr)), some (.ref t1), some (.ref t8), some (.ref t15), some (.ref t22), some (.ref t29), some (.ref t36), some (.ref z51), some (.ref z63), some (v67), some (v72), some (.ref t77), some (.ref t79), some (.ref t81), some (.ref t83), some (.ref t87), none] ∧ Wd p [(t1, .tup [.int n2, .int m3]), (t8, .tup [.int n9, .int m10]), (t15, .tup [.int n16, .int m17]), (t22, .tup [.int n23, .int m24]), (t29, .tup [.int n30, .int m31]), (t36, .tup [.int n37, .int m38]), (t77, .tup [.int (-n16), .int m17]), (t79, .tup [.int (-n23), .int m24]), (t81, .tup [.int (-n2), .int m3]), (t83, .tup [.int (-n9), .int m10]), (t87, .lst [.ref t85, .ref t86]), (t85, .tup [.ref z51, .ref t1, .ref t8]), (t86, .tup [.ref z63, .ref t15, .ref t22])] H' ∧ Keeps HP H' p.p ∧ LinQ C D H' z51 n2 m3 n9 m10 ∧ LinQ C D H' z63 n16 m17 n23 m24 ∧ NumQ C H' v67 n30 m31 ∧ NumQ C H' v72 n37 m38, ?_, ?_⟩
    · skip
      refine ⟨_, rfl, _, rfl, _, rfl, (by show 3 ≤ sizeLine; decide), fun t85 ht85 => ?_⟩
      have W := W.new (o := .tup [.ref z51, .ref t1, .ref t8]) ht85
      have hz51 := hz51.same (same_upd (o := .tup [.ref z51, .ref t1, .ref t8]) ht85)
      have hz63 := hz63.same (same_upd (o := .tup [.ref z51, .ref t1, .ref t8]) ht85)
      have hv67 := hv67.same (same_upd (o := .tup [.ref z51, .ref t1, .ref t8]) ht85)
      have hv72 := hv72.same (same_upd (o := .tup [.ref z51, .ref t1, .ref t8]) ht85)
      have S := S.trans (same_keeps (same_upd (o := .tup [.ref z51, .ref t1, .ref t8]) ht85))
      refine ⟨_, rfl, _, rfl, _, rfl, (by show 3 ≤ sizeLine; decide), fun t86 ht86 => ?_⟩
      have W := W.new (o := .tup [.ref z63, .ref t15, .ref t22]) ht86
      have hz51 := hz51.same (same_upd (o := .tup [.ref z63, .ref t15, .ref t22]) ht86)
      have hz63 := hz63.same (same_upd (o := .tup [.ref z63, .ref t15, .ref t22]) ht86)
      have hv67 := hv67.same (same_upd (o := .tup [.ref z63, .ref t15, .ref t22]) ht86)
      have hv72 := hv72.same (same_upd (o := .tup [.ref z63, .ref t15, .ref t22]) ht86)
      have S := S.trans (same_keeps (same_upd (o := .tup [.ref z63, .ref t15, .ref t22]) ht86))
      refine ⟨(by show 2 ≤ sizeLine; decide), fun t87 ht87 => ?_⟩
      have W := W.new (o := .lst [.ref t85, .ref t86]) ht87
      have hz51 := hz51.same (same_upd (o := .lst [.ref t85, .ref t86]) ht87)
      have hz63 := hz63.same (same_upd (o := .lst [.ref t85, .ref t86]) ht87)
      have hv67 := hv67.same (same_upd (o := .lst [.ref t85, .ref t86]) ht87)
      have hv72 := hv72.same (same_upd (o := .lst [.ref t85, .ref t86]) ht87)
      have S := S.trans (same_keeps (same_upd (o := .lst [.ref t85, .ref t86]) ht87))
      exact ⟨t87, t85, t86, rfl, (W.pick (W.pick (W.pick (W.pick (W.pick (W.pick (W.pick (W.pick (W.pick (W.pick (W.pick (W.pick (W.pick (Wd.nil W.P) (List.Mem.tail _ (List.Mem.head _))) (List.Mem.tail _ (List.Mem.tail _ (List.Mem.head _)))) (List.Mem.head _)) (List.Mem.tail _ (List.Mem.tail _ (List.Mem.tail _ (List.Mem.tail _ (List.Mem.tail _ (List.Mem.tail _ (List.Mem.tail _ (List.Mem.tail _ (List.Mem.tail _ (List.Mem.tail _ (List.Mem.tail _ (List.Mem.tail _ (List.Mem.head _)))))))))))))) (List.Mem.tail _ (List.Mem.tail _ (List.Mem.tail _ (List.Mem.tail _ (List.Mem.tail _ (List.Mem.tail _ (List.Mem.tail _ (List.Mem.tail _ (List.Mem.tail _ (List.Mem.tail _ (List.Mem.tail _ (List.Mem.head _))))))))))))) (List.Mem.tail _ (List.Mem.tail _ (List.Mem.tail _ (List.Mem.tail _ (List.Mem.tail _ (List.Mem.tail _ (List.Mem.tail _ (List.Mem.tail _ (List.Mem.tail _ (List.Mem.tail _ (List.Mem.head _)))))))))))) (List.Mem.tail _ (List.Mem.tail _ (List.Mem.tail _ (List.Mem.tail _ (List.Mem.tail _ (List.Mem.tail _ (List.Mem.tail _ (List.Mem.tail _ (List.Mem.tail _ (List.Mem.head _))))))))))) (List.Mem.tail _ (List.Mem.tail _ (List.Mem.tail _ (List.Mem.tail _ (List.Mem.tail _ (List.Mem.tail _ (List.Mem.tail _ (List.Mem.tail _ (List.Mem.head _)))))))))) (List.Mem.tail _ (List.Mem.tail _ (List.Mem.tail _ (List.Mem.tail _ (List.Mem.tail _ (List.Mem.tail _ (List.Mem.tail _ (List.Mem.head _))))))))) (List.Mem.tail _ (List.Mem.tail _ (List.Mem.tail _ (List.Mem.tail _ (List.Mem.tail _ (List.Mem.tail _ (List.Mem.head _)))))))) (List.Mem.tail _ (List.Mem.tail _ (List.Mem.tail _ (List.Mem.tail _ (List.Mem.tail _ (List.Mem.head _))))))) (List.Mem.tail _ (List.Mem.tail _ (List.Mem.tail _ (List.Mem.tail _ (List.Mem.head _)))))) (List.Mem.tail _ (List.Mem.tail _ (List.Mem.tail _ (List.Mem.head _))))), S, hz51, hz63, hv67, hv72⟩
    rintro σ' H88 ⟨t87, t85, t86, rfl, W, S, hz51, hz63, hv67, hv72⟩
    refine ⟨fun σ' H' => ∃ t100 : Addr, ∃ t98 : Addr, ∃ z89 : Addr, ∃ t92 : Addr, ∃ t95 : Addr, σ' = [some (.ref a), some (.ref (p : Addr)), some (.ref t1), some (.ref t8), some (.ref t15), some (.ref t22), some (.ref t29), some (.ref t36), some (.ref z51), some (.ref z63), some (v67), some (v72), some (.ref t77), some (.ref t79), some (.ref t81), some (.ref t83), some (.ref t100), none] ∧ Wd p [(t1, .tup [.int n2, .int m3]), (t8, .tup [.int n9, .int m10]), (t15, .tup [.int n16, .int m17]), (t22, .tup [.int n23, .int m24]), (t29, .tup [.int n30, .int m31]), (t36, .tup [.int n37, .int m38]), (t77, .tup [.int (-n16), .int m17]), (t79, .tup [.int (-n23), .int m24]), (t81, .tup [.int (-n2), .int m3]), (t83, .tup [.int (-n9), .int m10]), (t100, .lst [.ref t85, .ref t86, .ref t98]), (t85, .tup [.ref z51, .ref t1, .ref t8]), (t86, .tup [.ref z63, .ref t15, .ref t22]), (t98, .tup [.ref z89, .ref t92, .ref t95]), (t92, .tup [.int ((n2 * m17) + (n16 * m3)), .int (m3 * m17)]), (t95, .tup [.int ((n9 * m24) + (n23 * m10)), .int (m10 * m24)])] H' ∧ Keeps HP H' p.p ∧ LinQ C D H' z51 n2 m3 n9 m10 ∧ LinQ C D H' z63 n16 m17 n23 m24 ∧ NumQ C H' v67 n30 m31 ∧ NumQ C H' v72 n37 m38 ∧ LinQ C D H' z89 ((n2 * m17) + (n16 * m3)) (m3 * m17) ((n9 * m24) + (n23 * m10)) (m10 * m24), ?_, ?_⟩
    · skip
      refine ⟨_, rfl, _, rfl, _, rfl, lop_add hz51 hz63 (Sq.of (b := 210) pm3 bn2 bm3 (by decide)) (Sq.of (b := 210) pm10 bn9 bm10 (by decide)) (Sq.of (b := 210) pm17 bn16 bm17 (by decide)) (Sq.of (b := 210) pm24 bn23 bm24 (by decide)) fun z89 H90 s91 hz89 => ?_⟩
      have hz51 := hz51.same s91
      have hz63 := hz63.same s91
      have hv67 := hv67.same s91
      have hv72 := hv72.same s91
      have W := W.same s91
      have S := S.trans (same_keeps s91)
      refine ⟨_, rfl, _, rfl, t1, t15, n2, m3, n16, m17, rfl, (W.at (List.Mem.head _)), (W.at (List.Mem.tail _ (List.Mem.tail _ (List.Mem.head _)))), (ub bn2 (by decide)), (ub bm3 (by decide)), (ub bn16 (by decide)), (ub bm17 (by decide)), fun t92 H93 s94 ht92 => ?_⟩
      have hz51 := hz51.same s94
      have hz63 := hz63.same s94
      have hv67 := hv67.same s94
      have hv72 := hv72.same s94
      have hz89 := hz89.same s94
      have W := W.same s94
      have S := S.trans (same_keeps s94)
      have W := W.got ht92 (by intro _ z; cases z)
      refine ⟨_, rfl, _, rfl, t8, t22, n9, m10, n23, m24, rfl, (W.at (List.Mem.tail _ (List.Mem.tail _ (List.Mem.head _)))), (W.at (List.Mem.tail _ (List.Mem.tail _ (List.Mem.tail _ (List.Mem.tail _ (List.Mem.head _)))))), (ub bn9 (by decide)), (ub bm10 (by decide)), (ub bn23 (by decide)), (ub bm24 (by decide)), fun t95 H96 s97 ht95 => ?_⟩
      have hz51 := hz51.same s97
      have hz63 := hz63.same s97
      have hv67 := hv67.same s97
      have hv72 := hv72.same s97
      have hz89 := hz89.same s97
      have W := W.same s97
      have S := S.trans (same_keeps s97)
      have W := W.got ht95 (by intro _ z; cases z)
      refine ⟨(by show 3 ≤ sizeLine; decide), fun t98 ht98 => ?_⟩
      have W := W.new (o := .tup [.ref z89, .ref t92, .ref t95]) ht98
      have hz51 := hz51.same (same_upd (o := .tup [.ref z89, .ref t92, .ref t95]) ht98)
      have hz63 := hz63.same (same_upd (o := .tup [.ref z89, .ref t92, .ref t95]) ht98)
      have hv67 := hv67.same (same_upd (o := .tup [.ref z89, .ref t92, .ref t95]) ht98)
      have hv72 := hv72.same (same_upd (o := .tup [.ref z89, .ref t92, .ref t95]) ht98)
      have hz89 := hz89.same (same_upd (o := .tup [.ref z89, .ref t92, .ref t95]) ht98)
      have S := S.trans (same_keeps (same_upd (o := .tup [.ref z89, .ref t92, .ref t95]) ht98))
      refine ⟨(by show 1 ≤ sizeLine; decide), fun t99 ht99 => ?_⟩
      have W := W.new (o := .lst [.ref t98]) ht99
      have hz51 := hz51.same (same_upd (o := .lst [.ref t98]) ht99)
      have hz63 := hz63.same (same_upd (o := .lst [.ref t98]) ht99)
      have hv67 := hv67.same (same_upd (o := .lst [.ref t98]) ht99)
      have hv72 := hv72.same (same_upd (o := .lst [.ref t98]) ht99)
      have hz89 := hz89.same (same_upd (o := .lst [.ref t98]) ht99)
      have S := S.trans (same_keeps (same_upd (o := .lst [.ref t98]) ht99))
      refine ⟨t87, t99, _, _, rfl, rfl, (W.at (List.Mem.tail _ (List.Mem.tail _ (List.Mem.tail _ (List.Mem.tail _ (List.Mem.tail _ (List.Mem.tail _ (List.Mem.tail _ (List.Mem.tail _ (List.Mem.tail _ (List.Mem.tail _ (List.Mem.tail _ (List.Mem.tail _ (List.Mem.tail _ (List.Mem.tail _ (List.Mem.head _)))))))))))))))), (W.at (List.Mem.head _)), (by show 3 ≤ sizeLine; decide), fun t100 ht100 => ?_⟩
      have W := W.new (o := .lst [.ref t85, .ref t86, .ref t98]) ht100
      have hz51 := hz51.same (same_upd (o := .lst [.ref t85, .ref t86, .ref t98]) ht100)
      have hz63 := hz63.same (same_upd (o := .lst [.ref t85, .ref t86, .ref t98]) ht100)
      have hv67 := hv67.same (same_upd (o := .lst [.ref t85, .ref t86, .ref t98]) ht100)
      have hv72 := hv72.same (same_upd (o := .lst [.ref t85, .ref t86, .ref t98]) ht100)
      have hz89 := hz89.same (same_upd (o := .lst [.ref t85, .ref t86, .ref t98]) ht100)
      have S := S.trans (same_keeps (same_upd (o := .lst [.ref t85, .ref t86, .ref t98]) ht100))
      exact ⟨t100, t98, z89, t92, t95, rfl, (W.pick (W.pick (W.pick (W.pick (W.pick (W.pick (W.pick (W.pick (W.pick (W.pick (W.pick (W.pick (W.pick (W.pick (W.pick (W.pick (Wd.nil W.P) (List.Mem.tail _ (List.Mem.tail _ (List.Mem.tail _ (List.Mem.head _))))) (List.Mem.tail _ (List.Mem.tail _ (List.Mem.tail _ (List.Mem.tail _ (List.Mem.head _)))))) (List.Mem.tail _ (List.Mem.tail _ (List.Mem.head _)))) (List.Mem.tail _ (List.Mem.tail _ (List.Mem.tail _ (List.Mem.tail _ (List.Mem.tail _ (List.Mem.tail _ (List.Mem.tail _ (List.Mem.tail _ (List.Mem.tail _ (List.Mem.tail _ (List.Mem.tail _ (List.Mem.tail _ (List.Mem.tail _ (List.Mem.tail _ (List.Mem.tail _ (List.Mem.tail _ (List.Mem.tail _ (List.Mem.head _))))))))))))))))))) (List.Mem.tail _ (List.Mem.tail _ (List.Mem.tail _ (List.Mem.tail _ (List.Mem.tail _ (List.Mem.tail _ (List.Mem.tail _ (List.Mem.tail _ (List.Mem.tail _ (List.Mem.tail _ (List.Mem.tail _ (List.Mem.tail _ (List.Mem.tail _ (List.Mem.tail _ (List.Mem.tail _ (List.Mem.tail _ (List.Mem.head _)))))))))))))))))) (List.Mem.head _)) (List.Mem.tail _ (List.Mem.tail _ (List.Mem.tail _ (List.Mem.tail _ (List.Mem.tail _ (List.Mem.tail _ (List.Mem.tail _ (List.Mem.tail _ (List.Mem.tail _ (List.Mem.tail _ (List.Mem.tail _ (List.Mem.tail _ (List.Mem.tail _ (List.Mem.tail _ (List.Mem.head _)))))))))))))))) (List.Mem.tail _ (List.Mem.tail _ (List.Mem.tail _ (List.Mem.tail _ (List.Mem.tail _ (List.Mem.tail _ (List.Mem.tail _ (List.Mem.tail _ (List.Mem.tail _ (List.Mem.tail _ (List.Mem.tail _ (List.Mem.tail _ (List.Mem.tail _ (List.Mem.head _))))))))))))))) (List.Mem.tail _ (List.Mem.tail _ (List.Mem.tail _ (List.Mem.tail _ (List.Mem.tail _ (List.Mem.tail _ (List.Mem.tail _ (List.Mem.tail _ (List.Mem.tail _ (List.Mem.tail _ (List.Mem.tail _ (List.Mem.tail _ (List.Mem.head _)))))))))))))) (List.Mem.tail _ (List.Mem.tail _ (List.Mem.tail _ (List.Mem.tail _ (List.Mem.tail _ (List.Mem.tail _ (List.Mem.tail _ (List.Mem.tail _ (List.Mem.tail _ (List.Mem.tail _ (List.Mem.tail _ (List.Mem.head _))))))))))))) (List.Mem.tail _ (List.Mem.tail _ (List.Mem.tail _ (List.Mem.tail _ (List.Mem.tail _ (List.Mem.tail _ (List.Mem.tail _ (List.Mem.tail _ (List.Mem.tail _ (List.Mem.tail _ (List.Mem.head _)))))))))))) (List.Mem.tail _ (List.Mem.tail _ (List.Mem.tail _ (List.Mem.tail _ (List.Mem.tail _ (List.Mem.tail _ (List.Mem.tail _ (List.Mem.tail _ (List.Mem.tail _ (List.Mem.head _))))))))))) (List.Mem.tail _ (List.Mem.tail _ (List.Mem.tail _ (List.Mem.tail _ (List.Mem.tail _ (List.Mem.tail _ (List.Mem.tail _ (List.Mem.tail _ (List.Mem.head _)))))))))) (List.Mem.tail _ (List.Mem.tail _ (List.Mem.tail _ (List.Mem.tail _ (List.Mem.tail _ (List.Mem.tail _ (List.Mem.tail _ (List.Mem.head _))))))))) (List.Mem.tail _ (List.Mem.tail _ (List.Mem.tail _ (List.Mem.tail _ (List.Mem.tail _ (List.Mem.tail _ (List.Mem.head _)))))))) (List.Mem.tail _ (List.Mem.tail _ (List.Mem.tail _ (List.Mem.tail _ (List.Mem.tail _ (List.Mem.head _))))))), S, hz51, hz63, hv67, hv72, hz89⟩
    rintro σ' H101 ⟨t100, t98, z89, t92, t95, rfl, W, S, hz51, hz63, hv67, hv72, hz89⟩
    refine ⟨fun σ' H' => ∃ t113 : Addr, ∃ t111 : Addr, ∃ z102 : Addr, ∃ t105 : Addr, ∃ t108 : Addr, σ' = [some (.ref a), some (.ref (p : Addr)), some (.ref t1), some (.ref t8), some (.ref t15), some (.ref t22), some (.ref t29), some (.ref t36), some (.ref z51), some (.ref z63), some (v67), some (v72), some (.ref t77), some (.ref t79), some (.ref t81), some (.ref t83), some (.ref t113), none] ∧ Wd p [(t1, .tup [.int n2, .int m3]), (t8, .tup [.int n9, .int m10]), (t15, .tup [.int n16, .int m17]), (t22, .tup [.int n23, .int m24]), (t29, .tup [.int n30, .int m31]), (t36, .tup [.int n37, .int m38]), (t77, .tup [.int (-n16), .int m17]), (t79, .tup [.int (-n23), .int m24]), (t81, .tup [.int (-n2), .int m3]), (t83, .tup [.int (-n9), .int m10]), (t113, .lst [.ref t85, .ref t86, .ref t98, .ref t111]), (t85, .tup [.ref z51, .ref t1, .ref t8]), (t86, .tup [.ref z63, .ref t15, .ref t22]), (t98, .tup [.ref z89, .ref t92, .ref t95]), (t92, .tup [.int ((n2 * m17) + (n16 * m3)), .int (m3 * m17)]), (t95, .tup [.int ((n9 * m24) + (n23 * m10)), .int (m10 * m24)]), (t111, .tup [.ref z102, .ref t105, .ref t108]), (t105, .tup [.int ((n2 * m17) + (n16 * m3)), .int (m3 * m17)]), (t108, .tup [.int ((n9 * m24) + (n23 * m10)), .int (m10 * m24)])] H' ∧ Keeps HP H' p.p ∧ LinQ C D H' z51 n2 m3 n9 m10 ∧ LinQ C D H' z63 n16 m17 n23 m24 ∧ NumQ C H' v67 n30 m31 ∧ NumQ C H' v72 n37 m38 ∧ LinQ C D H' z89 ((n2 * m17) + (n16 * m3)) (m3 * m17) ((n9 * m24) + (n23 * m10)) (m10 * m24) ∧ LinQ C D H' z102 ((n16 * m3) + (n2 * m17)) (m17 * m3) ((n23 * m10) + (n9 * m24)) (m24 * m10), ?_, ?_⟩
    · skip
      refine ⟨_, rfl, _, rfl, _, rfl, lop_add hz63 hz51 (Sq.of (b := 210) pm17 bn16 bm17 (by decide)) (Sq.of (b := 210) pm24 bn23 bm24 (by decide)) (Sq.of (b := 210) pm3 bn2 bm3 (by decide)) (Sq.of (b := 210) pm10 bn9 bm10 (by decide)) fun z102 H103 s104 hz102 => ?_⟩
      have hz51 := hz51.same s104
      have hz63 := hz63.same s104
      have hv67 := hv67.same s104
      have hv72 := hv72.same s104
      have hz89 := hz89.same s104
      have W := W.same s104
      have S := S.trans (same_keeps s104)
      refine ⟨_, rfl, _, rfl, t1, t15, n2, m3, n16, m17, rfl, (W.at (List.Mem.head _)), (W.at (List.Mem.tail _ (List.Mem.tail _ (List.Mem.head _)))), (ub bn2 (by decide)), (ub bm3 (by decide)), (ub bn16 (by decide)), (ub bm17 (by decide)), fun t105 H106 s107 ht105 => ?_⟩
      have hz51 := hz51.same s107
      have hz63 := hz63.same s107
      have hv67 := hv67.same s107
      have hv72 := hv72.same s107
      have hz89 := hz89.same s107
      have hz102 := hz102.same s107
      have W := W.same s107
      have S := S.trans (same_keeps s107)
      have W := W.got ht105 (by intro _ z; cases z)
      refine ⟨_, rfl, _, rfl, t8, t22, n9, m10, n23, m24, rfl, (W.at (List.Mem.tail _ (List.Mem.tail _ (List.Mem.head _)))), (W.at (List.Mem.tail _ (List.Mem.tail _ (List.Mem.tail _ (List.Mem.tail _ (List.Mem.head _)))))), (ub bn9 (by decide)), (ub bm10 (by decide)), (ub bn23 (by decide)), (ub bm24 (by decide)), fun t108 H109 s110 ht108 => ?_⟩
      have hz51 := hz51.same s110
      have hz63 := hz63.same s110
      have hv67 := hv67.same s110
      have hv72 := hv72.same s110
      have hz89 := hz89.same s110
      have hz102 := hz102.same s110
      have W := W.same s110
      have S := S.trans (same_keeps s110)
      have W := W.got ht108 (by intro _ z; cases z)
      refine ⟨(by show 3 ≤ sizeLine; decide), fun t111 ht111 => ?_⟩
      have W := W.new (o := .tup [.ref z102, .ref t105, .ref t108]) ht111
      have hz51 := hz51.same (same_upd (o := .tup [.ref z102, .ref t105, .ref t108]) ht111)
      have hz63 := hz63.same (same_upd (o := .tup [.ref z102, .ref t105, .ref t108]) ht111)
      have hv67 := hv67.same (same_upd (o := .tup [.ref z102, .ref t105, .ref t108]) ht111)
      have hv72 := hv72.same (same_upd (o := .tup [.ref z102, .ref t105, .ref t108]) ht111)
      have hz89 := hz89.same (same_upd (o := .tup [.ref z102, .ref t105, .ref t108]) ht111)
      have hz102 := hz102.same (same_upd (o := .tup [.ref z102, .ref t105, .ref t108]) ht111)
      have S := S.trans (same_keeps (same_upd (o := .tup [.ref z102, .ref t105, .ref t108]) ht111))
      refine ⟨(by show 1 ≤ sizeLine; decide), fun t112 ht112 => ?_⟩
      have W := W.new (o := .lst [.ref t111]) ht112
      have hz51 := hz51.same (same_upd (o := .lst [.ref t111]) ht112)
      have hz63 := hz63.same (same_upd (o := .lst [.ref t111]) ht112)
      have hv67 := hv67.same (same_upd (o := .lst [.ref t111]) ht112)
      have hv72 := hv72.same (same_upd (o := .lst [.ref t111]) ht112)
      have hz89 := hz89.same (same_upd (o := .lst [.ref t111]) ht112)
      have hz102 := hz102.same (same_upd (o := .lst [.ref t111]) ht112)
      have S := S.trans (same_keeps (same_upd (o := .lst [.ref t111]) ht112))
      refine ⟨t100, t112, _, _, rfl, rfl, (W.at (List.Mem.tail _ (List.Mem.tail _ (List.Mem.tail _ (List.Mem.tail _ (List.Mem.tail _ (List.Mem.tail _ (List.Mem.tail _ (List.Mem.tail _ (List.Mem.tail _ (List.Mem.tail _ (List.Mem.tail _ (List.Mem.tail _ (List.Mem.tail _ (List.Mem.tail _ (List.Mem.head _)))))))))))))))), (W.at (List.Mem.head _)), (by show 4 ≤ sizeLine; decide), fun t113 ht113 => ?_⟩
      have W := W.new (o := .lst [.ref t85, .ref t86, .ref t98, .ref t111]) ht113
      have hz51 := hz51.same (same_upd (o := .lst [.ref t85, .ref t86, .ref t98, .ref t111]) ht113)
      have hz63 := hz63.same (same_upd (o := .lst [.ref t85, .ref t86, .ref t98, .ref t111]) ht113)
      have hv67 := hv67.same (same_upd (o := .lst [.ref t85, .ref t86, .ref t98, .ref t111]) ht113)
      have hv72 := hv72.same (same_upd (o := .lst [.ref t85, .ref t86, .ref t98, .ref t111]) ht113)
      have hz89 := hz89.same (same_upd (o := .lst [.ref t85, .ref t86, .ref t98, .ref t111]) ht113)
      have hz102 := hz102.same (same_upd (o := .lst [.ref t85, .ref t86, .ref t98, .ref t111]) ht113)
      have S := S.trans (same_keeps (same_upd (o := .lst [.ref t85, .ref t86, .ref t98, .ref t111]) ht113))
      exact ⟨t113, t111, z102, t105, t108, rfl, (W.pick (W.pick (W.pick (W.pick (W.pick (W.pick (W.pick (W.pick (W.pick (W.pick (W.pick (W.pick (W.pick (W.pick (W.pick (W.pick (W.pick (W.pick (W.pick (Wd.nil W.P) (List.Mem.tail _ (List.Mem.tail _ (List.Mem.tail _ (List.Mem.head _))))) (List.Mem.tail _ (List.Mem.tail _ (List.Mem.tail _ (List.Mem.tail _ (List.Mem.head _)))))) (List.Mem.tail _ (List.Mem.tail _ (List.Mem.head _)))) (List.Mem.tail _ (List.Mem.tail _ (List.Mem.tail _ (List.Mem.tail _ (List.Mem.tail _ (List.Mem.tail _ (List.Mem.tail _ (List.Mem.tail _ (List.Mem.tail _ (List.Mem.tail _ (List.Mem.tail _ (List.Mem.tail _ (List.Mem.tail _ (List.Mem.tail _ (List.Mem.tail _ (List.Mem.tail _ (List.Mem.tail _ (List.Mem.tail _ (List.Mem.tail _ (List.Mem.tail _ (List.Mem.head _)))))))))))))))))))))) (List.Mem.tail _ (List.Mem.tail _ (List.Mem.tail _ (List.Mem.tail _ (List.Mem.tail _ (List.Mem.tail _ (List.Mem.tail _ (List.Mem.tail _ (List.Mem.tail _ (List.Mem.tail _ (List.Mem.tail _ (List.Mem.tail _ (List.Mem.tail _ (List.Mem.tail _ (List.Mem.tail _ (List.Mem.tail _ (List.Mem.tail _ (List.Mem.tail _ (List.Mem.tail _ (List.Mem.head _))))))))))))))))))))) (List.Mem.tail _ (List.Mem.tail _ (List.Mem.tail _ (List.Mem.tail _ (List.Mem.tail _ (List.Mem.tail _ (List.Mem.tail _ (List.Mem.tail _ (List.Mem.tail _ (List.Mem.tail _ (List.Mem.tail _ (List.Mem.tail _ (List.Mem.tail _ (List.Mem.tail _ (List.Mem.tail _ (List.Mem.tail _ (List.Mem.tail _ (List.Mem.tail _ (List.Mem.head _)))))))))))))))))))) (List.Mem.tail _ (List.Mem.tail _ (List.Mem.tail _ (List.Mem.tail _ (List.Mem.tail _ (List.Mem.tail _ (List.Mem.tail _ (List.Mem.tail _ (List.Mem.tail _ (List.Mem.tail _ (List.Mem.tail _ (List.Mem.tail _ (List.Mem.tail _ (List.Mem.tail _ (List.Mem.tail _ (List.Mem.tail _ (List.Mem.tail _ (List.Mem.head _))))))))))))))))))) (List.Mem.tail _ (List.Mem.tail _ (List.Mem.tail _ (List.Mem.tail _ (List.Mem.tail _ (List.Mem.tail _ (List.Mem.tail _ (List.Mem.tail _ (List.Mem.tail _ (List.Mem.tail _ (List.Mem.tail _ (List.Mem.tail _ (List.Mem.tail _ (List.Mem.tail _ (List.Mem.tail _ (List.Mem.tail _ (List.Mem.head _)))))))))))))))))) (List.Mem.head _)) (List.Mem.tail _ (List.Mem.tail _ (List.Mem.tail _ (List.Mem.tail _ (List.Mem.tail _ (List.Mem.tail _ (List.Mem.tail _ (List.Mem.tail _ (List.Mem.tail _ (List.Mem.tail _ (List.Mem.tail _ (List.Mem.tail _ (List.Mem.tail _ (List.Mem.tail _ (List.Mem.head _)))))))))))))))) (List.Mem.tail _ (List.Mem.tail _ (List.Mem.tail _ (List.Mem.tail _ (List.Mem.tail _ (List.Mem.tail _ (List.Mem.tail _ (List.Mem.tail _ (List.Mem.tail _ (List.Mem.tail _ (List.Mem.tail _ (List.Mem.tail _ (List.Mem.tail _ (List.Mem.head _))))))))))))))) (List.Mem.tail _ (List.Mem.tail _ (List.Mem.tail _ (List.Mem.tail _ (List.Mem.tail _ (List.Mem.tail _ (List.Mem.tail _ (List.Mem.tail _ (List.Mem.tail _ (List.Mem.tail _ (List.Mem.tail _ (List.Mem.tail _ (List.Mem.head _)))))))))))))) (List.Mem.tail _ (List.Mem.tail _ (List.Mem.tail _ (List.Mem.tail _ (List.Mem.tail _ (List.Mem.tail _ (List.Mem.tail _ (List.Mem.tail _ (List.Mem.tail _ (List.Mem.tail _ (List.Mem.tail _ (List.Mem.head _))))))))))))) (List.Mem.tail _ (List.Mem.tail _ (List.Mem.tail _ (List.Mem.tail _ (List.Mem.tail _ (List.Mem.tail _ (List.Mem.tail _ (List.Mem.tail _ (List.Mem.tail _ (List.Mem.tail _ (List.Mem.head _)))))))))))) (List.Mem.tail _ (List.Mem.tail _ (List.Mem.tail _ (List.Mem.tail _ (List.Mem.tail _ (List.Mem.tail _ (List.Mem.tail _ (List.Mem.tail _ (List.Mem.tail _ (List.Mem.head _))))))))))) (List.Mem.tail _ (List.Mem.tail _ (List.Mem.tail _ (List.Mem.tail _ (List.Mem.tail _ (List.Mem.tail _ (List.Mem.tail _ (List.Mem.tail _ (List.Mem.head _)))))))))) (List.Mem.tail _ (List.Mem.tail _ (List.Mem.tail _ (List.Mem.tail _ (List.Mem.tail _ (List.Mem.tail _ (List.Mem.tail _ (List.Mem.head _))))))))) (List.Mem.tail _ (List.Mem.tail _ (List.Mem.tail _ (List.Mem.tail _ (List.Mem.tail _ (List.Mem.tail _ (List.Mem.head _)))))))) (List.Mem.tail _ (List.Mem.tail _ (List.Mem.tail _ (List.Mem.tail _ (List.Mem.tail _ (List.Mem.head _))))))), S, hz51, hz63, hv67, hv72, hz89, hz102⟩
    rintro σ' H114 ⟨t113, t111, z102, t105, t108, rfl, W, S, hz51, hz63, hv67, hv72, hz89, hz102⟩
    refine ⟨fun σ' H' => ∃ t126 : Addr, ∃ t124 : Addr, ∃ z115 : Addr, ∃ t118 : Addr, ∃ t121 : Addr, σ' = [some (.ref a), some (.ref (p : Addr)), some (.ref t1), some (.ref t8), some (.ref t15), some (.ref t22), some (.ref t29), some (.ref t36), some (.ref z51), some (.ref z63), some (v67), some (v72), some (.ref t77), some (.ref t79), some (.ref t81), some (.ref t83), some (.ref t126), none] ∧ Wd p [(t1, .tup [.int n2, .int m3]), (t8, .tup [.int n9, .int m10]), (t15, .tup [.int n16, .int m17]), (t22, .tup [.int n23, .int m24]), (t29, .tup [.int n30, .int m31]), (t36, .tup [.int n37, .int m38]), (t77, .tup [.int (-n16), .int m17]), (t79, .tup [.int (-n23), .int m24]), (t81, .tup [.int (-n2), .int m3]), (t83, .tup [.int (-n9), .int m10]), (t126, .lst [.ref t85, .ref t86, .ref t98, .ref t111, .ref t124]), (t85, .tup [.ref z51, .ref t1, .ref t8]), (t86, .tup [.ref z63, .ref t15, .ref t22]), (t98, .tup [.ref z89, .ref t92, .ref t95]), (t92, .tup [.int ((n2 * m17) + (n16 * m3)), .int (m3 * m17)]), (t95, .tup [.int ((n9 * m24) + (n23 * m10)), .int (m10 * m24)]), (t111, .tup [.ref z102, .ref t105, .ref t108]), (t105, .tup [.int ((n2 * m17) + (n16 * m3)), .int (m3 * m17)]), (t108, .tup [.int ((n9 * m24) + (n23 * m10)), .int (m10 * m24)]), (t124, .tup [.ref z115, .ref t118, .ref t121]), (t118, .tup [.int ((n2 * m17) + ((-n16) * m3)), .int (m3 * m17)]), (t121, .tup [.int ((n9 * m24) + ((-n23) * m10)), .int (m10 * m24)])] H' ∧ Keeps HP H' p.p ∧ LinQ C D H' z51 n2 m3 n9 m10 ∧ LinQ C D H' z63 n16 m17 n23 m24 ∧ NumQ C H' v67 n30 m31 ∧ NumQ C H' v72 n37 m38 ∧ LinQ C D H' z89 ((n2 * m17) + (n16 * m3)) (m3 * m17) ((n9 * m24) + (n23 * m10)) (m10 * m24) ∧ LinQ C D H' z102 ((n16 * m3) + (n2 * m17)) (m17 * m3) ((n23 * m10) + (n9 * m24)) (m24 * m10) ∧ LinQ C D H' z115 ((n2 * m17) + ((-n16) * m3)) (m3 * m17) ((n9 * m24) + ((-n23) * m10)) (m10 * m24), ?_, ?_⟩
    · skip
      refine ⟨_, rfl, _, rfl, _, rfl, lop_sub hz51 hz63 (Sq.of (b := 210) pm3 bn2 bm3 (by decide)) (Sq.of (b := 210) pm10 bn9 bm10 (by decide)) (Sq.of (b := 210) pm17 bn16 bm17 (by decide)) (Sq.of (b := 210) pm24 bn23 bm24 (by decide)) fun z115 H116 s117 hz115 => ?_⟩
      have hz51 := hz51.same s117
      have hz63 := hz63.same s117
      have hv67 := hv67.same s117
      have hv72 := hv72.same s117
      have hz89 := hz89.same s117
      have hz102 := hz102.same s117
      have W := W.same s117
      have S := S.trans (same_keeps s117)
      refine ⟨_, rfl, _, rfl, t1, t77, n2, m3, (-n16), m17, rfl, (W.at (List.Mem.head _)), (W.at (List.Mem.tail _ (List.Mem.tail _ (List.Mem.tail _ (List.Mem.tail _ (List.Mem.tail _ (List.Mem.tail _ (List.Mem.head _)))))))), (ub bn2 (by decide)), (ub bm3 (by decide)), (ub (bn bn16) (by decide)), (ub bm17 (by decide)), fun t118 H119 s120 ht118 => ?_⟩
      have hz51 := hz51.same s120
      have hz63 := hz63.same s120
      have hv67 := hv67.same s120
      have hv72 := hv72.same s120
      have hz89 := hz89.same s120
      have hz102 := hz102.same s120
      have hz115 := hz115.same s120
      have W := W.same s120
      have S := S.trans (same_keeps s120)
      have W := W.got ht118 (by intro _ z; cases z)
      refine ⟨_, rfl, _, rfl, t8, t79, n9, m10, (-n23), m24, rfl, (W.at (List.Mem.tail _ (List.Mem.tail _ (List.Mem.head _)))), (W.at (List.Mem.tail _ (List.Mem.tail _ (List.Mem.tail _ (List.Mem.tail _ (List.Mem.tail _ (List.Mem.tail _ (List.Mem.tail _ (List.Mem.tail _ (List.Mem.head _)))))))))), (ub bn9 (by decide)), (ub bm10 (by decide)), (ub (bn bn23) (by decide)), (ub bm24 (by decide)), fun t121 H122 s123 ht121 => ?_⟩
      have hz51 := hz51.same s123
      have hz63 := hz63.same s123
      have hv67 := hv67.same s123
      have hv72 := hv72.same s123
      have hz89 := hz89.same s123
      have hz102 := hz102.same s123
      have hz115 := hz115.same s123
      have W := W.same s123
      have S := S.trans (same_keeps s123)
      have W := W.got ht121 (by intro _ z; cases z)
      refine ⟨(by show 3 ≤ sizeLine; decide), fun t124 ht124 => ?_⟩
      have W := W.new (o := .tup [.ref z115, .ref t118, .ref t121]) ht124
      have hz51 := hz51.same (same_upd (o := .tup [.ref z115, .ref t118, .ref t121]) ht124)
      have hz63 := hz63.same (same_upd (o := .tup [.ref z115, .ref t118, .ref t121]) ht124)
      have hv67 := hv67.same (same_upd (o := .tup [.ref z115, .ref t118, .ref t121]) ht124)
      have hv72 := hv72.same (same_upd (o := .tup [.ref z115, .ref t118, .ref t121]) ht124)
      have hz89 := hz89.same (same_upd (o := .tup [.ref z115, .ref t118, .ref t121]) ht124)
      have hz102 := hz102.same (same_upd (o := .tup [.ref z115, .ref t118, .ref t121]) ht124)
      have hz115 := hz115.same (same_upd (o := .tup [.ref z115, .ref t118, .ref t121]) ht124)
      have S := S.trans (same_keeps (same_upd (o := .tup [.ref z115, .ref t118, .ref t121]) ht124))
      refine ⟨(by show 1 ≤ sizeLine; decide), fun t125 ht125 => ?_⟩
      have W := W.new (o := .lst [.ref t124]) ht125
      have hz51 := hz51.same (same_upd (o := .lst [.ref t124]) ht125)
      have hz63 := hz63.same (same_upd (o := .lst [.ref t124]) ht125)
      have hv67 := hv67.same (same_upd (o := .lst [.ref t124]) ht125)
      have hv72 := hv72.same (same_upd (o := .lst [.ref t124]) ht125)
      have hz89 := hz89.same (same_upd (o := .lst [.ref t124]) ht125)
      have hz102 := hz102.same (same_upd (o := .lst [.ref t124]) ht125)
      have hz115 := hz115.same (same_upd (o := .lst [.ref t124]) ht125)
      have S := S.trans (same_keeps (same_upd (o := .lst [.ref t124]) ht125))
      refine ⟨t113, t125, _, _, rfl, rfl, (W.at (List.Mem.tail _ (List.Mem.tail _ (List.Mem.tail _ (List.Mem.tail _ (List.Mem.tail _ (List.Mem.tail _ (List.Mem.tail _ (List.Mem.tail _ (List.Mem.tail _ (List.Mem.tail _ (List.Mem.tail _ (List.Mem.tail _ (List.Mem.tail _ (List.Mem.tail _ (List.Mem.head _)))))))))))))))), (W.at (List.Mem.head _)), (by show 5 ≤ sizeLine; decide), fun t126 ht126 => ?_⟩
      have W := W.new (o := .lst [.ref t85, .ref t86, .ref t98, .ref t111, .ref t124]) ht126
      have hz51 := hz51.same (same_upd (o := .lst [.ref t85, .ref t86, .ref t98, .ref t111, .ref t124]) ht126)
      have hz63 := hz63.same (same_upd (o := .lst [.ref t85, .ref t86, .ref t98, .ref t111, .ref t124]) ht126)
      have hv67 := hv67.same (same_upd (o := .lst [.ref t85, .ref t86, .ref t98, .ref t111, .ref t124]) ht126)
      have hv72 := hv72.same (same_upd (o := .lst [.ref t85, .ref t86, .ref t98, .ref t111, .ref t124]) ht126)
      have hz89 := hz89.same (same_upd (o := .lst [.ref t85, .ref t86, .ref t98, .ref t111, .ref t124]) ht126)
      have hz102 := hz102.same (same_upd (o := .lst [.ref t85, .ref t86, .ref t98, .ref t111, .ref t124]) ht126)
      have hz115 := hz115.same (same_upd (o := .lst [.ref t85, .ref t86, .ref t98, .ref t111, .ref t124]) ht126)
      have S := S.trans (same_keeps (same_upd (o := .lst [.ref t85, .ref t86, .ref t98, .ref t111, .ref t124]) ht126))
      exact ⟨t126, t124, z115, t118, t121, rfl, (W.pick (W.pick (W.pick (W.pick (W.pick (W.pick (W.pick (W.pick (W.pick (W.pick (W.pick (W.pick (W.pick (W.pick (W.pick (W.pick (W.pick (W.pick (W.pick (W.pick (W.pick (W.pick (Wd.nil W.P) (List.Mem.tail _ (List.Mem.tail _ (List.Mem.tail _ (List.Mem.head _))))) (List.Mem.tail _ (List.Mem.tail _ (List.Mem.tail _ (List.Mem.tail _ (List.Mem.head _)))))) (List.Mem.tail _ (List.Mem.tail _ (List.Mem.head _)))) (List.Mem.tail _ (List.Mem.tail _ (List.Mem.tail _ (List.Mem.tail _ (List.Mem.tail _ (List.Mem.tail _ (List.Mem.tail _ (List.Mem.tail _ (List.Mem.tail _ (List.Mem.tail _ (List.Mem.tail _ (List.Mem.tail _ (List.Mem.tail _ (List.Mem.tail _ (List.Mem.tail _ (List.Mem.tail _ (List.Mem.tail _ (List.Mem.tail _ (List.Mem.tail _ (List.Mem.tail _ (List.Mem.tail _ (List.Mem.tail _ (List.Mem.tail _ (List.Mem.head _))))))))))))))))))))))))) (List.Mem.tail _ (List.Mem.tail _ (List.Mem.tail _ (List.Mem.tail _ (List.Mem.tail _ (List.Mem.tail _ (List.Mem.tail _ (List.Mem.tail _ (List.Mem.tail _ (List.Mem.tail _ (List.Mem.tail _ (List.Mem.tail _ (List.Mem.tail _ (List.Mem.tail _ (List.Mem.tail _ (List.Mem.tail _ (List.Mem.tail _ (List.Mem.tail _ (List.Mem.tail _ (List.Mem.tail _ (List.Mem.tail _ (List.Mem.tail _ (List.Mem.head _)))))))))))))))))))))))) (List.Mem.tail _ (List.Mem.tail _ (List.Mem.tail _ (List.Mem.tail _ (List.Mem.tail _ (List.Mem.tail _ (List.Mem.tail _ (List.Mem.tail _ (List.Mem.tail _ (List.Mem.tail _ (List.Mem.tail _ (List.Mem.tail _ (List.Mem.tail _ (List.Mem.tail _ (List.Mem.tail _ (List.Mem.tail _ (List.Mem.tail _ (List.Mem.tail _ (List.Mem.tail _ (List.Mem.tail _ (List.Mem.tail _ (List.Mem.head _))))))))))))))))))))))) (List.Mem.tail _ (List.Mem.tail _ (List.Mem.tail _ (List.Mem.tail _ (List.Mem.tail _ (List.Mem.tail _ (List.Mem.tail _ (List.Mem.tail _ (List.Mem.tail _ (List.Mem.tail _ (List.Mem.tail _ (List.Mem.tail _ (List.Mem.tail _ (List.Mem.tail _ (List.Mem.tail _ (List.Mem.tail _ (List.Mem.tail _ (List.Mem.tail _ (List.Mem.tail _ (List.Mem.tail _ (List.Mem.head _)))))))))))))))))))))) (List.Mem.tail _ (List.Mem.tail _ (List.Mem.tail _ (List.Mem.tail _ (List.Mem.tail _ (List.Mem.tail _ (List.Mem.tail _ (List.Mem.tail _ (List.Mem.tail _ (List.Mem.tail _ (List.Mem.tail _ (List.Mem.tail _ (List.Mem.tail _ (List.Mem.tail _ (List.Mem.tail _ (List.Mem.tail _ (List.Mem.tail _ (List.Mem.tail _ (List.Mem.tail _ (List.Mem.head _))))))))))))))))))))) (List.Mem.tail _ (List.Mem.tail _ (List.Mem.tail _ (List.Mem.tail _ (List.Mem.tail _ (List.Mem.tail _ (List.Mem.tail _ (List.Mem.tail _ (List.Mem.tail _ (List.Mem.tail _ (List.Mem.tail _ (List.Mem.tail _ (List.Mem.tail _ (List.Mem.tail _ (List.Mem.tail _ (List.Mem.tail _ (List.Mem.tail _ (List.Mem.tail _ (List.Mem.head _)))))))))))))))))))) (List.Mem.tail _ (List.Mem.tail _ (List.Mem.tail _ (List.Mem.tail _ (List.Mem.tail _ (List.Mem.tail _ (List.Mem.tail _ (List.Mem.tail _ (List.Mem.tail _ (List.Mem.tail _ (List.Mem.tail _ (List.Mem.tail _ (List.Mem.tail _ (List.Mem.tail _ (List.Mem.tail _ (List.Mem.tail _ (List.Mem.tail _ (List.Mem.head _))))))))))))))))))) (List.Mem.tail _ (List.Mem.tail _ (List.Mem.tail _ (List.Mem.tail _ (List.Mem.tail _ (List.Mem.tail _ (List.Mem.tail _ (List.Mem.tail _ (List.Mem.tail _ (List.Mem.tail _ (List.Mem.tail _ (List.Mem.tail _ (List.Mem.tail _ (List.Mem.tail _ (List.Mem.tail _ (List.Mem.tail _ (List.Mem.head _)))))))))))))))))) (List.Mem.head _)) (List.Mem.tail _ (List.Mem.tail _ (List.Mem.tail _ (List.Mem.tail _ (List.Mem.tail _ (List.Mem.tail _ (List.Mem.tail _ (List.Mem.tail _ (List.Mem.tail _ (List.Mem.tail _ (List.Mem.tail _ (List.Mem.tail _ (List.Mem.tail _ (List.Mem.tail _ (List.Mem.head _)))))))))))))))) (List.Mem.tail _ (List.Mem.tail _ (List.Mem.tail _ (List.Mem.tail _ (List.Mem.tail _ (List.Mem.tail _ (List.Mem.tail _ (List.Mem.tail _ (List.Mem.tail _ (List.Mem.tail _ (List.Mem.tail _ (List.Mem.tail _ (List.Mem.tail _ (List.Mem.head _))))))))))))))) (List.Mem.tail _ (List.Mem.tail _ (List.Mem.tail _ (List.Mem.tail _ (List.Mem.tail _ (List.Mem.tail _ (List.Mem.tail _ (List.Mem.tail _ (List.Mem.tail _ (List.Mem.tail _ (List.Mem.tail _ (List.Mem.tail _ (List.Mem.head _)))))))))))))) (List.Mem.tail _ (List.Mem.tail _ (List.Mem.tail _ (List.Mem.tail _ (List.Mem.tail _ (List.Mem.tail _ (List.Mem.tail _ (List.Mem.tail _ (List.Mem.tail _ (List.Mem.tail _ (List.Mem.tail _ (List.Mem.head _))))))))))))) (List.Mem.tail _ (List.Mem.tail _ (List.Mem.tail _ (List.Mem.tail _ (List.Mem.tail _ (List.Mem.tail _ (List.Mem.tail _ (List.Mem.tail _ (List.Mem.tail _ (List.Mem.tail _ (List.Mem.head _)))))))))))) (List.Mem.tail _ (List.Mem.tail _ (List.Mem.tail _ (List.Mem.tail _ (List.Mem.tail _ (List.Mem.tail _ (List.Mem.tail _ (List.Mem.tail _ (List.Mem.tail _ (List.Mem.head _))))))))))) (List.Mem.tail _ (List.Mem.tail _ (List.Mem.tail _ (List.Mem.tail _ (List.Mem.tail _ (List.Mem.tail _ (List.Mem.tail _ (List.Mem.tail _ (List.Mem.head _)))))))))) (List.Mem.tail _ (List.Mem.tail _ (List.Mem.tail _ (List.Mem.tail _ (List.Mem.tail _ (List.Mem.tail _ (List.Mem.tail _ (List.Mem.head _))))))))) (List.Mem.tail _ (List.Mem.tail _ (List.Mem.tail _ (List.Mem.tail _ (List.Mem.tail _ (List.Mem.tail _ (List.Mem.head _)))))))) (List.Mem.tail _ (List.Mem.tail _ (List.Mem.tail _ (List.Mem.tail _ (List.Mem.tail _ (List.Mem.head _))))))), S, hz51, hz63, hv67, hv72, hz89, hz102, hz115⟩
    rintro σ' H127 ⟨t126, t124, z115, t118, t121, rfl, W, S, hz51, hz63, hv67, hv72, hz89, hz102, hz115⟩
    refine ⟨fun σ' H' => ∃ t143 : Addr, ∃ t137 : Addr, ∃ t141 : Addr, ∃ z128 : Addr, ∃ t131 : Addr, ∃ t134 : Addr, ∃ z138 : Addr, σ' = [some (.ref a), some (.ref (p : Addr)), some (.ref t1), some (.ref t8), some (.ref t15), some (.ref t22), some (.ref t29), some (.ref t36), some (.ref z51), some (.ref z63), some (v67), some (v72), some (.ref t77), some (.ref t79), some (.ref t81), some (.ref t83), some (.ref t143), none] ∧ Wd p [(t1, .tup [.int n2, .int m3]), (t8, .tup [.int n9, .int m10]), (t15, .tup [.int n16, .int m17]), (t22, .tup [.int n23, .int m24]), (t29, .tup [.int n30, .int m31]), (t36, .tup [.int n37, .int m38]), (t77, .tup [.int (-n16), .int m17]), (t79, .tup [.int (-n23), .int m24]), (t81, .tup [.int (-n2), .int m3]), (t83, .tup [.int (-n9), .int m10]), (t143, .lst [.ref t85, .ref t86, .ref t98, .ref t111, .ref t124, .ref t137, .ref t141]), (t85, .tup [.ref z51, .ref t1, .ref t8]), (t86, .tup [.ref z63, .ref t15, .ref t22]), (t98, .tup [.ref z89, .ref t92, .ref t95]), (t92, .tup [.int ((n2 * m17) + (n16 * m3)), .int (m3 * m17)]), (t95, .tup [.int ((n9 * m24) + (n23 * m10)), .int (m10 * m24)]), (t111, .tup [.ref z102, .ref t105, .ref t108]), (t105, .tup [.int ((n2 * m17) + (n16 * m3)), .int (m3 * m17)]), (t108, .tup [.int ((n9 * m24) + (n23 * m10)), .int (m10 * m24)]), (t124, .tup [.ref z115, .ref t118, .ref t121]), (t118, .tup [.int ((n2 * m17) + ((-n16) * m3)), .int (m3 * m17)]), (t121, .tup [.int ((n9 * m24) + ((-n23) * m10)), .int (m10 * m24)]), (t137, .tup [.ref z128, .ref t131, .ref t134]), (t131, .tup [.int ((n16 * m3) + ((-n2) * m17)), .int (m17 * m3)]), (t134, .tup [.int ((n23 * m10) + ((-n9) * m24)), .int (m24 * m10)]), (t141, .tup [.ref z138, .ref t81, .ref t83])] H' ∧ Keeps HP H' p.p ∧ LinQ C D H' z51 n2 m3 n9 m10 ∧ LinQ C D H' z63 n16 m17 n23 m24 ∧ NumQ C H' v67 n30 m31 ∧ NumQ C H' v72 n37 m38 ∧ LinQ C D H' z89 ((n2 * m17) + (n16 * m3)) (m3 * m17) ((n9 * m24) + (n23 * m10)) (m10 * m24) ∧ LinQ C D H' z102 ((n16 * m3) + (n2 * m17)) (m17 * m3) ((n23 * m10) + (n9 * m24)) (m24 * m10) ∧ LinQ C D H' z115 ((n2 * m17) + ((-n16) * m3)) (m3 * m17) ((n9 * m24) + ((-n23) * m10)) (m10 * m24) ∧ LinQ C D H' z128 ((n16 * m3) + ((-n2) * m17)) (m17 * m3) ((n23 * m10) + ((-n9) * m24)) (m24 * m10) ∧ LinQ C D H' z138 (-n2) m3 (-n9) m10, ?_, ?_⟩
    · skip
      refine ⟨_, rfl, _, rfl, _, rfl, lop_sub hz63 hz51 (Sq.of (b := 210) pm17 bn16 bm17 (by decide)) (Sq.of (b := 210) pm24 bn23 bm24 (by decide)) (Sq.of (b := 210) pm3 bn2 bm3 (by decide)) (Sq.of (b := 210) pm10 bn9 bm10 (by decide)) fun z128 H129 s130 hz128 => ?_⟩
      have hz51 := hz51.same s130
      have hz63 := hz63.same s130
      have hv67 := hv67.same s130
      have hv72 := hv72.same s130
      have hz89 := hz89.same s130
      have hz102 := hz102.same s130
      have hz115 := hz115.same s130
      have W := W.same s130
      have S := S.trans (same_keeps s130)
      refine ⟨_, rfl, _, rfl, t15, t81, n16, m17, (-n2), m3, rfl, (W.at (List.Mem.tail _ (List.Mem.tail _ (List.Mem.head _)))), (W.at (List.Mem.tail _ (List.Mem.tail _ (List.Mem.tail _ (List.Mem.tail _ (List.Mem.tail _ (List.Mem.tail _ (List.Mem.tail _ (List.Mem.tail _ (List.Mem.head _)))))))))), (ub bn16 (by decide)), (ub bm17 (by decide)), (ub (bn bn2) (by decide)), (ub bm3 (by decide)), fun t131 H132 s133 ht131 => ?_⟩
      have hz51 := hz51.same s133
      have hz63 := hz63.same s133
      have hv67 := hv67.same s133
      have hv72 := hv72.same s133
      have hz89 := hz89.same s133
      have hz102 := hz102.same s133
      have hz115 := hz115.same s133
      have hz128 := hz128.same s133
      have W := W.same s133
      have S := S.trans (same_keeps s133)
      have W := W.got ht131 (by intro _ z; cases z)
      refine ⟨_, rfl, _, rfl, t22, t83, n23, m24, (-n9), m10, rfl, (W.at (List.Mem.tail _ (List.Mem.tail _ (List.Mem.tail _ (List.Mem.tail _ (List.Mem.head _)))))), (W.at (List.Mem.tail _ (List.Mem.tail _ (List.Mem.tail _ (List.Mem.tail _ (List.Mem.tail _ (List.Mem.tail _ (List.Mem.tail _ (List.Mem.tail _ (List.Mem.tail _ (List.Mem.tail _ (List.Mem.head _)))))))))))), (ub bn23 (by decide)), (ub bm24 (by decide)), (ub (bn bn9) (by decide)), (ub bm10 (by decide)), fun t134 H135 s136 ht134 => ?_⟩
      have hz51 := hz51.same s136
      have hz63 := hz63.same s136
      have hv67 := hv67.same s136
      have hv72 := hv72.same s136
      have hz89 := hz89.same s136
      have hz102 := hz102.same s136
      have hz115 := hz115.same s136
      have hz128 := hz128.same s136
      have W := W.same s136
      have S := S.trans (same_keeps s136)
      have W := W.got ht134 (by intro _ z; cases z)
      refine ⟨(by show 3 ≤ sizeLine; decide), fun t137 ht137 => ?_⟩
      have W := W.new (o := .tup [.ref z128, .ref t131, .ref t134]) ht137
      have hz51 := hz51.same (same_upd (o := .tup [.ref z128, .ref t131, .ref t134]) ht137)
      have hz63 := hz63.same (same_upd (o := .tup [.ref z128, .ref t131, .ref t134]) ht137)
      have hv67 := hv67.same (same_upd (o := .tup [.ref z128, .ref t131, .ref t134]) ht137)
      have hv72 := hv72.same (same_upd (o := .tup [.ref z128, .ref t131, .ref t134]) ht137)
      have hz89 := hz89.same (same_upd (o := .tup [.ref z128, .ref t131, .ref t134]) ht137)
      have hz102 := hz102.same (same_upd (o := .tup [.ref z128, .ref t131, .ref t134]) ht137)
      have hz115 := hz115.same (same_upd (o := .tup [.ref z128, .ref t131, .ref t134]) ht137)
      have hz128 := hz128.same (same_upd (o := .tup [.ref z128, .ref t131, .ref t134]) ht137)
      have S := S.trans (same_keeps (same_upd (o := .tup [.ref z128, .ref t131, .ref t134]) ht137))
      refine ⟨_, rfl, lop_neg hz51 (Sq.of (b := 210) pm3 bn2 bm3 (by decide)) (Sq.of (b := 210) pm10 bn9 bm10 (by decide)) fun z138 H139 s140 hz138 => ?_⟩
      have hz51 := hz51.same s140
      have hz63 := hz63.same s140
      have hv67 := hv67.same s140
      have hv72 := hv72.same s140
      have hz89 := hz89.same s140
      have hz102 := hz102.same s140
      have hz115 := hz115.same s140
      have hz128 := hz128.same s140
      have W := W.same s140
      have S := S.trans (same_keeps s140)
      refine ⟨_, rfl, _, rfl, (by show 3 ≤ sizeLine; decide), fun t141 ht141 => ?_⟩
      have W := W.new (o := .tup [.ref z138, .ref t81, .ref t83]) ht141
      have hz51 := hz51.same (same_upd (o := .tup [.ref z138, .ref t81, .ref t83]) ht141)
      have hz63 := hz63.same (same_upd (o := .tup [.ref z138, .ref t81, .ref t83]) ht141)
      have hv67 := hv67.same (same_upd (o := .tup [.ref z138, .ref t81, .ref t83]) ht141)
      have hv72 := hv72.same (same_upd (o := .tup [.ref z138, .ref t81, .ref t83]) ht141)
      have hz89 := hz89.same (same_upd (o := .tup [.ref z138, .ref t81, .ref t83]) ht141)
      have hz102 := hz102.same (same_upd (o := .tup [.ref z138, .ref t81, .ref t83]) ht141)
      have hz115 := hz115.same (same_upd (o := .tup [.ref z138, .ref t81, .ref t83]) ht141)
      have hz128 := hz128.same (same_upd (o := .tup [.ref z138, .ref t81, .ref t83]) ht141)
      have hz138 := hz138.same (same_upd (o := .tup [.ref z138, .ref t81, .ref t83]) ht141)
      have S := S.trans (same_keeps (same_upd (o := .tup [.ref z138, .ref t81, .ref t83]) ht141))
      refine ⟨(by show 2 ≤ sizeLine; decide), fun t142 ht142 => ?_⟩
      have W := W.new (o := .lst [.ref t137, .ref t141]) ht142
      have hz51 := hz51.same (same_upd (o := .lst [.ref t137, .ref t141]) ht142)
      have hz63 := hz63.same (same_upd (o := .lst [.ref t137, .ref t141]) ht142)
      have hv67 := hv67.same (same_upd (o := .lst [.ref t137, .ref t141]) ht142)
      have hv72 := hv72.same (same_upd (o := .lst [.ref t137, .ref t141]) ht142)
      have hz89 := hz89.same (same_upd (o := .lst [.ref t137, .ref t141]) ht142)
      have hz102 := hz102.same (same_upd (o := .lst [.ref t137, .ref t141]) ht142)
      have hz115 := hz115.same (same_upd (o := .lst [.ref t137, .ref t141]) ht142)
      have hz128 := hz128.same (same_upd (o := .lst [.ref t137, .ref t141]) ht142)
      have hz138 := hz138.same (same_upd (o := .lst [.ref t137, .ref t141]) ht142)
      have S := S.trans (same_keeps (same_upd (o := .lst [.ref t137, .ref t141]) ht142))
      refine ⟨t126, t142, _, _, rfl, rfl, (W.at (List.Mem.tail _ (List.Mem.tail _ (List.Mem.tail _ (List.Mem.tail _ (List.Mem.tail _ (List.Mem.tail _ (List.Mem.tail _ (List.Mem.tail _ (List.Mem.tail _ (List.Mem.tail _ (List.Mem.tail _ (List.Mem.tail _ (List.Mem.tail _ (List.Mem.tail _ (List.Mem.tail _ (List.Mem.head _))))))))))))))))), (W.at (List.Mem.head _)), (by show 7 ≤ sizeLine; decide), fun t143 ht143 => ?_⟩
      have W := W.new (o := .lst [.ref t85, .ref t86, .ref t98, .ref t111, .ref t124, .ref t137, .ref t141]) ht143
      have hz51 := hz51.same (same_upd (o := .lst [.ref t85, .ref t86, .ref t98, .ref t111, .ref t124, .ref t137, .ref t141]) ht143)
      have hz63 := hz63.same (same_upd (o := .lst [.ref t85, .ref t86, .ref t98, .ref t111, .ref t124, .ref t137, .ref t141]) ht143)
      have hv67 := hv67.same (same_upd (o := .lst [.ref t85, .ref t86, .ref t98, .ref t111, .ref t124, .ref t137, .ref t141]) ht143)
      have hv72 := hv72.same (same_upd (o := .lst [.ref t85, .ref t86, .ref t98, .ref t111, .ref t124, .ref t137, .ref t141]) ht143)
      have hz89 := hz89.same (same_upd (o := .lst [.ref t85, .ref t86, .ref t98, .ref t111, .ref t124, .ref t137, .ref t141]) ht143)
      have hz102 := hz102.same (same_upd (o := .lst [.ref t85, .ref t86, .ref t98, .ref t111, .ref t124, .ref t137, .ref t141]) ht143)
      have hz115 := hz115.same (same_upd (o := .lst [.ref t85, .ref t86, .ref t98, .ref t111, .ref t124, .ref t137, .ref t141]) ht143)
      have hz128 := hz128.same (same_upd (o := .lst [.ref t85, .ref t86, .ref t98, .ref t111, .ref t124, .ref t137, .ref t141]) ht143)
      have hz138 := hz138.same (same_upd (o := .lst [.ref t85, .ref t86, .ref t98, .ref t111, .ref t124, .ref t137, .ref t141]) ht143)
      have S := S.trans (same_keeps (same_upd (o := .lst [.ref t85, .ref t86, .ref t98, .ref t111, .ref t124, .ref t137, .ref t141]) ht143))
      exact ⟨t143, t137, t141, z128, t131, t134, z138, rfl, (W.pick (W.pick (W.pick (W.pick (W.pick (W.pick (W.pick (W.pick (W.pick (W.pick (W.pick (W.pick (W.pick (W.pick (W.pick (W.pick (W.pick (W.pick (W.pick (W.pick (W.pick (W.pick (W.pick (W.pick (W.pick (W.pick (Wd.nil W.P) (List.Mem.tail _ (List.Mem.tail _ (List.Mem.head _)))) (List.Mem.tail _ (List.Mem.tail _ (List.Mem.tail _ (List.Mem.tail _ (List.Mem.head _)))))) (List.Mem.tail _ (List.Mem.tail _ (List.Mem.tail _ (List.Mem.tail _ (List.Mem.tail _ (List.Mem.head _))))))) (List.Mem.tail _ (List.Mem.tail _ (List.Mem.tail _ (List.Mem.head _))))) (List.Mem.tail _ (List.Mem.tail _ (List.Mem.tail _ (List.Mem.tail _ (List.Mem.tail _ (List.Mem.tail _ (List.Mem.tail _ (List.Mem.tail _ (List.Mem.tail _ (List.Mem.tail _ (List.Mem.tail _ (List.Mem.tail _ (List.Mem.tail _ (List.Mem.tail _ (List.Mem.tail _ (List.Mem.tail _ (List.Mem.tail _ (List.Mem.tail _ (List.Mem.tail _ (List.Mem.tail _ (List.Mem.tail _ (List.Mem.tail _ (List.Mem.tail _ (List.Mem.tail _ (List.Mem.tail _ (List.Mem.tail _ (List.Mem.tail _ (List.Mem.head _))))))))))))))))))))))))))))) (List.Mem.tail _ (List.Mem.tail _ (List.Mem.tail _ (List.Mem.tail _ (List.Mem.tail _ (List.Mem.tail _ (List.Mem.tail _ (List.Mem.tail _ (List.Mem.tail _ (List.Mem.tail _ (List.Mem.tail _ (List.Mem.tail _ (List.Mem.tail _ (List.Mem.tail _ (List.Mem.tail _ (List.Mem.tail _ (List.Mem.tail _ (List.Mem.tail _ (List.Mem.tail _ (List.Mem.tail _ (List.Mem.tail _ (List.Mem.tail _ (List.Mem.tail _ (List.Mem.tail _ (List.Mem.tail _ (List.Mem.tail _ (List.Mem.head _)))))))))))))))))))))))))))) (List.Mem.tail _ (List.Mem.tail _ (List.Mem.tail _ (List.Mem.tail _ (List.Mem.tail _ (List.Mem.tail _ (List.Mem.tail _ (List.Mem.tail _ (List.Mem.tail _ (List.Mem.tail _ (List.Mem.tail _ (List.Mem.tail _ (List.Mem.tail _ (List.Mem.tail _ (List.Mem.tail _ (List.Mem.tail _ (List.Mem.tail _ (List.Mem.tail _ (List.Mem.tail _ (List.Mem.tail _ (List.Mem.tail _ (List.Mem.tail _ (List.Mem.tail _ (List.Mem.tail _ (List.Mem.tail _ (List.Mem.head _))))))))))))))))))))))))))) (List.Mem.tail _ (List.Mem.tail _ (List.Mem.tail _ (List.Mem.tail _ (List.Mem.tail _ (List.Mem.tail _ (List.Mem.tail _ (List.Mem.tail _ (List.Mem.tail _ (List.Mem.tail _ (List.Mem.tail _ (List.Mem.tail _ (List.Mem.tail _ (List.Mem.tail _ (List.Mem.tail _ (List.Mem.tail _ (List.Mem.tail _ (List.Mem.tail _ (List.Mem.tail _ (List.Mem.tail _ (List.Mem.tail _ (List.Mem.tail _ (List.Mem.tail _ (List.Mem.tail _ (List.Mem.head _)))))))))))))))))))))))))) (List.Mem.tail _ (List.Mem.tail _ (List.Mem.tail _ (List.Mem.tail _ (List.Mem.tail _ (List.Mem.tail _ (List.Mem.tail _ (List.Mem.tail _ (List.Mem.tail _ (List.Mem.tail _ (List.Mem.tail _ (List.Mem.tail _ (List.Mem.tail _ (List.Mem.tail _ (List.Mem.tail _ (List.Mem.tail _ (List.Mem.tail _ (List.Mem.tail _ (List.Mem.tail _ (List.Mem.tail _ (List.Mem.tail _ (List.Mem.tail _ (List.Mem.tail _ (List.Mem.head _))))))))))))))))))))))))) (List.Mem.tail _ (List.Mem.tail _ (List.Mem.tail _ (List.Mem.tail _ (List.Mem.tail _ (List.Mem.tail _ (List.Mem.tail _ (List.Mem.tail _ (List.Mem.tail _ (List.Mem.tail _ (List.Mem.tail _ (List.Mem.tail _ (List.Mem.tail _ (List.Mem.tail _ (List.Mem.tail _ (List.Mem.tail _ (List.Mem.tail _ (List.Mem.tail _ (List.Mem.tail _ (List.Mem.tail _ (List.Mem.tail _ (List.Mem.tail _ (List.Mem.head _)))))))))))))))))))))))) (List.Mem.tail _ (List.Mem.tail _ (List.Mem.tail _ (List.Mem.tail _ (List.Mem.tail _ (List.Mem.tail _ (List.Mem.tail _ (List.Mem.tail _ (List.Mem.tail _ (List.Mem.tail _ (List.Mem.tail _ (List.Mem.tail _ (List.Mem.tail _ (List.Mem.tail _ (List.Mem.tail _ (List.Mem.tail _ (List.Mem.tail _ (List.Mem.tail _ (List.Mem.tail _ (List.Mem.tail _ (List.Mem.tail _ (List.Mem.head _))))))))))))))))))))))) (List.Mem.tail _ (List.Mem.tail _ (List.Mem.tail _ (List.Mem.tail _ (List.Mem.tail _ (List.Mem.tail _ (List.Mem.tail _ (List.Mem.tail _ (List.Mem.tail _ (List.Mem.tail _ (List.Mem.tail _ (List.Mem.tail _ (List.Mem.tail _ (List.Mem.tail _ (List.Mem.tail _ (List.Mem.tail _ (List.Mem.tail _ (List.Mem.tail _ (List.Mem.tail _ (List.Mem.tail _ (List.Mem.head _)))))))))))))))))))))) (List.Mem.tail _ (List.Mem.tail _ (List.Mem.tail _ (List.Mem.tail _ (List.Mem.tail _ (List.Mem.tail _ (List.Mem.tail _ (List.Mem.tail _ (List.Mem.tail _ (List.Mem.tail _ (List.Mem.tail _ (List.Mem.tail _ (List.Mem.tail _ (List.Mem.tail _ (List.Mem.tail _ (List.Mem.tail _ (List.Mem.tail _ (List.Mem.tail _ (List.Mem.tail _ (List.Mem.head _))))))))))))))))))))) (List.Mem.tail _ (List.Mem.tail _ (List.Mem.tail _ (List.Mem.tail _ (List.Mem.tail _ (List.Mem.tail _ (List.Mem.tail _ (List.Mem.tail _ (List.Mem.tail _ (List.Mem.tail _ (List.Mem.tail _ (List.Mem.tail _ (List.Mem.tail _ (List.Mem.tail _ (List.Mem.tail _ (List.Mem.tail _ (List.Mem.tail _ (List.Mem.tail _ (List.Mem.head _)))))))))))))))))))) (List.Mem.tail _ (List.Mem.tail _ (List.Mem.tail _ (List.Mem.tail _ (List.Mem.tail _ (List.Mem.tail _ (List.Mem.tail _ (List.Mem.tail _ (List.Mem.tail _ (List.Mem.tail _ (List.Mem.tail _ (List.Mem.tail _ (List.Mem.tail _ (List.Mem.tail _ (List.Mem.tail _ (List.Mem.tail _ (List.Mem.tail _ (List.Mem.head _))))))))))))))))))) (List.Mem.head _)) (List.Mem.tail _ (List.Mem.tail _ (List.Mem.tail _ (List.Mem.tail _ (List.Mem.tail _ (List.Mem.tail _ (List.Mem.tail _ (List.Mem.tail _ (List.Mem.tail _ (List.Mem.tail _ (List.Mem.tail _ (List.Mem.tail _ (List.Mem.tail _ (List.Mem.tail _ (List.Mem.tail _ (List.Mem.head _))))))))))))))))) (List.Mem.tail _ (List.Mem.tail _ (List.Mem.tail _ (List.Mem.tail _ (List.Mem.tail _ (List.Mem.tail _ (List.Mem.tail _ (List.Mem.tail _ (List.Mem.tail _ (List.Mem.tail _ (List.Mem.tail _ (List.Mem.tail _ (List.Mem.tail _ (List.Mem.tail _ (List.Mem.head _)))))))))))))))) (List.Mem.tail _ (List.Mem.tail _ (List.Mem.tail _ (List.Mem.tail _ (List.Mem.tail _ (List.Mem.tail _ (List.Mem.tail _ (List.Mem.tail _ (List.Mem.tail _ (List.Mem.tail _ (List.Mem.tail _ (List.Mem.tail _ (List.Mem.tail _ (List.Mem.head _))))))))))))))) (List.Mem.tail _ (List.Mem.tail _ (List.Mem.tail _ (List.Mem.tail _ (List.Mem.tail _ (List.Mem.tail _ (List.Mem.tail _ (List.Mem.tail _ (List.Mem.tail _ (List.Mem.tail _ (List.Mem.tail _ (List.Mem.tail _ (List.Mem.head _)))))))))))))) (List.Mem.tail _ (List.Mem.tail _ (List.Mem.tail _ (List.Mem.tail _ (List.Mem.tail _ (List.Mem.tail _ (List.Mem.tail _ (List.Mem.tail _ (List.Mem.tail _ (List.Mem.tail _ (List.Mem.tail _ (List.Mem.head _))))))))))))) (List.Mem.tail _ (List.Mem.tail _ (List.Mem.tail _ (List.Mem.tail _ (List.Mem.tail _ (List.Mem.tail _ (List.Mem.tail _ (List.Mem.tail _ (List.Mem.tail _ (List.Mem.tail _ (List.Mem.head _)))))))))))) (List.Mem.tail _ (List.Mem.tail _ (List.Mem.tail _ (List.Mem.tail _ (List.Mem.tail _ (List.Mem.tail _ (List.Mem.tail _ (List.Mem.tail _ (List.Mem.tail _ (List.Mem.head _))))))))))) (List.Mem.tail _ (List.Mem.tail _ (List.Mem.tail _ (List.Mem.tail _ (List.Mem.tail _ (List.Mem.tail _ (List.Mem.tail _ (List.Mem.tail _ (List.Mem.head _)))))))))) (List.Mem.tail _ (List.Mem.tail _ (List.Mem.tail _ (List.Mem.tail _ (List.Mem.tail _ (List.Mem.tail _ (List.Mem.tail _ (List.Mem.head _))))))))) (List.Mem.tail _ (List.Mem.tail _ (List.Mem.tail _ (List.Mem.tail _ (List.Mem.tail _ (List.Mem.tail _ (List.Mem.head _)))))))), S, hz51, hz63, hv67, hv72, hz89, hz102, hz115, hz128, hz138⟩
    rintro σ' H144 ⟨t143, t137, t141, z128, t131, t134, z138, rfl, W, S, hz51, hz63, hv67, hv72, hz89, hz102, hz115, hz128, hz138⟩
    refine ⟨fun σ' H' => ∃ t156 : Addr, ∃ t154 : Addr, ∃ z145 : Addr, ∃ t148 : Addr, ∃ t151 : Addr, σ' = [some (.ref a), some (.ref (p : Addr)), some (.ref t1), some (.ref t8), some (.ref t15), some (.ref t22), some (.ref t29), some (.ref t36), some (.ref z51), some (.ref z63), some (v67), some (v72), some (.ref t77), some (.ref t79), some (.ref t81), some (.ref t83), some (.ref t156), none] ∧ Wd p [(t1, .tup [.int n2, .int m3]), (t8, .tup [.int n9, .int m10]), (t15, .tup [.int n16, .int m17]), (t22, .tup [.int n23, .int m24]), (t29, .tup [.int n30, .int m31]), (t36, .tup [.int n37, .int m38]), (t77, .tup [.int (-n16), .int m17]), (t79, .tup [.int (-n23), .int m24]), (t81, .tup [.int (-n2), .int m3]), (t83, .tup [.int (-n9), .int m10]), (t156, .lst [.ref t85, .ref t86, .ref t98, .ref t111, .ref t124, .ref t137, .ref t141, .ref t154]), (t85, .tup [.ref z51, .ref t1, .ref t8]), (t86, .tup [.ref z63, .ref t15, .ref t22]), (t98, .tup [.ref z89, .ref t92, .ref t95]), (t92, .tup [.int ((n2 * m17) + (n16 * m3)), .int (m3 * m17)]), (t95, .tup [.int ((n9 * m24) + (n23 * m10)), .int (m10 * m24)]), (t111, .tup [.ref z102, .ref t105, .ref t108]), (t105, .tup [.int ((n2 * m17) + (n16 * m3)), .int (m3 * m17)]), (t108, .tup [.int ((n9 * m24) + (n23 * m10)), .int (m10 * m24)]), (t124, .tup [.ref z115, .ref t118, .ref t121]), (t118, .tup [.int ((n2 * m17) + ((-n16) * m3)), .int (m3 * m17)]), (t121, .tup [.int ((n9 * m24) + ((-n23) * m10)), .int (m10 * m24)]), (t137, .tup [.ref z128, .ref t131, .ref t134]), (t131, .tup [.int ((n16 * m3) + ((-n2) * m17)), .int (m17 * m3)]), (t134, .tup [.int ((n23 * m10) + ((-n9) * m24)), .int (m24 * m10)]), (t141, .tup [.ref z138, .ref t81, .ref t83]), (t154, .tup [.ref z145, .ref t148, .ref t151]), (t148, .tup [.int (n2 * n30), .int (m3 * m31)]), (t151, .tup [.int (n9 * n30), .int (m10 * m31)])] H' ∧ Keeps HP H' p.p ∧ LinQ C D H' z51 n2 m3 n9 m10 ∧ LinQ C D H' z63 n16 m17 n23 m24 ∧ NumQ C H' v67 n30 m31 ∧ NumQ C H' v72 n37 m38 ∧ LinQ C D H' z89 ((n2 * m17) + (n16 * m3)) (m3 * m17) ((n9 * m24) + (n23 * m10)) (m10 * m24) ∧ LinQ C D H' z102 ((n16 * m3) + (n2 * m17)) (m17 * m3) ((n23 * m10) + (n9 * m24)) (m24 * m10) ∧ LinQ C D H' z115 ((n2 * m17) + ((-n16) * m3)) (m3 * m17) ((n9 * m24) + ((-n23) * m10)) (m10 * m24) ∧ LinQ C D H' z128 ((n16 * m3) + ((-n2) * m17)) (m17 * m3) ((n23 * m10) + ((-n9) * m24)) (m24 * m10) ∧ LinQ C D H' z138 (-n2) m3 (-n9) m10 ∧ LinQ C D H' z145 (n2 * n30) (m3 * m31) (n9 * n30) (m10 * m31), ?_, ?_⟩
    · skip
      refine ⟨_, rfl, _, rfl, _, rfl, lop_mul hz51 hv67 (Sq.of (b := 210) pm3 bn2 bm3 (by decide)) (Sq.of (b := 210) pm10 bn9 bm10 (by decide)) (Sq.of (b := 210) pm31 bn30 bm31 (by decide)) fun z145 H146 s147 hz145 => ?_⟩
      have hz51 := hz51.same s147
      have hz63 := hz63.same s147
      have hv67 := hv67.same s147
      have hv72 := hv72.same s147
      have hz89 := hz89.same s147
      have hz102 := hz102.same s147
      have hz115 := hz115.same s147
      have hz128 := hz128.same s147
      have hz138 := hz138.same s147
      have W := W.same s147
      have S := S.trans (same_keeps s147)
      refine ⟨_, rfl, _, rfl, t1, t29, n2, m3, n30, m31, rfl, (W.at (List.Mem.head _)), (W.at (List.Mem.tail _ (List.Mem.tail _ (List.Mem.tail _ (List.Mem.tail _ (List.Mem.head _)))))), (ub bn2 (by decide)), (ub bm3 (by decide)), (ub bn30 (by decide)), (ub bm31 (by decide)), fun t148 H149 s150 ht148 => ?_⟩
      have hz51 := hz51.same s150
      have hz63 := hz63.same s150
      have hv67 := hv67.same s150
      have hv72 := hv72.same s150
      have hz89 := hz89.same s150
      have hz102 := hz102.same s150
      have hz115 := hz115.same s150
      have hz128 := hz128.same s150
      have hz138 := hz138.same s150
      have hz145 := hz145.same s150
      have W := W.same s150
      have S := S.trans (same_keeps s150)
      have W := W.got ht148 (by intro _ z; cases z)
      refine ⟨_, rfl, _, rfl, t8, t29, n9, m10, n30, m31, rfl, (W.at (List.Mem.tail _ (List.Mem.tail _ (List.Mem.head _)))), (W.at (List.Mem.tail _ (List.Mem.tail _ (List.Mem.tail _ (List.Mem.tail _ (List.Mem.tail _ (List.Mem.head _))))))), (ub bn9 (by decide)), (ub bm10 (by decide)), (ub bn30 (by decide)), (ub bm31 (by decide)), fun t151 H152 s153 ht151 => ?_⟩
      have hz51 := hz51.same s153
      have hz63 := hz63.same s153
      have hv67 := hv67.same s153
      have hv72 := hv72.same s153
      have hz89 := hz89.same s153
      have hz102 := hz102.same s153
      have hz115 := hz115.same s153
      have hz128 := hz128.same s153
      have hz138 := hz138.same s153
      have hz145 := hz145.same s153
      have W := W.same s153
      have S := S.trans (same_keeps s153)
      have W := W.got ht151 (by intro _ z; cases z)
      refine ⟨(by show 3 ≤ sizeLine; decide), fun t154 ht154 => ?_⟩
      have W := W.new (o := .tup [.ref z145, .ref t148, .ref t151]) ht154
      have hz51 := hz51.same (same_upd (o := .tup [.ref z145, .ref t148, .ref t151]) ht154)
      have hz63 := hz63.same (same_upd (o := .tup [.ref z145, .ref t148, .ref t151]) ht154)
      have hv67 := hv67.same (same_upd (o := .tup [.ref z145, .ref t148, .ref t151]) ht154)
      have hv72 := hv72.same (same_upd (o := .tup [.ref z145, .ref t148, .ref t151]) ht154)
      have hz89 := hz89.same (same_upd (o := .tup [.ref z145, .ref t148, .ref t151]) ht154)
      have hz102 := hz102.same (same_upd (o := .tup [.ref z145, .ref t148, .ref t151]) ht154)
      have hz115 := hz115.same (same_upd (o := .tup [.ref z145, .ref t148, .ref t151]) ht154)
      have hz128 := hz128.same (same_upd (o := .tup [.ref z145, .ref t148, .ref t151]) ht154)
      have hz138 := hz138.same (same_upd (o := .tup [.ref z145, .ref t148, .ref t151]) ht154)
      have hz145 := hz145.same (same_upd (o := .tup [.ref z145, .ref t148, .ref t151]) ht154)
      have S := S.trans (same_keeps (same_upd (o := .tup [.ref z145, .ref t148, .ref t151]) ht154))
      refine ⟨(by show 1 ≤ sizeLine; decide), fun t155 ht155 => ?_⟩
      have W := W.new (o := .lst [.ref t154]) ht155
      have hz51 := hz51.same (same_upd (o := .lst [.ref t154]) ht155)
      have hz63 := hz63.same (same_upd (o := .lst [.ref t154]) ht155)
      have hv67 := hv67.same (same_upd (o := .lst [.ref t154]) ht155)
      have hv72 := hv72.same (same_upd (o := .lst [.ref t154]) ht155)
      have hz89 := hz89.same (same_upd (o := .lst [.ref t154]) ht155)
      have hz102 := hz102.same (same_upd (o := .lst [.ref t154]) ht155)
      have hz115 := hz115.same (same_upd (o := .lst [.ref t154]) ht155)
      have hz128 := hz128.same (same_upd (o := .lst [.ref t154]) ht155)
      have hz138 := hz138.same (same_upd (o := .lst [.ref t154]) ht155)
      have hz145 := hz145.same (same_upd (o := .lst [.ref t154]) ht155)
      have S := S.trans (same_keeps (same_upd (o := .lst [.ref t154]) ht155))
      refine ⟨t143, t155, _, _, rfl, rfl, (W.at (List.Mem.tail _ (List.Mem.tail _ (List.Mem.tail _ (List.Mem.tail _ (List.Mem.tail _ (List.Mem.tail _ (List.Mem.tail _ (List.Mem.tail _ (List.Mem.tail _ (List.Mem.tail _ (List.Mem.tail _ (List.Mem.tail _ (List.Mem.tail _ (List.Mem.tail _ (List.Mem.head _)))))))))))))))), (W.at (List.Mem.head _)), (by show 8 ≤ sizeLine; decide), fun t156 ht156 => ?_⟩
      have W := W.new (o := .lst [.ref t85, .ref t86, .ref t98, .ref t111, .ref t124, .ref t137, .ref t141, .ref t154]) ht156
      have hz51 := hz51.same (same_upd (o := .lst [.ref t85, .ref t86, .ref t98, .ref t111, .ref t124, .ref t137, .ref t141, .ref t154]) ht156)
      have hz63 := hz63.same (same_upd (o := .lst [.ref t85, .ref t86, .ref t98, .ref t111, .ref t124, .ref t137, .ref t141, .ref t154]) ht156)
      have hv67 := hv67.same (same_upd (o := .lst [.ref t85, .ref t86, .ref t98, .ref t111, .ref t124, .ref t137, .ref t141, .ref t154]) ht156)
      have hv72 := hv72.same (same_upd (o := .lst [.ref t85, .ref t86, .ref t98, .ref t111, .ref t124, .ref t137, .ref t141, .ref t154]) ht156)
      have hz89 := hz89.same (same_upd (o := .lst [.ref t85, .ref t86, .ref t98, .ref t111, .ref t124, .ref t137, .ref t141, .ref t154]) ht156)
      have hz102 := hz102.same (same_upd (o := .lst [.ref t85, .ref t86, .ref t98, .ref t111, .ref t124, .ref t137, .ref t141, .ref t154]) ht156)
      have hz115 := hz115.same (same_upd (o := .lst [.ref t85, .ref t86, .ref t98, .ref t111, .ref t124, .ref t137, .ref t141, .ref t154]) ht156)
      have hz128 := hz128.same (same_upd (o := .lst [.ref t85, .ref t86, .ref t98, .ref t111, .ref t124, .ref t137, .ref t141, .ref t154]) ht156)
      have hz138 := hz138.same (same_upd (o := .lst [.ref t85, .ref t86, .ref t98, .ref t111, .ref t124, .ref t137, .ref t141, .ref t154]) ht156)
      have hz145 := hz145.same (same_upd (o := .lst [.ref t85, .ref t86, .ref t98, .ref t111, .ref t124, .ref t137, .ref t141, .ref t154]) ht156)
      have S := S.trans (same_keeps (same_upd (o := .lst [.ref t85, .ref t86, .ref t98, .ref t111, .ref t124, .ref t137, .ref t141, .ref t154]) ht156))
      exact ⟨t156, t154, z145, t148, t151, rfl, (W.pick (W.pick (W.pick (W.pick (W.pick (W.pick (W.pick (W.pick (W.pick (W.pick (W.pick (W.pick (W.pick (W.pick (W.pick (W.pick (W.pick (W.pick (W.pick (W.pick (W.pick (W.pick (W.pick (W.pick (W.pick (W.pick (W.pick (W.pick (W.pick (Wd.nil W.P) (List.Mem.tail _ (List.Mem.tail _ (List.Mem.tail _ (List.Mem.head _))))) (List.Mem.tail _ (List.Mem.tail _ (List.Mem.tail _ (List.Mem.tail _ (List.Mem.head _)))))) (List.Mem.tail _ (List.Mem.tail _ (List.Mem.head _)))) (List.Mem.tail _ (List.Mem.tail _ (List.Mem.tail _ (List.Mem.tail _ (List.Mem.tail _ (List.Mem.tail _ (List.Mem.tail _ (List.Mem.tail _ (List.Mem.tail _ (List.Mem.tail _ (List.Mem.tail _ (List.Mem.tail _ (List.Mem.tail _ (List.Mem.tail _ (List.Mem.tail _ (List.Mem.tail _ (List.Mem.tail _ (List.Mem.tail _ (List.Mem.tail _ (List.Mem.tail _ (List.Mem.tail _ (List.Mem.tail _ (List.Mem.tail _ (List.Mem.tail _ (List.Mem.tail _ (List.Mem.tail _ (List.Mem.tail _ (List.Mem.tail _ (List.Mem.tail _ (List.Mem.tail _ (List.Mem.head _)))))))))))))))))))))))))))))))) (List.Mem.tail _ (List.Mem.tail _ (List.Mem.tail _ (List.Mem.tail _ (List.Mem.tail _ (List.Mem.tail _ (List.Mem.tail _ (List.Mem.tail _ (List.Mem.tail _ (List.Mem.tail _ (List.Mem.tail _ (List.Mem.tail _ (List.Mem.tail _ (List.Mem.tail _ (List.Mem.tail _ (List.Mem.tail _ (List.Mem.tail _ (List.Mem.tail _ (List.Mem.tail _ (List.Mem.tail _ (List.Mem.tail _ (List.Mem.tail _ (List.Mem.tail _ (List.Mem.tail _ (List.Mem.tail _ (List.Mem.tail _ (List.Mem.tail _ (List.Mem.tail _ (List.Mem.tail _ (List.Mem.head _))))))))))))))))))))))))))))))) (List.Mem.tail _ (List.Mem.tail _ (List.Mem.tail _ (List.Mem.tail _ (List.Mem.tail _ (List.Mem.tail _ (List.Mem.tail _ (List.Mem.tail _ (List.Mem.tail _ (List.Mem.tail _ (List.Mem.tail _ (List.Mem.tail _ (List.Mem.tail _ (List.Mem.tail _ (List.Mem.tail _ (List.Mem.tail _ (List.Mem.tail _ (List.Mem.tail _ (List.Mem.tail _ (List.Mem.tail _ (List.Mem.tail _ (List.Mem.tail _ (List.Mem.tail _ (List.Mem.tail _ (List.Mem.tail _ (List.Mem.tail _ (List.Mem.tail _ (List.Mem.tail _ (List.Mem.head _)))))))))))))))))))))))))))))) (List.Mem.tail _ (List.Mem.tail _ (List.Mem.tail _ (List.Mem.tail _ (List.Mem.tail _ (List.Mem.tail _ (List.Mem.tail _ (List.Mem.tail _ (List.Mem.tail _ (List.Mem.tail _ (List.Mem.tail _ (List.Mem.tail _ (List.Mem.tail _ (List.Mem.tail _ (List.Mem.tail _ (List.Mem.tail _ (List.Mem.tail _ (List.Mem.tail _ (List.Mem.tail _ (List.Mem.tail _ (List.Mem.tail _ (List.Mem.tail _ (List.Mem.tail _ (List.Mem.tail _ (List.Mem.tail _ (List.Mem.tail _ (List.Mem.tail _ (List.Mem.head _))))))))))))))))))))))))))))) (List.Mem.tail _ (List.Mem.tail _ (List.Mem.tail _ (List.Mem.tail _ (List.Mem.tail _ (List.Mem.tail _ (List.Mem.tail _ (List.Mem.tail _ (List.Mem.tail _ (List.Mem.tail _ (List.Mem.tail _ (List.Mem.tail _ (List.Mem.tail _ (List.Mem.tail _ (List.Mem.tail _ (List.Mem.tail _ (List.Mem.tail _ (List.Mem.tail _ (List.Mem.tail _ (List.Mem.tail _ (List.Mem.tail _ (List.Mem.tail _ (List.Mem.tail _ (List.Mem.tail _ (List.Mem.tail _ (List.Mem.tail _ (List.Mem.head _)))))))))))))))))))))))))))) (List.Mem.tail _ (List.Mem.tail _ (List.Mem.tail _ (List.Mem.tail _ (List.Mem.tail _ (List.Mem.tail _ (List.Mem.tail _ (List.Mem.tail _ (List.Mem.tail _ (List.Mem.tail _ (List.Mem.tail _ (List.Mem.tail _ (List.Mem.tail _ (List.Mem.tail _ (List.Mem.tail _ (List.Mem.tail _ (List.Mem.tail _ (List.Mem.tail _ (List.Mem.tail _ (List.Mem.tail _ (List.Mem.tail _ (List.Mem.tail _ (List.Mem.tail _ (List.Mem.tail _ (List.Mem.tail _ (List.Mem.head _))))))))))))))))))))))))))) (List.Mem.tail _ (List.Mem.tail _ (List.Mem.tail _ (List.Mem.tail _ (List.Mem.tail _ (List.Mem.tail _ (List.Mem.tail _ (List.Mem.tail _ (List.Mem.tail _ (List.Mem.tail _ (List.Mem.tail _ (List.Mem.tail _ (List.Mem.tail _ (List.Mem.tail _ (List.Mem.tail _ (List.Mem.tail _ (List.Mem.tail _ (List.Mem.tail _ (List.Mem.tail _ (List.Mem.tail _ (List.Mem.tail _ (List.Mem.tail _ (List.Mem.tail _ (List.Mem.tail _ (List.Mem.head _)))))))))))))))))))))))))) (List.Mem.tail _ (List.Mem.tail _ (List.Mem.tail _ (List.Mem.tail _ (List.Mem.tail _ (List.Mem.tail _ (List.Mem.tail _ (List.Mem.tail _ (List.Mem.tail _ (List.Mem.tail _ (List.Mem.tail _ (List.Mem.tail _ (List.Mem.tail _ (List.Mem.tail _ (List.Mem.tail _ (List.Mem.tail _ (List.Mem.tail _ (List.Mem.tail _ (List.Mem.tail _ (List.Mem.tail _ (List.Mem.tail _ (List.Mem.tail _ (List.Mem.tail _ (List.Mem.head _))))))))))))))))))))))))) (List.Mem.tail _ (List.Mem.tail _ (List.Mem.tail _ (List.Mem.tail _ (List.Mem.tail _ (List.Mem.tail _ (List.Mem.tail _ (List.Mem.tail _ (List.Mem.tail _ (List.Mem.tail _ (List.Mem.tail _ (List.Mem.tail _ (List.Mem.tail _ (List.Mem.tail _ (List.Mem.tail _ (List.Mem.tail _ (List.Mem.tail _ (List.Mem.tail _ (List.Mem.tail _ (List.Mem.tail _ (List.Mem.tail _ (List.Mem.tail _ (List.Mem.head _)))))))))))))))))))))))) (List.Mem.tail _ (List.Mem.tail _ (List.Mem.tail _ (List.Mem.tail _ (List.Mem.tail _ (List.Mem.tail _ (List.Mem.tail _ (List.Mem.tail _ (List.Mem.tail _ (List.Mem.tail _ (List.Mem.tail _ (List.Mem.tail _ (List.Mem.tail _ (List.Mem.tail _ (List.Mem.tail _ (List.Mem.tail _ (List.Mem.tail _ (List.Mem.tail _ (List.Mem.tail _ (List.Mem.tail _ (List.Mem.tail _ (List.Mem.head _))))))))))))))))))))))) (List.Mem.tail _ (List.Mem.tail _ (List.Mem.tail _ (List.Mem.tail _ (List.Mem.tail _ (List.Mem.tail _ (List.Mem.tail _ (List.Mem.tail _ (List.Mem.tail _ (List.Mem.tail _ (List.Mem.tail _ (List.Mem.tail _ (List.Mem.tail _ (List.Mem.tail _ (List.Mem.tail _ (List.Mem.tail _ (List.Mem.tail _ (List.Mem.tail _ (List.Mem.tail _ (List.Mem.tail _ (List.Mem.head _)))))))))))))))))))))) (List.Mem.tail _ (List.Mem.tail _ (List.Mem.tail _ (List.Mem.tail _ (List.Mem.tail _ (List.Mem.tail _ (List.Mem.tail _ (List.Mem.tail _ (List.Mem.tail _ (List.Mem.tail _ (List.Mem.tail _ (List.Mem.tail _ (List.Mem.tail _ (List.Mem.tail _ (List.Mem.tail _ (List.Mem.tail _ (List.Mem.tail _ (List.Mem.tail _ (List.Mem.tail _ (List.Mem.head _))))))))))))))))))))) (List.Mem.tail _ (List.Mem.tail _ (List.Mem.tail _ (List.Mem.tail _ (List.Mem.tail _ (List.Mem.tail _ (List.Mem.tail _ (List.Mem.tail _ (List.Mem.tail _ (List.Mem.tail _ (List.Mem.tail _ (List.Mem.tail _ (List.Mem.tail _ (List.Mem.tail _ (List.Mem.tail _ (List.Mem.tail _ (List.Mem.tail _ (List.Mem.tail _ (List.Mem.head _)))))))))))))))))))) (List.Mem.tail _ (List.Mem.tail _ (List.Mem.tail _ (List.Mem.tail _ (List.Mem.tail _ (List.Mem.tail _ (List.Mem.tail _ (List.Mem.tail _ (List.Mem.tail _ (List.Mem.tail _ (List.Mem.tail _ (List.Mem.tail _ (List.Mem.tail _ (List.Mem.tail _ (List.Mem.tail _ (List.Mem.tail _ (List.Mem.tail _ (List.Mem.head _))))))))))))))))))) (List.Mem.tail _ (List.Mem.tail _ (List.Mem.tail _ (List.Mem.tail _ (List.Mem.tail _ (List.Mem.tail _ (List.Mem.tail _ (List.Mem.tail _ (List.Mem.tail _ (List.Mem.tail _ (List.Mem.tail _ (List.Mem.tail _ (List.Mem.tail _ (List.Mem.tail _ (List.Mem.tail _ (List.Mem.tail _ (List.Mem.head _)))))))))))))))))) (List.Mem.head _)) (List.Mem.tail _ (List.Mem.tail _ (List.Mem.tail _ (List.Mem.tail _ (List.Mem.tail _ (List.Mem.tail _ (List.Mem.tail _ (List.Mem.tail _ (List.Mem.tail _ (List.Mem.tail _ (List.Mem.tail _ (List.Mem.tail _ (List.Mem.tail _ (List.Mem.tail _ (List.Mem.head _)))))))))))))))) (List.Mem.tail _ (List.Mem.tail _ (List.Mem.tail _ (List.Mem.tail _ (List.Mem.tail _ (List.Mem.tail _ (List.Mem.tail _ (List.Mem.tail _ (List.Mem.tail _ (List.Mem.tail _ (List.Mem.tail _ (List.Mem.tail _ (List.Mem.tail _ (List.Mem.head _))))))))))))))) (List.Mem.tail _ (List.Mem.tail _ (List.Mem.tail _ (List.Mem.tail _ (List.Mem.tail _ (List.Mem.tail _ (List.Mem.tail _ (List.Mem.tail _ (List.Mem.tail _ (List.Mem.tail _ (List.Mem.tail _ (List.Mem.tail _ (List.Mem.head _)))))))))))))) (List.Mem.tail _ (List.Mem.tail _ (List.Mem.tail _ (List.Mem.tail _ (List.Mem.tail _ (List.Mem.tail _ (List.Mem.tail _ (List.Mem.tail _ (List.Mem.tail _ (List.Mem.tail _ (List.Mem.tail _ (List.Mem.head _))))))))))))) (List.Mem.tail _ (List.Mem.tail _ (List.Mem.tail _ (List.Mem.tail _ (List.Mem.tail _ (List.Mem.tail _ (List.Mem.tail _ (List.Mem.tail _ (List.Mem.tail _ (List.Mem.tail _ (List.Mem.head _)))))))))))) (List.Mem.tail _ (List.Mem.tail _ (List.Mem.tail _ (List.Mem.tail _ (List.Mem.tail _ (List.Mem.tail _ (List.Mem.tail _ (List.Mem.tail _ (List.Mem.tail _ (List.Mem.head _))))))))))) (List.Mem.tail _ (List.Mem.tail _ (List.Mem.tail _ (List.Mem.tail _ (List.Mem.tail _ (List.Mem.tail _ (List.Mem.tail _ (List.Mem.tail _ (List.Mem.head _)))))))))) (List.Mem.tail _ (List.Mem.tail _ (List.Mem.tail _ (List.Mem.tail _ (List.Mem.tail _ (List.Mem.tail _ (List.Mem.tail _ (List.Mem.head _))))))))) (List.Mem.tail _ (List.Mem.tail _ (List.Mem.tail _ (List.Mem.tail _ (List.Mem.tail _ (List.Mem.tail _ (List.Mem.head _)))))))) (List.Mem.tail _ (List.Mem.tail _ (List.Mem.tail _ (List.Mem.tail _ (List.Mem.tail _ (List.Mem.head _))))))), S, hz51, hz63, hv67, hv72, hz89, hz102, hz115, hz128, hz138, hz145⟩
    rintro σ' H157 ⟨t156, t154, z145, t148, t151, rfl, W, S, hz51, hz63, hv67, hv72, hz89, hz102, hz115, hz128, hz138, hz145⟩
    refine ⟨fun σ' H' => ∃ t169 : Addr, ∃ t167 : Addr, ∃ z158 : Addr, ∃ t161 : Addr, ∃ t164 : Addr, σ' = [some (.ref a), some (.ref (p : Addr)), some (.ref t1), some (.ref t8), some (.ref t15), some (.ref t22), some (.ref t29), some (.ref t36), some (.ref z51), some (.ref z63), some (v67), some (v72), some (.ref t77), some (.ref t79), some (.ref t81), some (.ref t83), some (.ref t169), none] ∧ Wd p [(t1, .tup [.int n2, .int m3]), (t8, .tup [.int n9, .int m10]), (t15, .tup [.int n16, .int m17]), (t22, .tup [.int n23, .int m24]), (t29, .tup [.int n30, .int m31]), (t36, .tup [.int n37, .int m38]), (t77, .tup [.int (-n16), .int m17]), (t79, .tup [.int (-n23), .int m24]), (t81, .tup [.int (-n2), .int m3]), (t83, .tup [.int (-n9), .int m10]), (t169, .lst [.ref t85, .ref t86, .ref t98, .ref t111, .ref t124, .ref t137, .ref t141, .ref t154, .ref t167]), (t85, .tup [.ref z51, .ref t1, .ref t8]), (t86, .tup [.ref z63, .ref t15, .ref t22]), (t98, .tup [.ref z89, .ref t92, .ref t95]), (t92, .tup [.int ((n2 * m17) + (n16 * m3)), .int (m3 * m17)]), (t95, .tup [.int ((n9 * m24) + (n23 * m10)), .int (m10 * m24)]), (t111, .tup [.ref z102, .ref t105, .ref t108]), (t105, .tup [.int ((n2 * m17) + (n16 * m3)), .int (m3 * m17)]), (t108, .tup [.int ((n9 * m24) + (n23 * m10)), .int (m10 * m24)]), (t124, .tup [.ref z115, .ref t118, .ref t121]), (t118, .tup [.int ((n2 * m17) + ((-n16) * m3)), .int (m3 * m17)]), (t121, .tup [.int ((n9 * m24) + ((-n23) * m10)), .int (m10 * m24)]), (t137, .tup [.ref z128, .ref t131, .ref t134]), (t131, .tup [.int ((n16 * m3) + ((-n2) * m17)), .int (m17 * m3)]), (t134, .tup [.int ((n23 * m10) + ((-n9) * m24)), .int (m24 * m10)]), (t141, .tup [.ref z138, .ref t81, .ref t83]), (t154, .tup [.ref z145, .ref t148, .ref t151]), (t148, .tup [.int (n2 * n30), .int (m3 * m31)]), (t151, .tup [.int (n9 * n30), .int (m10 * m31)]), (t167, .tup [.ref z158, .ref t161, .ref t164]), (t161, .tup [.int (n2 * n30), .int (m3 * m31)]), (t164, .tup [.int (n9 * n30), .int (m10 * m31)])] H' ∧ Keeps HP H' p.p ∧ LinQ C D H' z51 n2 m3 n9 m10 ∧ LinQ C D H' z63 n16 m17 n23 m24 ∧ NumQ C H' v67 n30 m31 ∧ NumQ C H' v72 n37 m38 ∧ LinQ C D H' z89 ((n2 * m17) + (n16 * m3)) (m3 * m17) ((n9 * m24) + (n23 * m10)) (m10 * m24) ∧ LinQ C D H' z102 ((n16 * m3) + (n2 * m17)) (m17 * m3) ((n23 * m10) + (n9 * m24)) (m24 * m10) ∧ LinQ C D H' z115 ((n2 * m17) + ((-n16) * m3)) (m3 * m17) ((n9 * m24) + ((-n23) * m10)) (m10 * m24) ∧ LinQ C D H' z128 ((n16 * m3) + ((-n2) * m17)) (m17 * m3) ((n23 * m10) + ((-n9) * m24)) (m24 * m10) ∧ LinQ C D H' z138 (-n2) m3 (-n9) m10 ∧ LinQ C D H' z145 (n2 * n30) (m3 * m31) (n9 * n30) (m10 * m31) ∧ LinQ C D H' z158 (n2 * n30) (m3 * m31) (n9 * n30) (m10 * m31), ?_, ?_⟩
    · skip
      refine ⟨_, rfl, _, rfl, _, rfl, lop_rmul hv67 hz51 (Sq.of (b := 210) pm3 bn2 bm3 (by decide)) (Sq.of (b := 210) pm10 bn9 bm10 (by decide)) (Sq.of (b := 210) pm31 bn30 bm31 (by decide)) fun z158 H159 s160 hz158 => ?_⟩
      have hz51 := hz51.same s160
      have hz63 := hz63.same s160
      have hv67 := hv67.same s160
      have hv72 := hv72.same s160
      have hz89 := hz89.same s160
      have hz102 := hz102.same s160
      have hz115 := hz115.same s160
      have hz128 := hz128.same s160
      have hz138 := hz138.same s160
      have hz145 := hz145.same s160
      have W := W.same s160
      have S := S.trans (same_keeps s160)
      refine ⟨_, rfl, _, rfl, t1, t29, n2, m3, n30, m31, rfl, (W.at (List.Mem.head _)), (W.at (List.Mem.tail _ (List.Mem.tail _ (List.Mem.tail _ (List.Mem.tail _ (List.Mem.head _)))))), (ub bn2 (by decide)), (ub bm3 (by decide)), (ub bn30 (by decide)), (ub bm31 (by decide)), fun t161 H162 s163 ht161 => ?_⟩
      have hz51 := hz51.same s163
      have hz63 := hz63.same s163
      have hv67 := hv67.same s163
      have hv72 := hv72.same s163
      have hz89 := hz89.same s163
      have hz102 := hz102.same s163
      have hz115 := hz115.same s163
      have hz128 := hz128.same s163
      have hz138 := hz138.same s163
      have hz145 := hz145.same s163
      have hz158 := hz158.same s163
      have W := W.same s163
      have S := S.trans (same_keeps s163)
      have W := W.got ht161 (by intro _ z; cases z)
      refine ⟨_, rfl, _, rfl, t8, t29, n9, m10, n30, m31, rfl, (W.at (List.Mem.tail _ (List.Mem.tail _ (List.Mem.head _)))), (W.at (List.Mem.tail _ (List.Mem.tail _ (List.Mem.tail _ (List.Mem.tail _ (List.Mem.tail _ (List.Mem.head _))))))), (ub bn9 (by decide)), (ub bm10 (by decide)), (ub bn30 (by decide)), (ub bm31 (by decide)), fun t164 H165 s166 ht164 => ?_⟩
      have hz51 := hz51.same s166
      have hz63 := hz63.same s166
      have hv67 := hv67.same s166
      have hv72 := hv72.same s166
      have hz89 := hz89.same s166
      have hz102 := hz102.same s166
      have hz115 := hz115.same s166
      have hz128 := hz128.same s166
      have hz138 := hz138.same s166
      have hz145 := hz145.same s166
      have hz158 := hz158.same s166
      have W := W.same s166
      have S := S.trans (same_keeps s166)
      have W := W.got ht164 (by intro _ z; cases z)
      refine ⟨(by show 3 ≤ sizeLine; decide), fun t167 ht167 => ?_⟩
      have W := W.new (o := .tup [.ref z158, .ref t161, .ref t164]) ht167
      have hz51 := hz51.same (same_upd (o := .tup [.ref z158, .ref t161, .ref t164]) ht167)
      have hz63 := hz63.same (same_upd (o := .tup [.ref z158, .ref t161, .ref t164]) ht167)
      have hv67 := hv67.same (same_upd (o := .tup [.ref z158, .ref t161, .ref t164]) ht167)
      have hv72 := hv72.same (same_upd (o := .tup [.ref z158, .ref t161, .ref t164]) ht167)
      have hz89 := hz89.same (same_upd (o := .tup [.ref z158, .ref t161, .ref t164]) ht167)
      have hz102 := hz102.same (same_upd (o := .tup [.ref z158, .ref t161, .ref t164]) ht167)
      have hz115 := hz115.same (same_upd (o := .tup [.ref z158, .ref t161, .ref t164]) ht167)
      have hz128 := hz128.same (same_upd (o := .tup [.ref z158, .ref t161, .ref t164]) ht167)
      have hz138 := hz138.same (same_upd (o := .tup [.ref z158, .ref t161, .ref t164]) ht167)
      have hz145 := hz145.same (same_upd (o := .tup [.ref z158, .ref t161, .ref t164]) ht167)
      have hz158 := hz158.same (same_upd (o := .tup [.ref z158, .ref t161, .ref t164]) ht167)
      have S := S.trans (same_keeps (same_upd (o := .tup [.ref z158, .ref t161, .ref t164]) ht167))
      refine ⟨(by show 1 ≤ sizeLine; decide), fun t168 ht168 => ?_⟩
      have W := W.new (o := .lst [.ref t167]) ht168
      have hz51 := hz51.same (same_upd (o := .lst [.ref t167]) ht168)
      have hz63 := hz63.same (same_upd (o := .lst [.ref t167]) ht168)
      have hv67 := hv67.same (same_upd (o := .lst [.ref t167]) ht168)
      have hv72 := hv72.same (same_upd (o := .lst [.ref t167]) ht168)
      have hz89 := hz89.same (same_upd (o := .lst [.ref t167]) ht168)
      have hz102 := hz102.same (same_upd (o := .lst [.ref t167]) ht168)
      have hz115 := hz115.same (same_upd (o := .lst [.ref t167]) ht168)
      have hz128 := hz128.same (same_upd (o := .lst [.ref t167]) ht168)
      have hz138 := hz138.same (same_upd (o := .lst [.ref t167]) ht168)
      have hz145 := hz145.same (same_upd (o := .lst [.ref t167]) ht168)
      have hz158 := hz158.same (same_upd (o := .lst [.ref t167]) ht168)
      have S := S.trans (same_keeps (same_upd (o := .lst [.ref t167]) ht168))
      refine ⟨t156, t168, _, _, rfl, rfl, (W.at (List.Mem.tail _ (List.Mem.tail _ (List.Mem.tail _ (List.Mem.tail _ (List.Mem.tail _ (List.Mem.tail _ (List.Mem.tail _ (List.Mem.tail _ (List.Mem.tail _ (List.Mem.tail _ (List.Mem.tail _ (List.Mem.tail _ (List.Mem.tail _ (List.Mem.tail _ (List.Mem.head _)))))))))))))))), (W.at (List.Mem.head _)), (by show 9 ≤ sizeLine; decide), fun t169 ht169 => ?_⟩
      have W := W.new (o := .lst [.ref t85, .ref t86, .ref t98, .ref t111, .ref t124, .ref t137, .ref t141, .ref t154, .ref t167]) ht169
      have hz51 := hz51.same (same_upd (o := .lst [.ref t85, .ref t86, .ref t98, .ref t111, .ref t124, .ref t137, .ref t141, .ref t154, .ref t167]) ht169)
      have hz63 := hz63.same (same_upd (o := .lst [.ref t85, .ref t86, .ref t98, .ref t111, .ref t124, .ref t137, .ref t141, .ref t154, .ref t167]) ht169)
      have hv67 := hv67.same (same_upd (o := .lst [.ref t85, .ref t86, .ref t98, .ref t111, .ref t124, .ref t137, .ref t141, .ref t154, .ref t167]) ht169)
      have hv72 := hv72.same (same_upd (o := .lst [.ref t85, .ref t86, .ref t98, .ref t111, .ref t124, .ref t137, .ref t141, .ref t154, .ref t167]) ht169)
      have hz89 := hz89.same (same_upd (o := .lst [.ref t85, .ref t86, .ref t98, .ref t111, .ref t124, .ref t137, .ref t141, .ref t154, .ref t167]) ht169)
      have hz102 := hz102.same (same_upd (o := .lst [.ref t85, .ref t86, .ref t98, .ref t111, .ref t124, .ref t137, .ref t141, .ref t154, .ref t167]) ht169)
      have hz115 := hz115.same (same_upd (o := .lst [.ref t85, .ref t86, .ref t98, .ref t111, .ref t124, .ref t137, .ref t141, .ref t154, .ref t167]) ht169)
      have hz128 := hz128.same (same_upd (o := .lst [.ref t85, .ref t86, .ref t98, .ref t111, .ref t124, .ref t137, .ref t141, .ref t154, .ref t167]) ht169)
      have hz138 := hz138.same (same_upd (o := .lst [.ref t85, .ref t86, .ref t98, .ref t111, .ref t124, .ref t137, .ref t141, .ref t154, .ref t167]) ht169)
      have hz145 := hz145.same (same_upd (o := .lst [.ref t85, .ref t86, .ref t98, .ref t111, .ref t124, .ref t137, .ref t141, .ref t154, .ref t167]) ht169)
      have hz158 := hz158.same (same_upd (o := .lst [.ref t85, .ref t86, .ref t98, .ref t111, .ref t124, .ref t137, .ref t141, .ref t154, .ref t167]) ht169)
      have S := S.trans (same_keeps (same_upd (o := .lst [.ref t85, .ref t86, .ref t98, .ref t111, .ref t124, .ref t137, .ref t141, .ref t154, .ref t167]) ht169))
      exact ⟨t169, t167, z158, t161, t164, rfl, (W.pick (W.pick (W.pick (W.pick (W.pick (W.pick (W.pick (W.pick (W.pick (W.pick (W.pick (W.pick (W.pick (W.pick (W.pick (W.pick (W.pick (W.pick (W.pick (W.pick (W.pick (W.pick (W.pick (W.pick (W.pick (W.pick (W.pick (W.pick (W.pick (W.pick (W.pick (W.pick (Wd.nil W.P) (List.Mem.tail _ (List.Mem.tail _ (List.Mem.tail _ (List.Mem.head _))))) (List.Mem.tail _ (List.Mem.tail _ (List.Mem.tail _ (List.Mem.tail _ (List.Mem.head _)))))) (List.Mem.tail _ (List.Mem.tail _ (List.Mem.head _)))) (List.Mem.tail _ (List.Mem.tail _ (List.Mem.tail _ (List.Mem.tail _ (List.Mem.tail _ (List.Mem.tail _ (List.Mem.tail _ (List.Mem.tail _ (List.Mem.tail _ (List.Mem.tail _ (List.Mem.tail _ (List.Mem.tail _ (List.Mem.tail _ (List.Mem.tail _ (List.Mem.tail _ (List.Mem.tail _ (List.Mem.tail _ (List.Mem.tail _ (List.Mem.tail _ (List.Mem.tail _ (List.Mem.tail _ (List.Mem.tail _ (List.Mem.tail _ (List.Mem.tail _ (List.Mem.tail _ (List.Mem.tail _ (List.Mem.tail _ (List.Mem.tail _ (List.Mem.tail _ (List.Mem.tail _ (List.Mem.tail _ (List.Mem.tail _ (List.Mem.tail _ (List.Mem.head _))))))))))))))))))))))))))))))))))) (List.Mem.tail _ (List.Mem.tail _ (List.Mem.tail _ (List.Mem.tail _ (List.Mem.tail _ (List.Mem.tail _ (List.Mem.tail _ (List.Mem.tail _ (List.Mem.tail _ (List.Mem.tail _ (List.Mem.tail _ (List.Mem.tail _ (List.Mem.tail _ (List.Mem.tail _ (List.Mem.tail _ (List.Mem.tail _ (List.Mem.tail _ (List.Mem.tail _ (List.Mem.tail _ (List.Mem.tail _ (List.Mem.tail _ (List.Mem.tail _ (List.Mem.tail _ (List.Mem.tail _ (List.Mem.tail _ (List.Mem.tail _ (List.Mem.tail _ (List.Mem.tail _ (List.Mem.tail _ (List.Mem.tail _ (List.Mem.tail _ (List.Mem.tail _ (List.Mem.head _)))))))))))))))))))))))))))))))))) (List.Mem.tail _ (List.Mem.tail _ (List.Mem.tail _ (List.Mem.tail _ (List.Mem.tail _ (List.Mem.tail _ (List.Mem.tail _ (List.Mem.tail _ (List.Mem.tail _ (List.Mem.tail _ (List.Mem.tail _ (List.Mem.tail _ (List.Mem.tail _ (List.Mem.tail _ (List.Mem.tail _ (List.Mem.tail _ (List.Mem.tail _ (List.Mem.tail _ (List.Mem.tail _ (List.Mem.tail _ (List.Mem.tail _ (List.Mem.tail _ (List.Mem.tail _ (List.Mem.tail _ (List.Mem.tail _ (List.Mem.tail _ (List.Mem.tail _ (List.Mem.tail _ (List.Mem.tail _ (List.Mem.tail _ (List.Mem.tail _ (List.Mem.head _))))))))))))))))))))))))))))))))) (List.Mem.tail _ (List.Mem.tail _ (List.Mem.tail _ (List.Mem.tail _ (List.Mem.tail _ (List.Mem.tail _ (List.Mem.tail _ (List.Mem.tail _ (List.Mem.tail _ (List.Mem.tail _ (List.Mem.tail _ (List.Mem.tail _ (List.Mem.tail _ (List.Mem.tail _ (List.Mem.tail _ (List.Mem.tail _ (List.Mem.tail _ (List.Mem.tail _ (List.Mem.tail _ (List.Mem.tail _ (List.Mem.tail _ (List.Mem.tail _ (List.Mem.tail _ (List.Mem.tail _ (List.Mem.tail _ (List.Mem.tail _ (List.Mem.tail _ (List.Mem.tail _ (List.Mem.tail _ (List.Mem.tail _ (List.Mem.head _)))))))))))))))))))))))))))))))) (List.Mem.tail _ (List.Mem.tail _ (List.Mem.tail _ (List.Mem.tail _ (List.Mem.tail _ (List.Mem.tail _ (List.Mem.tail _ (List.Mem.tail _ (List.Mem.tail _ (List.Mem.tail _ (List.Mem.tail _ (List.Mem.tail _ (List.Mem.tail _ (List.Mem.tail _ (List.Mem.tail _ (List.Mem.tail _ (List.Mem.tail _ (List.Mem.tail _ (List.Mem.tail _ (List.Mem.tail _ (List.Mem.tail _ (List.Mem.tail _ (List.Mem.tail _ (List.Mem.tail _ (List.Mem.tail _ (List.Mem.tail _ (List.Mem.tail _ (List.Mem.tail _ (List.Mem.tail _ (List.Mem.head _))))))))))))))))))))))))))))))) (List.Mem.tail _ (List.Mem.tail _ (List.Mem.tail _ (List.Mem.tail _ (List.Mem.tail _ (List.Mem.tail _ (List.Mem.tail _ (List.Mem.tail _ (List.Mem.tail _ (List.Mem.tail _ (List.Mem.tail _ (List.Mem.tail _ (List.Mem.tail _ (List.Mem.tail _ (List.Mem.tail _ (List.Mem.tail _ (List.Mem.tail _ (List.Mem.tail _ (List.Mem.tail _ (List.Mem.tail _ (List.Mem.tail _ (List.Mem.tail _ (List.Mem.tail _ (List.Mem.tail _ (List.Mem.tail _ (List.Mem.tail _ (List.Mem.tail _ (List.Mem.tail _ (List.Mem.head _)))))))))))))))))))))))))))))) (List.Mem.tail _ (List.Mem.tail _ (List.Mem.tail _ (List.Mem.tail _ (List.Mem.tail _ (List.Mem.tail _ (List.Mem.tail _ (List.Mem.tail _ (List.Mem.tail _ (List.Mem.tail _ (List.Mem.tail _ (List.Mem.tail _ (List.Mem.tail _ (List.Mem.tail _ (List.Mem.tail _ (List.Mem.tail _ (List.Mem.tail _ (List.Mem.tail _ (List.Mem.tail _ (List.Mem.tail _ (List.Mem.tail _ (List.Mem.tail _ (List.Mem.tail _ (List.Mem.tail _ (List.Mem.tail _ (List.Mem.tail _ (List.Mem.tail _ (List.Mem.head _))))))))))))))))))))))))))))) (List.Mem.tail _ (List.Mem.tail _ (List.Mem.tail _ (List.Mem.tail _ (List.Mem.tail _ (List.Mem.tail _ (List.Mem.tail _ (List.Mem.tail _ (List.Mem.tail _ (List.Mem.tail _ (List.Mem.tail _ (List.Mem.tail _ (List.Mem.tail _ (List.Mem.tail _ (List.Mem.tail _ (List.Mem.tail _ (List.Mem.tail _ (List.Mem.tail _ (List.Mem.tail _ (List.Mem.tail _ (List.Mem.tail _ (List.Mem.tail _ (List.Mem.tail _ (List.Mem.tail _ (List.Mem.tail _ (List.Mem.tail _ (List.Mem.head _)))))))))))))))))))))))))))) (List.Mem.tail _ (List.Mem.tail _ (List.Mem.tail _ (List.Mem.tail _ (List.Mem.tail _ (List.Mem.tail _ (List.Mem.tail _ (List.Mem.tail _ (List.Mem.tail _ (List.Mem.tail _ (List.Mem.tail _ (List.Mem.tail _ (List.Mem.tail _ (List.Mem.tail _ (List.Mem.tail _ (List.Mem.tail _ (List.Mem.tail _ (List.Mem.tail _ (List.Mem.tail _ (List.Mem.tail _ (List.Mem.tail _ (List.Mem.tail _ (List.Mem.tail _ (List.Mem.tail _ (List.Mem.tail _ (List.Mem.head _))))))))))))))))))))))))))) (List.Mem.tail _ (List.Mem.tail _ (List.Mem.tail _ (List.Mem.tail _ (List.Mem.tail _ (List.Mem.tail _ (List.Mem.tail _ (List.Mem.tail _ (List.Mem.tail _ (List.Mem.tail _ (List.Mem.tail _ (List.Mem.tail _ (List.Mem.tail _ (List.Mem.tail _ (List.Mem.tail _ (List.Mem.tail _ (List.Mem.tail _ (List.Mem.tail _ (List.Mem.tail _ (List.Mem.tail _ (List.Mem.tail _ (List.Mem.tail _ (List.Mem.tail _ (List.Mem.tail _ (List.Mem.head _)))))))))))))))))))))))))) (List.Mem.tail _ (List.Mem.tail _ (List.Mem.tail _ (List.Mem.tail _ (List.Mem.tail _ (List.Mem.tail _ (List.Mem.tail _ (List.Mem.tail _ (List.Mem.tail _ (List.Mem.tail _ (List.Mem.tail _ (List.Mem.tail _ (List.Mem.tail _ (List.Mem.tail _ (List.Mem.tail _ (List.Mem.tail _ (List.Mem.tail _ (List.Mem.tail _ (List.Mem.tail _ (List.Mem.tail _ (List.Mem.tail _ (List.Mem.tail _ (List.Mem.tail _ (List.Mem.head _))))))))))))))))))))))))) (List.Mem.tail _ (List.Mem.tail _ (List.Mem.tail _ (List.Mem.tail _ (List.Mem.tail _ (List.Mem.tail _ (List.Mem.tail _ (List.Mem.tail _ (List.Mem.tail _ (List.Mem.tail _ (List.Mem.tail _ (List.Mem.tail _ (List.Mem.tail _ (List.Mem.tail _ (List.Mem.tail _ (List.Mem.tail _ (List.Mem.tail _ (List.Mem.tail _ (List.Mem.tail _ (List.Mem.tail _ (List.Mem.tail _ (List.Mem.tail _ (List.Mem.head _)))))))))))))))))))))))) (List.Mem.tail _ (List.Mem.tail _ (List.Mem.tail _ (List.Mem.tail _ (List.Mem.tail _ (List.Mem.tail _ (List.Mem.tail _ (List.Mem.tail _ (List.Mem.tail _ (List.Mem.tail _ (List.Mem.tail _ (List.Mem.tail _ (List.Mem.tail _ (List.Mem.tail _ (List.Mem.tail _ (List.Mem.tail _ (List.Mem.tail _ (List.Mem.tail _ (List.Mem.tail _ (List.Mem.tail _ (List.Mem.tail _ (List.Mem.head _))))))))))))))))))))))) (List.Mem.tail _ (List.Mem.tail _ (List.Mem.tail _ (List.Mem.tail _ (List.Mem.tail _ (List.Mem.tail _ (List.Mem.tail _ (List.Mem.tail _ (List.Mem.tail _ (List.Mem.tail _ (List.Mem.tail _ (List.Mem.tail _ (List.Mem.tail _ (List.Mem.tail _ (List.Mem.tail _ (List.Mem.tail _ (List.Mem.tail _ (List.Mem.tail _ (List.Mem.tail _ (List.Mem.tail _ (List.Mem.head _)))))))))))))))))))))) (List.Mem.tail _ (List.Mem.tail _ (List.Mem.tail _ (List.Mem.tail _ (List.Mem.tail _ (List.Mem.tail _ (List.Mem.tail _ (List.Mem.tail _ (List.Mem.tail _ (List.Mem.tail _ (List.Mem.tail _ (List.Mem.tail _ (List.Mem.tail _ (List.Mem.tail _ (List.Mem.tail _ (List.Mem.tail _ (List.Mem.tail _ (List.Mem.tail _ (List.Mem.tail _ (List.Mem.head _))))))))))))))))))))) (List.Mem.tail _ (List.Mem.tail _ (List.Mem.tail _ (List.Mem.tail _ (List.Mem.tail _ (List.Mem.tail _ (List.Mem.tail _ (List.Mem.tail _ (List.Mem.tail _ (List.Mem.tail _ (List.Mem.tail _ (List.Mem.tail _ (List.Mem.tail _ (List.Mem.tail _ (List.Mem.tail _ (List.Mem.tail _ (List.Mem.tail _ (List.Mem.tail _ (List.Mem.head _)))))))))))))))))))) (List.Mem.tail _ (List.Mem.tail _ (List.Mem.tail _ (List.Mem.tail _ (List.Mem.tail _ (List.Mem.tail _ (List.Mem.tail _ (List.Mem.tail _ (List.Mem.tail _ (List.Mem.tail _ (List.Mem.tail _ (List.Mem.tail _ (List.Mem.tail _ (List.Mem.tail _ (List.Mem.tail _ (List.Mem.tail _ (List.Mem.tail _ (List.Mem.head _))))))))))))))))))) (List.Mem.tail _ (List.Mem.tail _ (List.Mem.tail _ (List.Mem.tail _ (List.Mem.tail _ (List.Mem.tail _ (List.Mem.tail _ (List.Mem.tail _ (List.Mem.tail _ (List.Mem.tail _ (List.Mem.tail _ (List.Mem.tail _ (List.Mem.tail _ (List.Mem.tail _ (List.Mem.tail _ (List.Mem.tail _ (List.Mem.head _)))))))))))))))))) (List.Mem.head _)) (List.Mem.tail _ (List.Mem.tail _ (List.Mem.tail _ (List.Mem.tail _ (List.Mem.tail _ (List.Mem.tail _ (List.Mem.tail _ (List.Mem.tail _ (List.Mem.tail _ (List.Mem.tail _ (List.Mem.tail _ (List.Mem.tail _ (List.Mem.tail _ (List.Mem.tail _ (List.Mem.head _)))))))))))))))) (List.Mem.tail _ (List.Mem.tail _ (List.Mem.tail _ (List.Mem.tail _ (List.Mem.tail _ (List.Mem.tail _ (List.Mem.tail _ (List.Mem.tail _ (List.Mem.tail _ (List.Mem.tail _ (List.Mem.tail _ (List.Mem.tail _ (List.Mem.tail _ (List.Mem.head _))))))))))))))) (List.Mem.tail _ (List.Mem.tail _ (List.Mem.tail _ (List.Mem.tail _ (List.Mem.tail _ (List.Mem.tail _ (List.Mem.tail _ (List.Mem.tail _ (List.Mem.tail _ (List.Mem.tail _ (List.Mem.tail _ (List.Mem.tail _ (List.Mem.head _)))))))))))))) (List.Mem.tail _ (List.Mem.tail _ (List.Mem.tail _ (List.Mem.tail _ (List.Mem.tail _ (List.Mem.tail _ (List.Mem.tail _ (List.Mem.tail _ (List.Mem.tail _ (List.Mem.tail _ (List.Mem.tail _ (List.Mem.head _))))))))))))) (List.Mem.tail _ (List.Mem.tail _ (List.Mem.tail _ (List.Mem.tail _ (List.Mem.tail _ (List.Mem.tail _ (List.Mem.tail _ (List.Mem.tail _ (List.Mem.tail _ (List.Mem.tail _ (List.Mem.head _)))))))))))) (List.Mem.tail _ (List.Mem.tail _ (List.Mem.tail _ (List.Mem.tail _ (List.Mem.tail _ (List.Mem.tail _ (List.Mem.tail _ (List.Mem.tail _ (List.Mem.tail _ (List.Mem.head _))))))))))) (List.Mem.tail _ (List.Mem.tail _ (List.Mem.tail _ (List.Mem.tail _ (List.Mem.tail _ (List.Mem.tail _ (List.Mem.tail _ (List.Mem.tail _ (List.Mem.head _)))))))))) (List.Mem.tail _ (List.Mem.tail _ (List.Mem.tail _ (List.Mem.tail _ (List.Mem.tail _ (List.Mem.tail _ (List.Mem.tail _ (List.Mem.head _))))))))) (List.Mem.tail _ (List.Mem.tail _ (List.Mem.tail _ (List.Mem.tail _ (List.Mem.tail _ (List.Mem.tail _ (List.Mem.head _)))))))) (List.Mem.tail _ (List.Mem.tail _ (List.Mem.tail _ (List.Mem.tail _ (List.Mem.tail _ (List.Mem.head _))))))), S, hz51, hz63, hv67, hv72, hz89, hz102, hz115, hz128, hz138, hz145, hz158⟩
    rintro σ' H170 ⟨t169, t167, z158, t161, t164, rfl, W, S, hz51, hz63, hv67, hv72, hz89, hz102, hz115, hz128, hz138, hz145, hz158⟩
    refine ⟨fun σ' H' => ∃ t184 : Addr, ∃ t176 : Addr, ∃ t182 : Addr, ∃ z171 : Addr, ∃ t174 : Addr, ∃ t175 : Addr, ∃ z177 : Addr, ∃ t180 : Addr, ∃ t181 : Addr, σ' = [some (.ref a), some (.ref (p : Addr)), some (.ref t1), some (.ref t8), some (.ref t15), some (.ref t22), some (.ref t29), some (.ref t36), some (.ref z51), some (.ref z63), some (v67), some (v72), some (.ref t77), some (.ref t79), some (.ref t81), some (.ref t83), some (.ref t184), none] ∧ Wd p [(t1, .tup [.int n2, .int m3]), (t8, .tup [.int n9, .int m10]), (t15, .tup [.int n16, .int m17]), (t22, .tup [.int n23, .int m24]), (t29, .tup [.int n30, .int m31]), (t36, .tup [.int n37, .int m38]), (t77, .tup [.int (-n16), .int m17]), (t79, .tup [.int (-n23), .int m24]), (t81, .tup [.int (-n2), .int m3]), (t83, .tup [.int (-n9), .int m10]), (t184, .lst [.ref t85, .ref t86, .ref t98, .ref t111, .ref t124, .ref t137, .ref t141, .ref t154, .ref t167, .ref t176, .ref t182]), (t85, .tup [.ref z51, .ref t1, .ref t8]), (t86, .tup [.ref z63, .ref t15, .ref t22]), (t98, .tup [.ref z89, .ref t92, .ref t95]), (t92, .tup [.int ((n2 * m17) + (n16 * m3)), .int (m3 * m17)]), (t95, .tup [.int ((n9 * m24) + (n23 * m10)), .int (m10 * m24)]), (t111, .tup [.ref z102, .ref t105, .ref t108]), (t105, .tup [.int ((n2 * m17) + (n16 * m3)), .int (m3 * m17)]), (t108, .tup [.int ((n9 * m24) + (n23 * m10)), .int (m10 * m24)]), (t124, .tup [.ref z115, .ref t118, .ref t121]), (t118, .tup [.int ((n2 * m17) + ((-n16) * m3)), .int (m3 * m17)]), (t121, .tup [.int ((n9 * m24) + ((-n23) * m10)), .int (m10 * m24)]), (t137, .tup [.ref z128, .ref t131, .ref t134]), (t131, .tup [.int ((n16 * m3) + ((-n2) * m17)), .int (m17 * m3)]), (t134, .tup [.int ((n23 * m10) + ((-n9) * m24)), .int (m24 * m10)]), (t141, .tup [.ref z138, .ref t81, .ref t83]), (t154, .tup [.ref z145, .ref t148, .ref t151]), (t148, .tup [.int (n2 * n30), .int (m3 * m31)]), (t151, .tup [.int (n9 * n30), .int (m10 * m31)]), (t167, .tup [.ref z158, .ref t161, .ref t164]), (t161, .tup [.int (n2 * n30), .int (m3 * m31)]), (t164, .tup [.int (n9 * n30), .int (m10 * m31)]), (t176, .tup [.ref z171, .ref t174, .ref t175]), (t174, .tup [.int (2 * n2), .int m3]), (t175, .tup [.int (2 * n9), .int m10]), (t182, .tup [.ref z177, .ref t180, .ref t181]), (t180, .tup [.int 0, .int 1]), (t181, .tup [.int 0, .int 1])] H' ∧ Keeps HP H' p.p ∧ LinQ C D H' z51 n2 m3 n9 m10 ∧ LinQ C D H' z63 n16 m17 n23 m24 ∧ NumQ C H' v67 n30 m31 ∧ NumQ C H' v72 n37 m38 ∧ LinQ C D H' z89 ((n2 * m17) + (n16 * m3)) (m3 * m17) ((n9 * m24) + (n23 * m10)) (m10 * m24) ∧ LinQ C D H' z102 ((n16 * m3) + (n2 * m17)) (m17 * m3) ((n23 * m10) + (n9 * m24)) (m24 * m10) ∧ LinQ C D H' z115 ((n2 * m17) + ((-n16) * m3)) (m3 * m17) ((n9 * m24) + ((-n23) * m10)) (m10 * m24) ∧ LinQ C D H' z128 ((n16 * m3) + ((-n2) * m17)) (m17 * m3) ((n23 * m10) + ((-n9) * m24)) (m24 * m10) ∧ LinQ C D H' z138 (-n2) m3 (-n9) m10 ∧ LinQ C D H' z145 (n2 * n30) (m3 * m31) (n9 * n30) (m10 * m31) ∧ LinQ C D H' z158 (n2 * n30) (m3 * m31) (n9 * n30) (m10 * m31) ∧ LinQ C D H' z171 ((n2 * m3) + (n2 * m3)) (m3 * m3) ((n9 * m10) + (n9 * m10)) (m10 * m10) ∧ LinQ C D H' z177 ((n2 * m3) + ((-n2) * m3)) (m3 * m3) ((n9 * m10) + ((-n9) * m10)) (m10 * m10), ?_, ?_⟩
    · skip
      refine ⟨_, rfl, _, rfl, _, rfl, lop_add hz51 hz51 (Sq.of (b := 210) pm3 bn2 bm3 (by decide)) (Sq.of (b := 210) pm10 bn9 bm10 (by decide)) (Sq.of (b := 210) pm3 bn2 bm3 (by decide)) (Sq.of (b := 210) pm10 bn9 bm10 (by decide)) fun z171 H172 s173 hz171 => ?_⟩
      have hz51 := hz51.same s173
      have hz63 := hz63.same s173
      have hv67 := hv67.same s173
      have hv72 := hv72.same s173
      have hz89 := hz89.same s173
      have hz102 := hz102.same s173
      have hz115 := hz115.same s173
      have hz128 := hz128.same s173
      have hz138 := hz138.same s173
      have hz145 := hz145.same s173
      have hz158 := hz158.same s173
      have W := W.same s173
      have S := S.trans (same_keeps s173)
      refine ⟨_, rfl, _, _, _, _, rfl, rfl, SqT.of (W.at (List.Mem.head _)), rfl, _, _, rfl, rfl, wide_mul (show (2 : Int).natAbs < 2 ^ 3 by decide +kernel) bn2 (by decide) (by decide) (by decide), _, rfl, _, _, _, _, rfl, rfl, SqT.of (W.at (List.Mem.head _)), rfl, (by show 2 ≤ sizeLine; decide), fun t174 ht174 => ?_⟩
      have W := W.new (o := .tup [.int (2 * n2), .int m3]) ht174
      have hz51 := hz51.same (same_upd (o := .tup [.int (2 * n2), .int m3]) ht174)
      have hz63 := hz63.same (same_upd (o := .tup [.int (2 * n2), .int m3]) ht174)
      have hv67 := hv67.same (same_upd (o := .tup [.int (2 * n2), .int m3]) ht174)
      have hv72 := hv72.same (same_upd (o := .tup [.int (2 * n2), .int m3]) ht174)
      have hz89 := hz89.same (same_upd (o := .tup [.int (2 * n2), .int m3]) ht174)
      have hz102 := hz102.same (same_upd (o := .tup [.int (2 * n2), .int m3]) ht174)
      have hz115 := hz115.same (same_upd (o := .tup [.int (2 * n2), .int m3]) ht174)
      have hz128 := hz128.same (same_upd (o := .tup [.int (2 * n2), .int m3]) ht174)
      have hz138 := hz138.same (same_upd (o := .tup [.int (2 * n2), .int m3]) ht174)
      have hz145 := hz145.same (same_upd (o := .tup [.int (2 * n2), .int m3]) ht174)
      have hz158 := hz158.same (same_upd (o := .tup [.int (2 * n2), .int m3]) ht174)
      have hz171 := hz171.same (same_upd (o := .tup [.int (2 * n2), .int m3]) ht174)
      have S := S.trans (same_keeps (same_upd (o := .tup [.int (2 * n2), .int m3]) ht174))
      refine ⟨_, rfl, _, _, _, _, rfl, rfl, SqT.of (W.at (List.Mem.tail _ (List.Mem.tail _ (List.Mem.head _)))), rfl, _, _, rfl, rfl, wide_mul (show (2 : Int).natAbs < 2 ^ 3 by decide +kernel) bn9 (by decide) (by decide) (by decide), _, rfl, _, _, _, _, rfl, rfl, SqT.of (W.at (List.Mem.tail _ (List.Mem.tail _ (List.Mem.head _)))), rfl, (by show 2 ≤ sizeLine; decide), fun t175 ht175 => ?_⟩
      have W := W.new (o := .tup [.int (2 * n9), .int m10]) ht175
      have hz51 := hz51.same (same_upd (o := .tup [.int (2 * n9), .int m10]) ht175)
      have hz63 := hz63.same (same_upd (o := .tup [.int (2 * n9), .int m10]) ht175)
      have hv67 := hv67.same (same_upd (o := .tup [.int (2 * n9), .int m10]) ht175)
      have hv72 := hv72.same (same_upd (o := .tup [.int (2 * n9), .int m10]) ht175)
      have hz89 := hz89.same (same_upd (o := .tup [.int (2 * n9), .int m10]) ht175)
      have hz102 := hz102.same (same_upd (o := .tup [.int (2 * n9), .int m10]) ht175)
      have hz115 := hz115.same (same_upd (o := .tup [.int (2 * n9), .int m10]) ht175)
      have hz128 := hz128.same (same_upd (o := .tup [.int (2 * n9), .int m10]) ht175)
      have hz138 := hz138.same (same_upd (o := .tup [.int (2 * n9), .int m10]) ht175)
      have hz145 := hz145.same (same_upd (o := .tup [.int (2 * n9), .int m10]) ht175)
      have hz158 := hz158.same (same_upd (o := .tup [.int (2 * n9), .int m10]) ht175)
      have hz171 := hz171.same (same_upd (o := .tup [.int (2 * n9), .int m10]) ht175)
      have S := S.trans (same_keeps (same_upd (o := .tup [.int (2 * n9), .int m10]) ht175))
      refine ⟨(by show 3 ≤ sizeLine; decide), fun t176 ht176 => ?_⟩
      have W := W.new (o := .tup [.ref z171, .ref t174, .ref t175]) ht176
      have hz51 := hz51.same (same_upd (o := .tup [.ref z171, .ref t174, .ref t175]) ht176)
      have hz63 := hz63.same (same_upd (o := .tup [.ref z171, .ref t174, .ref t175]) ht176)
      have hv67 := hv67.same (same_upd (o := .tup [.ref z171, .ref t174, .ref t175]) ht176)
      have hv72 := hv72.same (same_upd (o := .tup [.ref z171, .ref t174, .ref t175]) ht176)
      have hz89 := hz89.same (same_upd (o := .tup [.ref z171, .ref t174, .ref t175]) ht176)
      have hz102 := hz102.same (same_upd (o := .tup [.ref z171, .ref t174, .ref t175]) ht176)
      have hz115 := hz115.same (same_upd (o := .tup [.ref z171, .ref t174, .ref t175]) ht176)
      have hz128 := hz128.same (same_upd (o := .tup [.ref z171, .ref t174, .ref t175]) ht176)
      have hz138 := hz138.same (same_upd (o := .tup [.ref z171, .ref t174, .ref t175]) ht176)
      have hz145 := hz145.same (same_upd (o := .tup [.ref z171, .ref t174, .ref t175]) ht176)
      have hz158 := hz158.same (same_upd (o := .tup [.ref z171, .ref t174, .ref t175]) ht176)
      have hz171 := hz171.same (same_upd (o := .tup [.ref z171, .ref t174, .ref t175]) ht176)
      have S := S.trans (same_keeps (same_upd (o := .tup [.ref z171, .ref t174, .ref t175]) ht176))
      refine ⟨_, rfl, _, rfl, lop_sub hz51 hz51 (Sq.of (b := 210) pm3 bn2 bm3 (by decide)) (Sq.of (b := 210) pm10 bn9 bm10 (by decide)) (Sq.of (b := 210) pm3 bn2 bm3 (by decide)) (Sq.of (b := 210) pm10 bn9 bm10 (by decide)) fun z177 H178 s179 hz177 => ?_⟩
      have hz51 := hz51.same s179
      have hz63 := hz63.same s179
      have hv67 := hv67.same s179
      have hv72 := hv72.same s179
      have hz89 := hz89.same s179
      have hz102 := hz102.same s179
      have hz115 := hz115.same s179
      have hz128 := hz128.same s179
      have hz138 := hz138.same s179
      have hz145 := hz145.same s179
      have hz158 := hz158.same s179
      have hz171 := hz171.same s179
      have W := W.same s179
      have S := S.trans (same_keeps s179)
      refine ⟨(by show 2 ≤ sizeLine; decide), fun t180 ht180 => ?_⟩
      have W := W.new (o := .tup [.int 0, .int 1]) ht180
      have hz51 := hz51.same (same_upd (o := .tup [.int 0, .int 1]) ht180)
      have hz63 := hz63.same (same_upd (o := .tup [.int 0, .int 1]) ht180)
      have hv67 := hv67.same (same_upd (o := .tup [.int 0, .int 1]) ht180)
      have hv72 := hv72.same (same_upd (o := .tup [.int 0, .int 1]) ht180)
      have hz89 := hz89.same (same_upd (o := .tup [.int 0, .int 1]) ht180)
      have hz102 := hz102.same (same_upd (o := .tup [.int 0, .int 1]) ht180)
      have hz115 := hz115.same (same_upd (o := .tup [.int 0, .int 1]) ht180)
      have hz128 := hz128.same (same_upd (o := .tup [.int 0, .int 1]) ht180)
      have hz138 := hz138.same (same_upd (o := .tup [.int 0, .int 1]) ht180)
      have hz145 := hz145.same (same_upd (o := .tup [.int 0, .int 1]) ht180)
      have hz158 := hz158.same (same_upd (o := .tup [.int 0, .int 1]) ht180)
      have hz171 := hz171.same (same_upd (o := .tup [.int 0, .int 1]) ht180)
      have hz177 := hz177.same (same_upd (o := .tup [.int 0, .int 1]) ht180)
      have S := S.trans (same_keeps (same_upd (o := .tup [.int 0, .int 1]) ht180))
      refine ⟨(by show 2 ≤ sizeLine; decide), fun t181 ht181 => ?_⟩
      have W := W.new (o := .tup [.int 0, .int 1]) ht181
      have hz51 := hz51.same (same_upd (o := .tup [.int 0, .int 1]) ht181)
      have hz63 := hz63.same (same_upd (o := .tup [.int 0, .int 1]) ht181)
      have hv67 := hv67.same (same_upd (o := .tup [.int 0, .int 1]) ht181)
      have hv72 := hv72.same (same_upd (o := .tup [.int 0, .int 1]) ht181)
      have hz89 := hz89.same (same_upd (o := .tup [.int 0, .int 1]) ht181)
      have hz102 := hz102.same (same_upd (o := .tup [.int 0, .int 1]) ht181)
      have hz115 := hz115.same (same_upd (o := .tup [.int 0, .int 1]) ht181)
      have hz128 := hz128.same (same_upd (o := .tup [.int 0, .int 1]) ht181)
      have hz138 := hz138.same (same_upd (o := .tup [.int 0, .int 1]) ht181)
      have hz145 := hz145.same (same_upd (o := .tup [.int 0, .int 1]) ht181)
      have hz158 := hz158.same (same_upd (o := .tup [.int 0, .int 1]) ht181)
      have hz171 := hz171.same (same_upd (o := .tup [.int 0, .int 1]) ht181)
      have hz177 := hz177.same (same_upd (o := .tup [.int 0, .int 1]) ht181)
      have S := S.trans (same_keeps (same_upd (o := .tup [.int 0, .int 1]) ht181))
      refine ⟨(by show 3 ≤ sizeLine; decide), fun t182 ht182 => ?_⟩
      have W := W.new (o := .tup [.ref z177, .ref t180, .ref t181]) ht182
      have hz51 := hz51.same (same_upd (o := .tup [.ref z177, .ref t180, .ref t181]) ht182)
      have hz63 := hz63.same (same_upd (o := .tup [.ref z177, .ref t180, .ref t181]) ht182)
      have hv67 := hv67.same (same_upd (o := .tup [.ref z177, .ref t180, .ref t181]) ht182)
      have hv72 := hv72.same (same_upd (o := .tup [.ref z177, .ref t180, .ref t181]) ht182)
      have hz89 := hz89.same (same_upd (o := .tup [.ref z177, .ref t180, .ref t181]) ht182)
      have hz102 := hz102.same (same_upd (o := .tup [.ref z177, .ref t180, .ref t181]) ht182)
      have hz115 := hz115.same (same_upd (o := .tup [.ref z177, .ref t180, .ref t181]) ht182)
      have hz128 := hz128.same (same_upd (o := .tup [.ref z177, .ref t180, .ref t181]) ht182)
      have hz138 := hz138.same (same_upd (o := .tup [.ref z177, .ref t180, .ref t181]) ht182)
      have hz145 := hz145.same (same_upd (o := .tup [.ref z177, .ref t180, .ref t181]) ht182)
      have hz158 := hz158.same (same_upd (o := .tup [.ref z177, .ref t180, .ref t181]) ht182)
      have hz171 := hz171.same (same_upd (o := .tup [.ref z177, .ref t180, .ref t181]) ht182)
      have hz177 := hz177.same (same_upd (o := .tup [.ref z177, .ref t180, .ref t181]) ht182)
      have S := S.trans (same_keeps (same_upd (o := .tup [.ref z177, .ref t180, .ref t181]) ht182))
      refine ⟨(by show 2 ≤ sizeLine; decide), fun t183 ht183 => ?_⟩
      have W := W.new (o := .lst [.ref t176, .ref t182]) ht183
      have hz51 := hz51.same (same_upd (o := .lst [.ref t176, .ref t182]) ht183)
      have hz63 := hz63.same (same_upd (o := .lst [.ref t176, .ref t182]) ht183)
      have hv67 := hv67.same (same_upd (o := .lst [.ref t176, .ref t182]) ht183)
      have hv72 := hv72.same (same_upd (o := .lst [.ref t176, .ref t182]) ht183)
      have hz89 := hz89.same (same_upd (o := .lst [.ref t176, .ref t182]) ht183)
      have hz102 := hz102.same (same_upd (o := .lst [.ref t176, .ref t182]) ht183)
      have hz115 := hz115.same (same_upd (o := .lst [.ref t176, .ref t182]) ht183)
      have hz128 := hz128.same (same_upd (o := .lst [.ref t176, .ref t182]) ht183)
      have hz138 := hz138.same (same_upd (o := .lst [.ref t176, .ref t182]) ht183)
      have hz145 := hz145.same (same_upd (o := .lst [.ref t176, .ref t182]) ht183)
      have hz158 := hz158.same (same_upd (o := .lst [.ref t176, .ref t182]) ht183)
      have hz171 := hz171.same (same_upd (o := .lst [.ref t176, .ref t182]) ht183)
      have hz177 := hz177.same (same_upd (o := .lst [.ref t176, .ref t182]) ht183)
      have S := S.trans (same_keeps (same_upd (o := .lst [.ref t176, .ref t182]) ht183))
      refine ⟨t169, t183, _, _, rfl, rfl, (W.at (List.Mem.tail _ (List.Mem.tail _ (List.Mem.tail _ (List.Mem.tail _ (List.Mem.tail _ (List.Mem.tail _ (List.Mem.tail _ (List.Mem.tail _ (List.Mem.tail _ (List.Mem.tail _ (List.Mem.tail _ (List.Mem.tail _ (List.Mem.tail _ (List.Mem.tail _ (List.Mem.tail _ (List.Mem.tail _ (List.Mem.tail _ (List.Mem.head _))))))))))))))))))), (W.at (List.Mem.head _)), (by show 11 ≤ sizeLine; decide), fun t184 ht184 => ?_⟩
      have W := W.new (o := .lst [.ref t85, .ref t86, .ref t98, .ref t111, .ref t124, .ref t137, .ref t141, .ref t154, .ref t167, .ref t176, .ref t182]) ht184
      have hz51 := hz51.same (same_upd (o := .lst [.ref t85, .ref t86, .ref t98, .ref t111, .ref t124, .ref t137, .ref t141, .ref t154, .ref t167, .ref t176, .ref t182]) ht184)
      have hz63 := hz63.same (same_upd (o := .lst [.ref t85, .ref t86, .ref t98, .ref t111, .ref t124, .ref t137, .ref t141, .ref t154, .ref t167, .ref t176, .ref t182]) ht184)
      have hv67 := hv67.same (same_upd (o := .lst [.ref t85, .ref t86, .ref t98, .ref t111, .ref t124, .ref t137, .ref t141, .ref t154, .ref t167, .ref t176, .ref t182]) ht184)
      have hv72 := hv72.same (same_upd (o := .lst [.ref t85, .ref t86, .ref t98, .ref t111, .ref t124, .ref t137, .ref t141, .ref t154, .ref t167, .ref t176, .ref t182]) ht184)
      have hz89 := hz89.same (same_upd (o := .lst [.ref t85, .ref t86, .ref t98, .ref t111, .ref t124, .ref t137, .ref t141, .ref t154, .ref t167, .ref t176, .ref t182]) ht184)
      have hz102 := hz102.same (same_upd (o := .lst [.ref t85, .ref t86, .ref t98, .ref t111, .ref t124, .ref t137, .ref t141, .ref t154, .ref t167, .ref t176, .ref t182]) ht184)
      have hz115 := hz115.same (same_upd (o := .lst [.ref t85, .ref t86, .ref t98, .ref t111, .ref t124, .ref t137, .ref t141, .ref t154, .ref t167, .ref t176, .ref t182]) ht184)
      have hz128 := hz128.same (same_upd (o := .lst [.ref t85, .ref t86, .ref t98, .ref t111, .ref t124, .ref t137, .ref t141, .ref t154, .ref t167, .ref t176, .ref t182]) ht184)
      have hz138 := hz138.same (same_upd (o := .lst [.ref t85, .ref t86, .ref t98, .ref t111, .ref t124, .ref t137, .ref t141, .ref t154, .ref t167, .ref t176, .ref t182]) ht184)
      have hz145 := hz145.same (same_upd (o := .lst [.ref t85, .ref t86, .ref t98, .ref t111, .ref t124, .ref t137, .ref t141, .ref t154, .ref t167, .ref t176, .ref t182]) ht184)
      have hz158 := hz158.same (same_upd (o := .lst [.ref t85, .ref t86, .ref t98, .ref t111, .ref t124, .ref t137, .ref t141, .ref t154, .ref t167, .ref t176, .ref t182]) ht184)
      have hz171 := hz171.same (same_upd (o := .lst [.ref t85, .ref t86, .ref t98, .ref t111, .ref t124, .ref t137, .ref t141, .ref t154, .ref t167, .ref t176, .ref t182]) ht184)
      have hz177 := hz177.same (same_upd (o := .lst [.ref t85, .ref t86, .ref t98, .ref t111, .ref t124, .ref t137, .ref t141, .ref t154, .ref t167, .ref t176, .ref t182]) ht184)
      have S := S.trans (same_keeps (same_upd (o := .lst [.ref t85, .ref t86, .ref t98, .ref t111, .ref t124, .ref t137, .ref t141, .ref t154, .ref t167, .ref t176, .ref t182]) ht184))
      exact ⟨t184, t176, t182, z171, t174, t175, z177, t180, t181, rfl, (W.pick (W.pick (W.pick (W.pick (W.pick (W.pick (W.pick (W.pick (W.pick (W.pick (W.pick (W.pick (W.pick (W.pick (W.pick (W.pick (W.pick (W.pick (W.pick (W.pick (W.pick (W.pick (W.pick (W.pick (W.pick (W.pick (W.pick (W.pick (W.pick (W.pick (W.pick (W.pick (W.pick (W.pick (W.pick (W.pick (W.pick (W.pick (Wd.nil W.P) (List.Mem.tail _ (List.Mem.tail _ (List.Mem.tail _ (List.Mem.head _))))) (List.Mem.tail _ (List.Mem.tail _ (List.Mem.tail _ (List.Mem.tail _ (List.Mem.head _)))))) (List.Mem.tail _ (List.Mem.tail _ (List.Mem.head _)))) (List.Mem.tail _ (List.Mem.tail _ (List.Mem.tail _ (List.Mem.tail _ (List.Mem.tail _ (List.Mem.tail _ (List.Mem.head _)))))))) (List.Mem.tail _ (List.Mem.tail _ (List.Mem.tail _ (List.Mem.tail _ (List.Mem.tail _ (List.Mem.tail _ (List.Mem.tail _ (List.Mem.head _))))))))) (List.Mem.tail _ (List.Mem.tail _ (List.Mem.tail _ (List.Mem.tail _ (List.Mem.tail _ (List.Mem.head _))))))) (List.Mem.tail _ (List.Mem.tail _ (List.Mem.tail _ (List.Mem.tail _ (List.Mem.tail _ (List.Mem.tail _ (List.Mem.tail _ (List.Mem.tail _ (List.Mem.tail _ (List.Mem.tail _ (List.Mem.tail _ (List.Mem.tail _ (List.Mem.tail _ (List.Mem.tail _ (List.Mem.tail _ (List.Mem.tail _ (List.Mem.tail _ (List.Mem.tail _ (List.Mem.tail _ (List.Mem.tail _ (List.Mem.tail _ (List.Mem.tail _ (List.Mem.tail _ (List.Mem.tail _ (List.Mem.tail _ (List.Mem.tail _ (List.Mem.tail _ (List.Mem.tail _ (List.Mem.tail _ (List.Mem.tail _ (List.Mem.tail _ (List.Mem.tail _ (List.Mem.tail _ (List.Mem.tail _ (List.Mem.tail _ (List.Mem.tail _ (List.Mem.tail _ (List.Mem.tail _ (List.Mem.tail _ (List.Mem.head _))))))))))))))))))))))))))))))))))))))))) (List.Mem.tail _ (List.Mem.tail _ (List.Mem.tail _ (List.Mem.tail _ (List.Mem.tail _ (List.Mem.tail _ (List.Mem.tail _ (List.Mem.tail _ (List.Mem.tail _ (List.Mem.tail _ (List.Mem.tail _ (List.Mem.tail _ (List.Mem.tail _ (List.Mem.tail _ (List.Mem.tail _ (List.Mem.tail _ (List.Mem.tail _ (List.Mem.tail _ (List.Mem.tail _ (List.Mem.tail _ (List.Mem.tail _ (List.Mem.tail _ (List.Mem.tail _ (List.Mem.tail _ (List.Mem.tail _ (List.Mem.tail _ (List.Mem.tail _ (List.Mem.tail _ (List.Mem.tail _ (List.Mem.tail _ (List.Mem.tail _ (List.Mem.tail _ (List.Mem.tail _ (List.Mem.tail _ (List.Mem.tail _ (List.Mem.tail _ (List.Mem.tail _ (List.Mem.tail _ (List.Mem.head _)))))))))))))))))))))))))))))))))))))))) (List.Mem.tail _ (List.Mem.tail _ (List.Mem.tail _ (List.Mem.tail _ (List.Mem.tail _ (List.Mem.tail _ (List.Mem.tail _ (List.Mem.tail _ (List.Mem.tail _ (List.Mem.tail _ (List.Mem.tail _ (List.Mem.tail _ (List.Mem.tail _ (List.Mem.tail _ (List.Mem.tail _ (List.Mem.tail _ (List.Mem.tail _ (List.Mem.tail _ (List.Mem.tail _ (List.Mem.tail _ (List.Mem.tail _ (List.Mem.tail _ (List.Mem.tail _ (List.Mem.tail _ (List.Mem.tail _ (List.Mem.tail _ (List.Mem.tail _ (List.Mem.tail _ (List.Mem.tail _ (List.Mem.tail _ (List.Mem.tail _ (List.Mem.tail _ (List.Mem.tail _ (List.Mem.tail _ (List.Mem.tail _ (List.Mem.tail _ (List.Mem.tail _ (List.Mem.head _))))))))))))))))))))))))))))))))))))))) (List.Mem.tail _ (List.Mem.tail _ (List.Mem.tail _ (List.Mem.tail _ (List.Mem.tail _ (List.Mem.tail _ (List.Mem.tail _ (List.Mem.tail _ (List.Mem.tail _ (List.Mem.tail _ (List.Mem.tail _ (List.Mem.tail _ (List.Mem.tail _ (List.Mem.tail _ (List.Mem.tail _ (List.Mem.tail _ (List.Mem.tail _ (List.Mem.tail _ (List.Mem.tail _ (List.Mem.tail _ (List.Mem.tail _ (List.Mem.tail _ (List.Mem.tail _ (List.Mem.tail _ (List.Mem.tail _ (List.Mem.tail _ (List.Mem.tail _ (List.Mem.tail _ (List.Mem.tail _ (List.Mem.tail _ (List.Mem.tail _ (List.Mem.tail _ (List.Mem.tail _ (List.Mem.tail _ (List.Mem.tail _ (List.Mem.tail _ (List.Mem.head _)))))))))))))))))))))))))))))))))))))) (List.Mem.tail _ (List.Mem.tail _ (List.Mem.tail _ (List.Mem.tail _ (List.Mem.tail _ (List.Mem.tail _ (List.Mem.tail _ (List.Mem.tail _ (List.Mem.tail _ (List.Mem.tail _ (List.Mem.tail _ (List.Mem.tail _ (List.Mem.tail _ (List.Mem.tail _ (List.Mem.tail _ (List.Mem.tail _ (List.Mem.tail _ (List.Mem.tail _ (List.Mem.tail _ (List.Mem.tail _ (List.Mem.tail _ (List.Mem.tail _ (List.Mem.tail _ (List.Mem.tail _ (List.Mem.tail _ (List.Mem.tail _ (List.Mem.tail _ (List.Mem.tail _ (List.Mem.tail _ (List.Mem.tail _ (List.Mem.tail _ (List.Mem.tail _ (List.Mem.tail _ (List.Mem.tail _ (List.Mem.tail _ (List.Mem.head _))))))))))))))))))))))))))))))))))))) (List.Mem.tail _ (List.Mem.tail _ (List.Mem.tail _ (List.Mem.tail _ (List.Mem.tail _ (List.Mem.tail _ (List.Mem.tail _ (List.Mem.tail _ (List.Mem.tail _ (List.Mem.tail _ (List.Mem.tail _ (List.Mem.tail _ (List.Mem.tail _ (List.Mem.tail _ (List.Mem.tail _ (List.Mem.tail _ (List.Mem.tail _ (List.Mem.tail _ (List.Mem.tail _ (List.Mem.tail _ (List.Mem.tail _ (List.Mem.tail _ (List.Mem.tail _ (List.Mem.tail _ (List.Mem.tail _ (List.Mem.tail _ (List.Mem.tail _ (List.Mem.tail _ (List.Mem.tail _ (List.Mem.tail _ (List.Mem.tail _ (List.Mem.tail _ (List.Mem.tail _ (List.Mem.tail _ (List.Mem.head _)))))))))))))))))))))))))))))))))))) (List.Mem.tail _ (List.Mem.tail _ (List.Mem.tail _ (List.Mem.tail _ (List.Mem.tail _ (List.Mem.tail _ (List.Mem.tail _ (List.Mem.tail _ (List.Mem.tail _ (List.Mem.tail _ (List.Mem.tail _ (List.Mem.tail _ (List.Mem.tail _ (List.Mem.tail _ (List.Mem.tail _ (List.Mem.tail _ (List.Mem.tail _ (List.Mem.tail _ (List.Mem.tail _ (List.Mem.tail _ (List.Mem.tail _ (List.Mem.tail _ (List.Mem.tail _ (List.Mem.tail _ (List.Mem.tail _ (List.Mem.tail _ (List.Mem.tail _ (List.Mem.tail _ (List.Mem.tail _ (List.Mem.tail _ (List.Mem.tail _ (List.Mem.tail _ (List.Mem.tail _ (List.Mem.head _))))))))))))))))))))))))))))))))))) (List.Mem.tail _ (List.Mem.tail _ (List.Mem.tail _ (List.Mem.tail _ (List.Mem.tail _ (List.Mem.tail _ (List.Mem.tail _ (List.Mem.tail _ (List.Mem.tail _ (List.Mem.tail _ (List.Mem.tail _ (List.Mem.tail _ (List.Mem.tail _ (List.Mem.tail _ (List.Mem.tail _ (List.Mem.tail _ (List.Mem.tail _ (List.Mem.tail _ (List.Mem.tail _ (List.Mem.tail _ (List.Mem.tail _ (List.Mem.tail _ (List.Mem.tail _ (List.Mem.tail _ (List.Mem.tail _ (List.Mem.tail _ (List.Mem.tail _ (List.Mem.tail _ (List.Mem.tail _ (List.Mem.tail _ (List.Mem.tail _ (List.Mem.tail _ (List.Mem.head _)))))))))))))))))))))))))))))))))) (List.Mem.tail _ (List.Mem.tail _ (List.Mem.tail _ (List.Mem.tail _ (List.Mem.tail _ (List.Mem.tail _ (List.Mem.tail _ (List.Mem.tail _ (List.Mem.tail _ (List.Mem.tail _ (List.Mem.tail _ (List.Mem.tail _ (List.Mem.tail _ (List.Mem.tail _ (List.Mem.tail _ (List.Mem.tail _ (List.Mem.tail _ (List.Mem.tail _ (List.Mem.tail _ (List.Mem.tail _ (List.Mem.tail _ (List.Mem.tail _ (List.Mem.tail _ (List.Mem.tail _ (List.Mem.tail _ (List.Mem.tail _ (List.Mem.tail _ (List.Mem.tail _ (List.Mem.tail _ (List.Mem.tail _ (List.Mem.tail _ (List.Mem.head _))))))))))))))))))))))))))))))))) (List.Mem.tail _ (List.Mem.tail _ (List.Mem.tail _ (List.Mem.tail _ (List.Mem.tail _ (List.Mem.tail _ (List.Mem.tail _ (List.Mem.tail _ (List.Mem.tail _ (List.Mem.tail _ (List.Mem.tail _ (List.Mem.tail _ (List.Mem.tail _ (List.Mem.tail _ (List.Mem.tail _ (List.Mem.tail _ (List.Mem.tail _ (List.Mem.tail _ (List.Mem.tail _ (List.Mem.tail _ (List.Mem.tail _ (List.Mem.tail _ (List.Mem.tail _ (List.Mem.tail _ (List.Mem.tail _ (List.Mem.tail _ (List.Mem.tail _ (List.Mem.tail _ (List.Mem.tail _ (List.Mem.tail _ (List.Mem.head _)))))))))))))))))))))))))))))))) (List.Mem.tail _ (List.Mem.tail _ (List.Mem.tail _ (List.Mem.tail _ (List.Mem.tail _ (List.Mem.tail _ (List.Mem.tail _ (List.Mem.tail _ (List.Mem.tail _ (List.Mem.tail _ (List.Mem.tail _ (List.Mem.tail _ (List.Mem.tail _ (List.Mem.tail _ (List.Mem.tail _ (List.Mem.tail _ (List.Mem.tail _ (List.Mem.tail _ (List.Mem.tail _ (List.Mem.tail _ (List.Mem.tail _ (List.Mem.tail _ (List.Mem.tail _ (List.Mem.tail _ (List.Mem.tail _ (List.Mem.tail _ (List.Mem.tail _ (List.Mem.tail _ (List.Mem.tail _ (List.Mem.head _))))))))))))))))))))))))))))))) (List.Mem.tail _ (List.Mem.tail _ (List.Mem.tail _ (List.Mem.tail _ (List.Mem.tail _ (List.Mem.tail _ (List.Mem.tail _ (List.Mem.tail _ (List.Mem.tail _ (List.Mem.tail _ (List.Mem.tail _ (List.Mem.tail _ (List.Mem.tail _ (List.Mem.tail _ (List.Mem.tail _ (List.Mem.tail _ (List.Mem.tail _ (List.Mem.tail _ (List.Mem.tail _ (List.Mem.tail _ (List.Mem.tail _ (List.Mem.tail _ (List.Mem.tail _ (List.Mem.tail _ (List.Mem.tail _ (List.Mem.tail _ (List.Mem.tail _ (List.Mem.tail _ (List.Mem.head _)))))))))))))))))))))))))))))) (List.Mem.tail _ (List.Mem.tail _ (List.Mem.tail _ (List.Mem.tail _ (List.Mem.tail _ (List.Mem.tail _ (List.Mem.tail _ (List.Mem.tail _ (List.Mem.tail _ (List.Mem.tail _ (List.Mem.tail _ (List.Mem.tail _ (List.Mem.tail _ (List.Mem.tail _ (List.Mem.tail _ (List.Mem.tail _ (List.Mem.tail _ (List.Mem.tail _ (List.Mem.tail _ (List.Mem.tail _ (List.Mem.tail _ (List.Mem.tail _ (List.Mem.tail _ (List.Mem.tail _ (List.Mem.tail _ (List.Mem.tail _ (List.Mem.tail _ (List.Mem.head _))))))))))))))))))))))))))))) (List.Mem.tail _ (List.Mem.tail _ (List.Mem.tail _ (List.Mem.tail _ (List.Mem.tail _ (List.Mem.tail _ (List.Mem.tail _ (List.Mem.tail _ (List.Mem.tail _ (List.Mem.tail _ (List.Mem.tail _ (List.Mem.tail _ (List.Mem.tail _ (List.Mem.tail _ (List.Mem.tail _ (List.Mem.tail _ (List.Mem.tail _ (List.Mem.tail _ (List.Mem.tail _ (List.Mem.tail _ (List.Mem.tail _ (List.Mem.tail _ (List.Mem.tail _ (List.Mem.tail _ (List.Mem.tail _ (List.Mem.tail _ (List.Mem.head _)))))))))))))))))))))))))))) (List.Mem.tail _ (List.Mem.tail _ (List.Mem.tail _ (List.Mem.tail _ (List.Mem.tail _ (List.Mem.tail _ (List.Mem.tail _ (List.Mem.tail _ (List.Mem.tail _ (List.Mem.tail _ (List.Mem.tail _ (List.Mem.tail _ (List.Mem.tail _ (List.Mem.tail _ (List.Mem.tail _ (List.Mem.tail _ (List.Mem.tail _ (List.Mem.tail _ (List.Mem.tail _ (List.Mem.tail _ (List.Mem.tail _ (List.Mem.tail _ (List.Mem.tail _ (List.Mem.tail _ (List.Mem.tail _ (List.Mem.head _))))))))))))))))))))))))))) (List.Mem.tail _ (List.Mem.tail _ (List.Mem.tail _ (List.Mem.tail _ (List.Mem.tail _ (List.Mem.tail _ (List.Mem.tail _ (List.Mem.tail _ (List.Mem.tail _ (List.Mem.tail _ (List.Mem.tail _ (List.Mem.tail _ (List.Mem.tail _ (List.Mem.tail _ (List.Mem.tail _ (List.Mem.tail _ (List.Mem.tail _ (List.Mem.tail _ (List.Mem.tail _ (List.Mem.tail _ (List.Mem.tail _ (List.Mem.tail _ (List.Mem.tail _ (List.Mem.tail _ (List.Mem.head _)))))))))))))))))))))))))) (List.Mem.tail _ (List.Mem.tail _ (List.Mem.tail _ (List.Mem.tail _ (List.Mem.tail _ (List.Mem.tail _ (List.Mem.tail _ (List.Mem.tail _ (List.Mem.tail _ (List.Mem.tail _ (List.Mem.tail _ (List.Mem.tail _ (List.Mem.tail _ (List.Mem.tail _ (List.Mem.tail _ (List.Mem.tail _ (List.Mem.tail _ (List.Mem.tail _ (List.Mem.tail _ (List.Mem.tail _ (List.Mem.tail _ (List.Mem.tail _ (List.Mem.tail _ (List.Mem.head _))))))))))))))))))))))))) (List.Mem.tail _ (List.Mem.tail _ (List.Mem.tail _ (List.Mem.tail _ (List.Mem.tail _ (List.Mem.tail _ (List.Mem.tail _ (List.Mem.tail _ (List.Mem.tail _ (List.Mem.tail _ (List.Mem.tail _ (List.Mem.tail _ (List.Mem.tail _ (List.Mem.tail _ (List.Mem.tail _ (List.Mem.tail _ (List.Mem.tail _ (List.Mem.tail _ (List.Mem.tail _ (List.Mem.tail _ (List.Mem.tail _ (List.Mem.tail _ (List.Mem.head _)))))))))))))))))))))))) (List.Mem.tail _ (List.Mem.tail _ (List.Mem.tail _ (List.Mem.tail _ (List.Mem.tail _ (List.Mem.tail _ (List.Mem.tail _ (List.Mem.tail _ (List.Mem.tail _ (List.Mem.tail _ (List.Mem.tail _ (List.Mem.tail _ (List.Mem.tail _ (List.Mem.tail _ (List.Mem.tail _ (List.Mem.tail _ (List.Mem.tail _ (List.Mem.tail _ (List.Mem.tail _ (List.Mem.tail _ (List.Mem.tail _ (List.Mem.head _))))))))))))))))))))))) (List.Mem.tail _ (List.Mem.tail _ (List.Mem.tail _ (List.Mem.tail _ (List.Mem.tail _ (List.Mem.tail _ (List.Mem.tail _ (List.Mem.tail _ (List.Mem.tail _ (List.Mem.tail _ (List.Mem.tail _ (List.Mem.tail _ (List.Mem.tail _ (List.Mem.tail _ (List.Mem.tail _ (List.Mem.tail _ (List.Mem.tail _ (List.Mem.tail _ (List.Mem.tail _ (List.Mem.tail _ (List.Mem.head _)))))))))))))))))))))) (List.Mem.tail _ (List.Mem.tail _ (List.Mem.tail _ (List.Mem.tail _ (List.Mem.tail _ (List.Mem.tail _ (List.Mem.tail _ (List.Mem.tail _ (List.Mem.tail _ (List.Mem.tail _ (List.Mem.tail _ (List.Mem.tail _ (List.Mem.tail _ (List.Mem.tail _ (List.Mem.tail _ (List.Mem.tail _ (List.Mem.tail _ (List.Mem.tail _ (List.Mem.tail _ (List.Mem.head _))))))))))))))))))))) (List.Mem.head _)) (List.Mem.tail _ (List.Mem.tail _ (List.Mem.tail _ (List.Mem.tail _ (List.Mem.tail _ (List.Mem.tail _ (List.Mem.tail _ (List.Mem.tail _ (List.Mem.tail _ (List.Mem.tail _ (List.Mem.tail _ (List.Mem.tail _ (List.Mem.tail _ (List.Mem.tail _ (List.Mem.tail _ (List.Mem.tail _ (List.Mem.tail _ (List.Mem.head _))))))))))))))))))) (List.Mem.tail _ (List.Mem.tail _ (List.Mem.tail _ (List.Mem.tail _ (List.Mem.tail _ (List.Mem.tail _ (List.Mem.tail _ (List.Mem.tail _ (List.Mem.tail _ (List.Mem.tail _ (List.Mem.tail _ (List.Mem.tail _ (List.Mem.tail _ (List.Mem.tail _ (List.Mem.tail _ (List.Mem.tail _ (List.Mem.head _)))))))))))))))))) (List.Mem.tail _ (List.Mem.tail _ (List.Mem.tail _ (List.Mem.tail _ (List.Mem.tail _ (List.Mem.tail _ (List.Mem.tail _ (List.Mem.tail _ (List.Mem.tail _ (List.Mem.tail _ (List.Mem.tail _ (List.Mem.tail _ (List.Mem.tail _ (List.Mem.tail _ (List.Mem.tail _ (List.Mem.head _))))))))))))))))) (List.Mem.tail _ (List.Mem.tail _ (List.Mem.tail _ (List.Mem.tail _ (List.Mem.tail _ (List.Mem.tail _ (List.Mem.tail _ (List.Mem.tail _ (List.Mem.tail _ (List.Mem.tail _ (List.Mem.tail _ (List.Mem.tail _ (List.Mem.tail _ (List.Mem.tail _ (List.Mem.head _)))))))))))))))) (List.Mem.tail _ (List.Mem.tail _ (List.Mem.tail _ (List.Mem.tail _ (List.Mem.tail _ (List.Mem.tail _ (List.Mem.tail _ (List.Mem.tail _ (List.Mem.tail _ (List.Mem.tail _ (List.Mem.tail _ (List.Mem.tail _ (List.Mem.tail _ (List.Mem.head _))))))))))))))) (List.Mem.tail _ (List.Mem.tail _ (List.Mem.tail _ (List.Mem.tail _ (List.Mem.tail _ (List.Mem.tail _ (List.Mem.tail _ (List.Mem.tail _ (List.Mem.tail _ (List.Mem.tail _ (List.Mem.tail _ (List.Mem.tail _ (List.Mem.head _)))))))))))))) (List.Mem.tail _ (List.Mem.tail _ (List.Mem.tail _ (List.Mem.tail _ (List.Mem.tail _ (List.Mem.tail _ (List.Mem.tail _ (List.Mem.tail _ (List.Mem.tail _ (List.Mem.tail _ (List.Mem.tail _ (List.Mem.head _))))))))))))) (List.Mem.tail _ (List.Mem.tail _ (List.Mem.tail _ (List.Mem.tail _ (List.Mem.tail _ (List.Mem.tail _ (List.Mem.tail _ (List.Mem.tail _ (List.Mem.tail _ (List.Mem.tail _ (List.Mem.head _)))))))))))) (List.Mem.tail _ (List.Mem.tail _ (List.Mem.tail _ (List.Mem.tail _ (List.Mem.tail _ (List.Mem.tail _ (List.Mem.tail _ (List.Mem.tail _ (List.Mem.tail _ (List.Mem.head _))))))))))) (List.Mem.tail _ (List.Mem.tail _ (List.Mem.tail _ (List.Mem.tail _ (List.Mem.tail _ (List.Mem.tail _ (List.Mem.tail _ (List.Mem.tail _ (List.Mem.head _)))))))))), S, hz51, hz63, hv67, hv72, hz89, hz102, hz115, hz128, hz138, hz145, hz158, hz171, hz177⟩
    rintro σ' H185 ⟨t184, t176, t182, z171, t174, t175, z177, t180, t181, rfl, W, S, hz51, hz63, hv67, hv72, hz89, hz102, hz115, hz128, hz138, hz145, hz158, hz171, hz177⟩
    refine ⟨fun σ' H' => ∃ t189 : Addr, ∃ t186 : Addr, ∃ t187 : Addr, σ' = [some (.ref a), some (.ref (p : Addr)), some (.ref t1), some (.ref t8), some (.ref t15), some (.ref t22), some (.ref t29), some (.ref t36), some (.ref z51), some (.ref z63), some (v67), some (v72), some (.ref t77), some (.ref t79), some (.ref t81), some (.ref t83), some (.ref t189), none] ∧ Wd p [(t1, .tup [.int n2, .int m3]), (t8, .tup [.int n9, .int m10]), (t15, .tup [.int n16, .int m17]), (t22, .tup [.int n23, .int m24]), (t29, .tup [.int n30, .int m31]), (t36, .tup [.int n37, .int m38]), (t77, .tup [.int (-n16), .int m17]), (t79, .tup [.int (-n23), .int m24]), (t81, .tup [.int (-n2), .int m3]), (t83, .tup [.int (-n9), .int m10]), (t189, .lst [.ref t85, .ref t86, .ref t98, .ref t111, .ref t124, .ref t137, .ref t141, .ref t154, .ref t167, .ref t176, .ref t182, .ref t186, .ref t187]), (t85, .tup [.ref z51, .ref t1, .ref t8]), (t86, .tup [.ref z63, .ref t15, .ref t22]), (t98, .tup [.ref z89, .ref t92, .ref t95]), (t92, .tup [.int ((n2 * m17) + (n16 * m3)), .int (m3 * m17)]), (t95, .tup [.int ((n9 * m24) + (n23 * m10)), .int (m10 * m24)]), (t111, .tup [.ref z102, .ref t105, .ref t108]), (t105, .tup [.int ((n2 * m17) + (n16 * m3)), .int (m3 * m17)]), (t108, .tup [.int ((n9 * m24) + (n23 * m10)), .int (m10 * m24)]), (t124, .tup [.ref z115, .ref t118, .ref t121]), (t118, .tup [.int ((n2 * m17) + ((-n16) * m3)), .int (m3 * m17)]), (t121, .tup [.int ((n9 * m24) + ((-n23) * m10)), .int (m10 * m24)]), (t137, .tup [.ref z128, .ref t131, .ref t134]), (t131, .tup [.int ((n16 * m3) + ((-n2) * m17)), .int (m17 * m3)]), (t134, .tup [.int ((n23 * m10) + ((-n9) * m24)), .int (m24 * m10)]), (t141, .tup [.ref z138, .ref t81, .ref t83]), (t154, .tup [.ref z145, .ref t148, .ref t151]), (t148, .tup [.int (n2 * n30), .int (m3 * m31)]), (t151, .tup [.int (n9 * n30), .int (m10 * m31)]), (t167, .tup [.ref z158, .ref t161, .ref t164]), (t161, .tup [.int (n2 * n30), .int (m3 * m31)]), (t164, .tup [.int (n9 * n30), .int (m10 * m31)]), (t176, .tup [.ref z171, .ref t174, .ref t175]), (t174, .tup [.int (2 * n2), .int m3]), (t175, .tup [.int (2 * n9), .int m10]), (t182, .tup [.ref z177, .ref t180, .ref t181]), (t180, .tup [.int 0, .int 1]), (t181, .tup [.int 0, .int 1]), (t186, .tup [.ref z51, .ref t1, .ref t8]), (t187, .tup [.ref z63, .ref t15, .ref t22])] H' ∧ Keeps HP H' p.p ∧ LinQ C D H' z51 n2 m3 n9 m10 ∧ LinQ C D H' z63 n16 m17 n23 m24 ∧ NumQ C H' v67 n30 m31 ∧ NumQ C H' v72 n37 m38 ∧ LinQ C D H' z89 ((n2 * m17) + (n16 * m3)) (m3 * m17) ((n9 * m24) + (n23 * m10)) (m10 * m24) ∧ LinQ C D H' z102 ((n16 * m3) + (n2 * m17)) (m17 * m3) ((n23 * m10) + (n9 * m24)) (m24 * m10) ∧ LinQ C D H' z115 ((n2 * m17) + ((-n16) * m3)) (m3 * m17) ((n9 * m24) + ((-n23) * m10)) (m10 * m24) ∧ LinQ C D H' z128 ((n16 * m3) + ((-n2) * m17)) (m17 * m3) ((n23 * m10) + ((-n9) * m24)) (m24 * m10) ∧ LinQ C D H' z138 (-n2) m3 (-n9) m10 ∧ LinQ C D H' z145 (n2 * n30) (m3 * m31) (n9 * n30) (m10 * m31) ∧ LinQ C D H' z158 (n2 * n30) (m3 * m31) (n9 * n30) (m10 * m31) ∧ LinQ C D H' z171 ((n2 * m3) + (n2 * m3)) (m3 * m3) ((n9 * m10) + (n9 * m10)) (m10 * m10) ∧ LinQ C D H' z177 ((n2 * m3) + ((-n2) * m3)) (m3 * m3) ((n9 * m10) + ((-n9) * m10)) (m10 * m10), ?_, ?_⟩
    · skip
      refine ⟨_, rfl, _, rfl, _, rfl, _, rfl, (by show 3 ≤ sizeLine; decide), fun t186 ht186 => ?_⟩
      have W := W.new (o := .tup [.ref z51, .ref t1, .ref t8]) ht186
      have hz51 := hz51.same (same_upd (o := .tup [.ref z51, .ref t1, .ref t8]) ht186)
      have hz63 := hz63.same (same_upd (o := .tup [.ref z51, .ref t1, .ref t8]) ht186)
      have hv67 := hv67.same (same_upd (o := .tup [.ref z51, .ref t1, .ref t8]) ht186)
      have hv72 := hv72.same (same_upd (o := .tup [.ref z51, .ref t1, .ref t8]) ht186)
      have hz89 := hz89.same (same_upd (o := .tup [.ref z51, .ref t1, .ref t8]) ht186)
      have hz102 := hz102.same (same_upd (o := .tup [.ref z51, .ref t1, .ref t8]) ht186)
      have hz115 := hz115.same (same_upd (o := .tup [.ref z51, .ref t1, .ref t8]) ht186)
      have hz128 := hz128.same (same_upd (o := .tup [.ref z51, .ref t1, .ref t8]) ht186)
      have hz138 := hz138.same (same_upd (o := .tup [.ref z51, .ref t1, .ref t8]) ht186)
      have hz145 := hz145.same (same_upd (o := .tup [.ref z51, .ref t1, .ref t8]) ht186)
      have hz158 := hz158.same (same_upd (o := .tup [.ref z51, .ref t1, .ref t8]) ht186)
      have hz171 := hz171.same (same_upd (o := .tup [.ref z51, .ref t1, .ref t8]) ht186)
      have hz177 := hz177.same (same_upd (o := .tup [.ref z51, .ref t1, .ref t8]) ht186)
      have S := S.trans (same_keeps (same_upd (o := .tup [.ref z51, .ref t1, .ref t8]) ht186))
      refine ⟨_, rfl, _, rfl, _, rfl, (by show 3 ≤ sizeLine; decide), fun t187 ht187 => ?_⟩
      have W := W.new (o := .tup [.ref z63, .ref t15, .ref t22]) ht187
      have hz51 := hz51.same (same_upd (o := .tup [.ref z63, .ref t15, .ref t22]) ht187)
      have hz63 := hz63.same (same_upd (o := .tup [.ref z63, .ref t15, .ref t22]) ht187)
      have hv67 := hv67.same (same_upd (o := .tup [.ref z63, .ref t15, .ref t22]) ht187)
      have hv72 := hv72.same (same_upd (o := .tup [.ref z63, .ref t15, .ref t22]) ht187)
      have hz89 := hz89.same (same_upd (o := .tup [.ref z63, .ref t15, .ref t22]) ht187)
      have hz102 := hz102.same (same_upd (o := .tup [.ref z63, .ref t15, .ref t22]) ht187)
      have hz115 := hz115.same (same_upd (o := .tup [.ref z63, .ref t15, .ref t22]) ht187)
      have hz128 := hz128.same (same_upd (o := .tup [.ref z63, .ref t15, .ref t22]) ht187)
      have hz138 := hz138.same (same_upd (o := .tup [.ref z63, .ref t15, .ref t22]) ht187)
      have hz145 := hz145.same (same_upd (o := .tup [.ref z63, .ref t15, .ref t22]) ht187)
      have hz158 := hz158.same (same_upd (o := .tup [.ref z63, .ref t15, .ref t22]) ht187)
      have hz171 := hz171.same (same_upd (o := .tup [.ref z63, .ref t15, .ref t22]) ht187)
      have hz177 := hz177.same (same_upd (o := .tup [.ref z63, .ref t15, .ref t22]) ht187)
      have S := S.trans (same_keeps (same_upd (o := .tup [.ref z63, .ref t15, .ref t22]) ht187))
      refine ⟨(by show 2 ≤ sizeLine; decide), fun t188 ht188 => ?_⟩
      have W := W.new (o := .lst [.ref t186, .ref t187]) ht188
      have hz51 := hz51.same (same_upd (o := .lst [.ref t186, .ref t187]) ht188)
      have hz63 := hz63.same (same_upd (o := .lst [.ref t186, .ref t187]) ht188)
      have hv67 := hv67.same (same_upd (o := .lst [.ref t186, .ref t187]) ht188)
      have hv72 := hv72.same (same_upd (o := .lst [.ref t186, .ref t187]) ht188)
      have hz89 := hz89.same (same_upd (o := .lst [.ref t186, .ref t187]) ht188)
      have hz102 := hz102.same (same_upd (o := .lst [.ref t186, .ref t187]) ht188)
      have hz115 := hz115.same (same_upd (o := .lst [.ref t186, .ref t187]) ht188)
      have hz128 := hz128.same (same_upd (o := .lst [.ref t186, .ref t187]) ht188)
      have hz138 := hz138.same (same_upd (o := .lst [.ref t186, .ref t187]) ht188)
      have hz145 := hz145.same (same_upd (o := .lst [.ref t186, .ref t187]) ht188)
      have hz158 := hz158.same (same_upd (o := .lst [.ref t186, .ref t187]) ht188)
      have hz171 := hz171.same (same_upd (o := .lst [.ref t186, .ref t187]) ht188)
      have hz177 := hz177.same (same_upd (o := .lst [.ref t186, .ref t187]) ht188)
      have S := S.trans (same_keeps (same_upd (o := .lst [.ref t186, .ref t187]) ht188))
      refine ⟨t184, t188, _, _, rfl, rfl, (W.at (List.Mem.tail _ (List.Mem.tail _ (List.Mem.tail _ (List.Mem.tail _ (List.Mem.tail _ (List.Mem.tail _ (List.Mem.tail _ (List.Mem.tail _ (List.Mem.tail _ (List.Mem.tail _ (List.Mem.tail _ (List.Mem.tail _ (List.Mem.tail _ (List.Mem.head _))))))))))))))), (W.at (List.Mem.head _)), (by show 13 ≤ sizeLine; decide), fun t189 ht189 => ?_⟩
      have W := W.new (o := .lst [.ref t85, .ref t86, .ref t98, .ref t111, .ref t124, .ref t137, .ref t141, .ref t154, .ref t167, .ref t176, .ref t182, .ref t186, .ref t187]) ht189
      have hz51 := hz51.same (same_upd (o := .lst [.ref t85, .ref t86, .ref t98, .ref t111, .ref t124, .ref t137, .ref t141, .ref t154, .ref t167, .ref t176, .ref t182, .ref t186, .ref t187]) ht189)
      have hz63 := hz63.same (same_upd (o := .lst [.ref t85, .ref t86, .ref t98, .ref t111, .ref t124, .ref t137, .ref t141, .ref t154, .ref t167, .ref t176, .ref t182, .ref t186, .ref t187]) ht189)
      have hv67 := hv67.same (same_upd (o := .lst [.ref t85, .ref t86, .ref t98, .ref t111, .ref t124, .ref t137, .ref t141, .ref t154, .ref t167, .ref t176, .ref t182, .ref t186, .ref t187]) ht189)
      have hv72 := hv72.same (same_upd (o := .lst [.ref t85, .ref t86, .ref t98, .ref t111, .ref t124, .ref t137, .ref t141, .ref t154, .ref t167, .ref t176, .ref t182, .ref t186, .ref t187]) ht189)
      have hz89 := hz89.same (same_upd (o := .lst [.ref t85, .ref t86, .ref t98, .ref t111, .ref t124, .ref t137, .ref t141, .ref t154, .ref t167, .ref t176, .ref t182, .ref t186, .ref t187]) ht189)
      have hz102 := hz102.same (same_upd (o := .lst [.ref t85, .ref t86, .ref t98, .ref t111, .ref t124, .ref t137, .ref t141, .ref t154, .ref t167, .ref t176, .ref t182, .ref t186, .ref t187]) ht189)
      have hz115 := hz115.same (same_upd (o := .lst [.ref t85, .ref t86, .ref t98, .ref t111, .ref t124, .ref t137, .ref t141, .ref t154, .ref t167, .ref t176, .ref t182, .ref t186, .ref t187]) ht189)
      have hz128 := hz128.same (same_upd (o := .lst [.ref t85, .ref t86, .ref t98, .ref t111, .ref t124, .ref t137, .ref t141, .ref t154, .ref t167, .ref t176, .ref t182, .ref t186, .ref t187]) ht189)
      have hz138 := hz138.same (same_upd (o := .lst [.ref t85, .ref t86, .ref t98, .ref t111, .ref t124, .ref t137, .ref t141, .ref t154, .ref t167, .ref t176, .ref t182, .ref t186, .ref t187]) ht189)
      have hz145 := hz145.same (same_upd (o := .lst [.ref t85, .ref t86, .ref t98, .ref t111, .ref t124, .ref t137, .ref t141, .ref t154, .ref t167, .ref t176, .ref t182, .ref t186, .ref t187]) ht189)
      have hz158 := hz158.same (same_upd (o := .lst [.ref t85, .ref t86, .ref t98, .ref t111, .ref t124, .ref t137, .ref t141, .ref t154, .ref t167, .ref t176, .ref t182, .ref t186, .ref t187]) ht189)
      have hz171 := hz171.same (same_upd (o := .lst [.ref t85, .ref t86, .ref t98, .ref t111, .ref t124, .ref t137, .ref t141, .ref t154, .ref t167, .ref t176, .ref t182, .ref t186, .ref t187]) ht189)
      have hz177 := hz177.same (same_upd (o := .lst [.ref t85, .ref t86, .ref t98, .ref t111, .ref t124, .ref t137, .ref t141, .ref t154, .ref t167, .ref t176, .ref t182, .ref t186, .ref t187]) ht189)
      have S := S.trans (same_keeps (same_upd (o := .lst [.ref t85, .ref t86, .ref t98, .ref t111, .ref t124, .ref t137, .ref t141, .ref t154, .ref t167, .ref t176, .ref t182, .ref t186, .ref t187]) ht189))
      exact ⟨t189, t186, t187, rfl, (W.pick (W.pick (W.pick (W.pick (W.pick (W.pick (W.pick (W.pick (W.pick (W.pick (W.pick (W.pick (W.pick (W.pick (W.pick (W.pick (W.pick (W.pick (W.pick (W.pick (W.pick (W.pick (W.pick (W.pick (W.pick (W.pick (W.pick (W.pick (W.pick (W.pick (W.pick (W.pick (W.pick (W.pick (W.pick (W.pick (W.pick (W.pick (W.pick (W.pick (Wd.nil W.P) (List.Mem.tail _ (List.Mem.tail _ (List.Mem.head _)))) (List.Mem.tail _ (List.Mem.tail _ (List.Mem.tail _ (List.Mem.head _))))) (List.Mem.tail _ (List.Mem.tail _ (List.Mem.tail _ (List.Mem.tail _ (List.Mem.tail _ (List.Mem.tail _ (List.Mem.tail _ (List.Mem.tail _ (List.Mem.tail _ (List.Mem.tail _ (List.Mem.tail _ (List.Mem.tail _ (List.Mem.tail _ (List.Mem.tail _ (List.Mem.tail _ (List.Mem.tail _ (List.Mem.tail _ (List.Mem.tail _ (List.Mem.tail _ (List.Mem.tail _ (List.Mem.tail _ (List.Mem.tail _ (List.Mem.tail _ (List.Mem.tail _ (List.Mem.tail _ (List.Mem.tail _ (List.Mem.tail _ (List.Mem.tail _ (List.Mem.tail _ (List.Mem.tail _ (List.Mem.tail _ (List.Mem.tail _ (List.Mem.tail _ (List.Mem.tail _ (List.Mem.tail _ (List.Mem.tail _ (List.Mem.tail _ (List.Mem.tail _ (List.Mem.tail _ (List.Mem.tail _ (List.Mem.tail _ (List.Mem.head _))))))))))))))))))))))))))))))))))))))))))) (List.Mem.tail _ (List.Mem.tail _ (List.Mem.tail _ (List.Mem.tail _ (List.Mem.tail _ (List.Mem.tail _ (List.Mem.tail _ (List.Mem.tail _ (List.Mem.tail _ (List.Mem.tail _ (List.Mem.tail _ (List.Mem.tail _ (List.Mem.tail _ (List.Mem.tail _ (List.Mem.tail _ (List.Mem.tail _ (List.Mem.tail _ (List.Mem.tail _ (List.Mem.tail _ (List.Mem.tail _ (List.Mem.tail _ (List.Mem.tail _ (List.Mem.tail _ (List.Mem.tail _ (List.Mem.tail _ (List.Mem.tail _ (List.Mem.tail _ (List.Mem.tail _ (List.Mem.tail _ (List.Mem.tail _ (List.Mem.tail _ (List.Mem.tail _ (List.Mem.tail _ (List.Mem.tail _ (List.Mem.tail _ (List.Mem.tail _ (List.Mem.tail _ (List.Mem.tail _ (List.Mem.tail _ (List.Mem.tail _ (List.Mem.head _)))))))))))))))))))))))))))))))))))))))))) (List.Mem.tail _ (List.Mem.tail _ (List.Mem.tail _ (List.Mem.tail _ (List.Mem.tail _ (List.Mem.tail _ (List.Mem.tail _ (List.Mem.tail _ (List.Mem.tail _ (List.Mem.tail _ (List.Mem.tail _ (List.Mem.tail _ (List.Mem.tail _ (List.Mem.tail _ (List.Mem.tail _ (List.Mem.tail _ (List.Mem.tail _ (List.Mem.tail _ (List.Mem.tail _ (List.Mem.tail _ (List.Mem.tail _ (List.Mem.tail _ (List.Mem.tail _ (List.Mem.tail _ (List.Mem.tail _ (List.Mem.tail _ (List.Mem.tail _ (List.Mem.tail _ (List.Mem.tail _ (List.Mem.tail _ (List.Mem.tail _ (List.Mem.tail _ (List.Mem.tail _ (List.Mem.tail _ (List.Mem.tail _ (List.Mem.tail _ (List.Mem.tail _ (List.Mem.tail _ (List.Mem.tail _ (List.Mem.head _))))))))))))))))))))))))))))))))))))))))) (List.Mem.tail _ (List.Mem.tail _ (List.Mem.tail _ (List.Mem.tail _ (List.Mem.tail _ (List.Mem.tail _ (List.Mem.tail _ (List.Mem.tail _ (List.Mem.tail _ (List.Mem.tail _ (List.Mem.tail _ (List.Mem.tail _ (List.Mem.tail _ (List.Mem.tail _ (List.Mem.tail _ (List.Mem.tail _ (List.Mem.tail _ (List.Mem.tail _ (List.Mem.tail _ (List.Mem.tail _ (List.Mem.tail _ (List.Mem.tail _ (List.Mem.tail _ (List.Mem.tail _ (List.Mem.tail _ (List.Mem.tail _ (List.Mem.tail _ (List.Mem.tail _ (List.Mem.tail _ (List.Mem.tail _ (List.Mem.tail _ (List.Mem.tail _ (List.Mem.tail _ (List.Mem.tail _ (List.Mem.tail _ (List.Mem.tail _ (List.Mem.tail _ (List.Mem.tail _ (List.Mem.head _)))))))))))))))))))))))))))))))))))))))) (List.Mem.tail _ (List.Mem.tail _ (List.Mem.tail _ (List.Mem.tail _ (List.Mem.tail _ (List.Mem.tail _ (List.Mem.tail _ (List.Mem.tail _ (List.Mem.tail _ (List.Mem.tail _ (List.Mem.tail _ (List.Mem.tail _ (List.Mem.tail _ (List.Mem.tail _ (List.Mem.tail _ (List.Mem.tail _ (List.Mem.tail _ (List.Mem.tail _ (List.Mem.tail _ (List.Mem.tail _ (List.Mem.tail _ (List.Mem.tail _ (List.Mem.tail _ (List.Mem.tail _ (List.Mem.tail _ (List.Mem.tail _ (List.Mem.tail _ (List.Mem.tail _ (List.Mem.tail _ (List.Mem.tail _ (List.Mem.tail _ (List.Mem.tail _ (List.Mem.tail _ (List.Mem.tail _ (List.Mem.tail _ (List.Mem.tail _ (List.Mem.tail _ (List.Mem.head _))))))))))))))))))))))))))))))))))))))) (List.Mem.tail _ (List.Mem.tail _ (List.Mem.tail _ (List.Mem.tail _ (List.Mem.tail _ (List.Mem.tail _ (List.Mem.tail _ (List.Mem.tail _ (List.Mem.tail _ (List.Mem.tail _ (List.Mem.tail _ (List.Mem.tail _ (List.Mem.tail _ (List.Mem.tail _ (List.Mem.tail _ (List.Mem.tail _ (List.Mem.tail _ (List.Mem.tail _ (List.Mem.tail _ (List.Mem.tail _ (List.Mem.tail _ (List.Mem.tail _ (List.Mem.tail _ (List.Mem.tail _ (List.Mem.tail _ (List.Mem.tail _ (List.Mem.tail _ (List.Mem.tail _ (List.Mem.tail _ (List.Mem.tail _ (List.Mem.tail _ (List.Mem.tail _ (List.Mem.tail _ (List.Mem.tail _ (List.Mem.tail _ (List.Mem.tail _ (List.Mem.head _)))))))))))))))))))))))))))))))))))))) (List.Mem.tail _ (List.Mem.tail _ (List.Mem.tail _ (List.Mem.tail _ (List.Mem.tail _ (List.Mem.tail _ (List.Mem.tail _ (List.Mem.tail _ (List.Mem.tail _ (List.Mem.tail _ (List.Mem.tail _ (List.Mem.tail _ (List.Mem.tail _ (List.Mem.tail _ (List.Mem.tail _ (List.Mem.tail _ (List.Mem.tail _ (List.Mem.tail _ (List.Mem.tail _ (List.Mem.tail _ (List.Mem.tail _ (List.Mem.tail _ (List.Mem.tail _ (List.Mem.tail _ (List.Mem.tail _ (List.Mem.tail _ (List.Mem.tail _ (List.Mem.tail _ (List.Mem.tail _ (List.Mem.tail _ (List.Mem.tail _ (List.Mem.tail _ (List.Mem.tail _ (List.Mem.tail _ (List.Mem.tail _ (List.Mem.head _))))))))))))))))))))))))))))))))))))) (List.Mem.tail _ (List.Mem.tail _ (List.Mem.tail _ (List.Mem.tail _ (List.Mem.tail _ (List.Mem.tail _ (List.Mem.tail _ (List.Mem.tail _ (List.Mem.tail _ (List.Mem.tail _ (List.Mem.tail _ (List.Mem.tail _ (List.Mem.tail _ (List.Mem.tail _ (List.Mem.tail _ (List.Mem.tail _ (List.Mem.tail _ (List.Mem.tail _ (List.Mem.tail _ (List.Mem.tail _ (List.Mem.tail _ (List.Mem.tail _ (List.Mem.tail _ (List.Mem.tail _ (List.Mem.tail _ (List.Mem.tail _ (List.Mem.tail _ (List.Mem.tail _ (List.Mem.tail _ (List.Mem.tail _ (List.Mem.tail _ (List.Mem.tail _ (List.Mem.tail _ (List.Mem.tail _ (List.Mem.head _)))))))))))))))))))))))))))))))))))) (List.Mem.tail _ (List.Mem.tail _ (List.Mem.tail _ (List.Mem.tail _ (List.Mem.tail _ (List.Mem.tail _ (List.Mem.tail _ (List.Mem.tail _ (List.Mem.tail _ (List.Mem.tail _ (List.Mem.tail _ (List.Mem.tail _ (List.Mem.tail _ (List.Mem.tail _ (List.Mem.tail _ (List.Mem.tail _ (List.Mem.tail _ (List.Mem.tail _ (List.Mem.tail _ (List.Mem.tail _ (List.Mem.tail _ (List.Mem.tail _ (List.Mem.tail _ (List.Mem.tail _ (List.Mem.tail _ (List.Mem.tail _ (List.Mem.tail _ (List.Mem.tail _ (List.Mem.tail _ (List.Mem.tail _ (List.Mem.tail _ (List.Mem.tail _ (List.Mem.tail _ (List.Mem.head _))))))))))))))))))))))))))))))))))) (List.Mem.tail _ (List.Mem.tail _ (List.Mem.tail _ (List.Mem.tail _ (List.Mem.tail _ (List.Mem.tail _ (List.Mem.tail _ (List.Mem.tail _ (List.Mem.tail _ (List.Mem.tail _ (List.Mem.tail _ (List.Mem.tail _ (List.Mem.tail _ (List.Mem.tail _ (List.Mem.tail _ (List.Mem.tail _ (List.Mem.tail _ (List.Mem.tail _ (List.Mem.tail _ (List.Mem.tail _ (List.Mem.tail _ (List.Mem.tail _ (List.Mem.tail _ (List.Mem.tail _ (List.Mem.tail _ (List.Mem.tail _ (List.Mem.tail _ (List.Mem.tail _ (List.Mem.tail _ (List.Mem.tail _ (List.Mem.tail _ (List.Mem.tail _ (List.Mem.head _)))))))))))))))))))))))))))))))))) (List.Mem.tail _ (List.Mem.tail _ (List.Mem.tail _ (List.Mem.tail _ (List.Mem.tail _ (List.Mem.tail _ (List.Mem.tail _ (List.Mem.tail _ (List.Mem.tail _ (List.Mem.tail _ (List.Mem.tail _ (List.Mem.tail _ (List.Mem.tail _ (List.Mem.tail _ (List.Mem.tail _ (List.Mem.tail _ (List.Mem.tail _ (List.Mem.tail _ (List.Mem.tail _ (List.Mem.tail _ (List.Mem.tail _ (List.Mem.tail _ (List.Mem.tail _ (List.Mem.tail _ (List.Mem.tail _ (List.Mem.tail _ (List.Mem.tail _ (List.Mem.tail _ (List.Mem.tail _ (List.Mem.tail _ (List.Mem.tail _ (List.Mem.head _))))))))))))))))))))))))))))))))) (List.Mem.tail _ (List.Mem.tail _ (List.Mem.tail _ (List.Mem.tail _ (List.Mem.tail _ (List.Mem.tail _ (List.Mem.tail _ (List.Mem.tail _ (List.Mem.tail _ (List.Mem.tail _ (List.Mem.tail _ (List.Mem.tail _ (List.Mem.tail _ (List.Mem.tail _ (List.Mem.tail _ (List.Mem.tail _ (List.Mem.tail _ (List.Mem.tail _ (List.Mem.tail _ (List.Mem.tail _ (List.Mem.tail _ (List.Mem.tail _ (List.Mem.tail _ (List.Mem.tail _ (List.Mem.tail _ (List.Mem.tail _ (List.Mem.tail _ (List.Mem.tail _ (List.Mem.tail _ (List.Mem.tail _ (List.Mem.head _)))))))))))))))))))))))))))))))) (List.Mem.tail _ (List.Mem.tail _ (List.Mem.tail _ (List.Mem.tail _ (List.Mem.tail _ (List.Mem.tail _ (List.Mem.tail _ (List.Mem.tail _ (List.Mem.tail _ (List.Mem.tail _ (List.Mem.tail _ (List.Mem.tail _ (List.Mem.tail _ (List.Mem.tail _ (List.Mem.tail _ (List.Mem.tail _ (List.Mem.tail _ (List.Mem.tail _ (List.Mem.tail _ (List.Mem.tail _ (List.Mem.tail _ (List.Mem.tail _ (List.Mem.tail _ (List.Mem.tail _ (List.Mem.tail _ (List.Mem.tail _ (List.Mem.tail _ (List.Mem.tail _ (List.Mem.tail _ (List.Mem.head _))))))))))))))))))))))))))))))) (List.Mem.tail _ (List.Mem.tail _ (List.Mem.tail _ (List.Mem.tail _ (List.Mem.tail _ (List.Mem.tail _ (List.Mem.tail _ (List.Mem.tail _ (List.Mem.tail _ (List.Mem.tail _ (List.Mem.tail _ (List.Mem.tail _ (List.Mem.tail _ (List.Mem.tail _ (List.Mem.tail _ (List.Mem.tail _ (List.Mem.tail _ (List.Mem.tail _ (List.Mem.tail _ (List.Mem.tail _ (List.Mem.tail _ (List.Mem.tail _ (List.Mem.tail _ (List.Mem.tail _ (List.Mem.tail _ (List.Mem.tail _ (List.Mem.tail _ (List.Mem.tail _ (List.Mem.head _)))))))))))))))))))))))))))))) (List.Mem.tail _ (List.Mem.tail _ (List.Mem.tail _ (List.Mem.tail _ (List.Mem.tail _ (List.Mem.tail _ (List.Mem.tail _ (List.Mem.tail _ (List.Mem.tail _ (List.Mem.tail _ (List.Mem.tail _ (List.Mem.tail _ (List.Mem.tail _ (List.Mem.tail _ (List.Mem.tail _ (List.Mem.tail _ (List.Mem.tail _ (List.Mem.tail _ (List.Mem.tail _ (List.Mem.tail _ (List.Mem.tail _ (List.Mem.tail _ (List.Mem.tail _ (List.Mem.tail _ (List.Mem.tail _ (List.Mem.tail _ (List.Mem.tail _ (List.Mem.head _))))))))))))))))))))))))))))) (List.Mem.tail _ (List.Mem.tail _ (List.Mem.tail _ (List.Mem.tail _ (List.Mem.tail _ (List.Mem.tail _ (List.Mem.tail _ (List.Mem.tail _ (List.Mem.tail _ (List.Mem.tail _ (List.Mem.tail _ (List.Mem.tail _ (List.Mem.tail _ (List.Mem.tail _ (List.Mem.tail _ (List.Mem.tail _ (List.Mem.tail _ (List.Mem.tail _ (List.Mem.tail _ (List.Mem.tail _ (List.Mem.tail _ (List.Mem.tail _ (List.Mem.tail _ (List.Mem.tail _ (List.Mem.tail _ (List.Mem.tail _ (List.Mem.head _)))))))))))))))))))))))))))) (List.Mem.tail _ (List.Mem.tail _ (List.Mem.tail _ (List.Mem.tail _ (List.Mem.tail _ (List.Mem.tail _ (List.Mem.tail _ (List.Mem.tail _ (List.Mem.tail _ (List.Mem.tail _ (List.Mem.tail _ (List.Mem.tail _ (List.Mem.tail _ (List.Mem.tail _ (List.Mem.tail _ (List.Mem.tail _ (List.Mem.tail _ (List.Mem.tail _ (List.Mem.tail _ (List.Mem.tail _ (List.Mem.tail _ (List.Mem.tail _ (List.Mem.tail _ (List.Mem.tail _ (List.Mem.tail _ (List.Mem.head _))))))))))))))))))))))))))) (List.Mem.tail _ (List.Mem.tail _ (List.Mem.tail _ (List.Mem.tail _ (List.Mem.tail _ (List.Mem.tail _ (List.Mem.tail _ (List.Mem.tail _ (List.Mem.tail _ (List.Mem.tail _ (List.Mem.tail _ (List.Mem.tail _ (List.Mem.tail _ (List.Mem.tail _ (List.Mem.tail _ (List.Mem.tail _ (List.Mem.tail _ (List.Mem.tail _ (List.Mem.tail _ (List.Mem.tail _ (List.Mem.tail _ (List.Mem.tail _ (List.Mem.tail _ (List.Mem.tail _ (List.Mem.head _)))))))))))))))))))))))))) (List.Mem.tail _ (List.Mem.tail _ (List.Mem.tail _ (List.Mem.tail _ (List.Mem.tail _ (List.Mem.tail _ (List.Mem.tail _ (List.Mem.tail _ (List.Mem.tail _ (List.Mem.tail _ (List.Mem.tail _ (List.Mem.tail _ (List.Mem.tail _ (List.Mem.tail _ (List.Mem.tail _ (List.Mem.tail _ (List.Mem.tail _ (List.Mem.tail _ (List.Mem.tail _ (List.Mem.tail _ (List.Mem.tail _ (List.Mem.tail _ (List.Mem.tail _ (List.Mem.head _))))))))))))))))))))))))) (List.Mem.tail _ (List.Mem.tail _ (List.Mem.tail _ (List.Mem.tail _ (List.Mem.tail _ (List.Mem.tail _ (List.Mem.tail _ (List.Mem.tail _ (List.Mem.tail _ (List.Mem.tail _ (List.Mem.tail _ (List.Mem.tail _ (List.Mem.tail _ (List.Mem.tail _ (List.Mem.tail _ (List.Mem.tail _ (List.Mem.tail _ (List.Mem.tail _ (List.Mem.tail _ (List.Mem.tail _ (List.Mem.tail _ (List.Mem.tail _ (List.Mem.head _)))))))))))))))))))))))) (List.Mem.tail _ (List.Mem.tail _ (List.Mem.tail _ (List.Mem.tail _ (List.Mem.tail _ (List.Mem.tail _ (List.Mem.tail _ (List.Mem.tail _ (List.Mem.tail _ (List.Mem.tail _ (List.Mem.tail _ (List.Mem.tail _ (List.Mem.tail _ (List.Mem.tail _ (List.Mem.tail _ (List.Mem.tail _ (List.Mem.tail _ (List.Mem.tail _ (List.Mem.tail _ (List.Mem.tail _ (List.Mem.tail _ (List.Mem.head _))))))))))))))))))))))) (List.Mem.tail _ (List.Mem.tail _ (List.Mem.tail _ (List.Mem.tail _ (List.Mem.tail _ (List.Mem.tail _ (List.Mem.tail _ (List.Mem.tail _ (List.Mem.tail _ (List.Mem.tail _ (List.Mem.tail _ (List.Mem.tail _ (List.Mem.tail _ (List.Mem.tail _ (List.Mem.tail _ (List.Mem.tail _ (List.Mem.tail _ (List.Mem.tail _ (List.Mem.tail _ (List.Mem.tail _ (List.Mem.head _)))))))))))))))))))))) (List.Mem.tail _ (List.Mem.tail _ (List.Mem.tail _ (List.Mem.tail _ (List.Mem.tail _ (List.Mem.tail _ (List.Mem.tail _ (List.Mem.tail _ (List.Mem.tail _ (List.Mem.tail _ (List.Mem.tail _ (List.Mem.tail _ (List.Mem.tail _ (List.Mem.tail _ (List.Mem.tail _ (List.Mem.tail _ (List.Mem.tail _ (List.Mem.tail _ (List.Mem.tail _ (List.Mem.head _))))))))))))))))))))) (List.Mem.tail _ (List.Mem.tail _ (List.Mem.tail _ (List.Mem.tail _ (List.Mem.tail _ (List.Mem.tail _ (List.Mem.tail _ (List.Mem.tail _ (List.Mem.tail _ (List.Mem.tail _ (List.Mem.tail _ (List.Mem.tail _ (List.Mem.tail _ (List.Mem.tail _ (List.Mem.tail _ (List.Mem.tail _ (List.Mem.tail _ (List.Mem.tail _ (List.Mem.head _)))))))))))))))))))) (List.Mem.tail _ (List.Mem.tail _ (List.Mem.tail _ (List.Mem.tail _ (List.Mem.tail _ (List.Mem.tail _ (List.Mem.tail _ (List.Mem.tail _ (List.Mem.tail _ (List.Mem.tail _ (List.Mem.tail _ (List.Mem.tail _ (List.Mem.tail _ (List.Mem.tail _ (List.Mem.tail _ (List.Mem.tail _ (List.Mem.tail _ (List.Mem.head _))))))))))))))))))) (List.Mem.tail _ (List.Mem.tail _ (List.Mem.tail _ (List.Mem.tail _ (List.Mem.tail _ (List.Mem.tail _ (List.Mem.tail _ (List.Mem.tail _ (List.Mem.tail _ (List.Mem.tail _ (List.Mem.tail _ (List.Mem.tail _ (List.Mem.tail _ (List.Mem.tail _ (List.Mem.tail _ (List.Mem.tail _ (List.Mem.head _)))))))))))))))))) (List.Mem.tail _ (List.Mem.tail _ (List.Mem.tail _ (List.Mem.tail _ (List.Mem.tail _ (List.Mem.tail _ (List.Mem.tail _ (List.Mem.tail _ (List.Mem.tail _ (List.Mem.tail _ (List.Mem.tail _ (List.Mem.tail _ (List.Mem.tail _ (List.Mem.tail _ (List.Mem.tail _ (List.Mem.head _))))))))))))))))) (List.Mem.head _)) (List.Mem.tail _ (List.Mem.tail _ (List.Mem.tail _ (List.Mem.tail _ (List.Mem.tail _ (List.Mem.tail _ (List.Mem.tail _ (List.Mem.tail _ (List.Mem.tail _ (List.Mem.tail _ (List.Mem.tail _ (List.Mem.tail _ (List.Mem.tail _ (List.Mem.head _))))))))))))))) (List.Mem.tail _ (List.Mem.tail _ (List.Mem.tail _ (List.Mem.tail _ (List.Mem.tail _ (List.Mem.tail _ (List.Mem.tail _ (List.Mem.tail _ (List.Mem.tail _ (List.Mem.tail _ (List.Mem.tail _ (List.Mem.tail _ (List.Mem.head _)))))))))))))) (List.Mem.tail _ (List.Mem.tail _ (List.Mem.tail _ (List.Mem.tail _ (List.Mem.tail _ (List.Mem.tail _ (List.Mem.tail _ (List.Mem.tail _ (List.Mem.tail _ (List.Mem.tail _ (List.Mem.tail _ (List.Mem.head _))))))))))))) (List.Mem.tail _ (List.Mem.tail _ (List.Mem.tail _ (List.Mem.tail _ (List.Mem.tail _ (List.Mem.tail _ (List.Mem.tail _ (List.Mem.tail _ (List.Mem.tail _ (List.Mem.tail _ (List.Mem.head _)))))))))))) (List.Mem.tail _ (List.Mem.tail _ (List.Mem.tail _ (List.Mem.tail _ (List.Mem.tail _ (List.Mem.tail _ (List.Mem.tail _ (List.Mem.tail _ (List.Mem.tail _ (List.Mem.head _))))))))))) (List.Mem.tail _ (List.Mem.tail _ (List.Mem.tail _ (List.Mem.tail _ (List.Mem.tail _ (List.Mem.tail _ (List.Mem.tail _ (List.Mem.tail _ (List.Mem.head _)))))))))) (List.Mem.tail _ (List.Mem.tail _ (List.Mem.tail _ (List.Mem.tail _ (List.Mem.tail _ (List.Mem.tail _ (List.Mem.tail _ (List.Mem.head _))))))))) (List.Mem.tail _ (List.Mem.tail _ (List.Mem.tail _ (List.Mem.tail _ (List.Mem.tail _ (List.Mem.tail _ (List.Mem.head _)))))))) (List.Mem.tail _ (List.Mem.tail _ (List.Mem.tail _ (List.Mem.tail _ (List.Mem.tail _ (List.Mem.head _))))))) (List.Mem.tail _ (List.Mem.tail _ (List.Mem.tail _ (List.Mem.tail _ (List.Mem.head _)))))), S, hz51, hz63, hv67, hv72, hz89, hz102, hz115, hz128, hz138, hz145, hz158, hz171, hz177⟩
    rintro σ' H190 ⟨t189, t186, t187, rfl, W, S, hz51, hz63, hv67, hv72, hz89, hz102, hz115, hz128, hz138, hz145, hz158, hz171, hz177⟩
    refine ⟨_, rfl, t189, rfl, ⟨_, SqL.of (W.at (List.Mem.tail _ (List.Mem.tail _ (List.Mem.tail _ (List.Mem.tail _ (List.Mem.tail _ (List.Mem.tail _ (List.Mem.tail _ (List.Mem.tail _ (List.Mem.tail _ (List.Mem.tail _ (List.Mem.head _))))))))))))⟩, for_list (K := K) (a := t189) (xs := [V.ref t85, V.ref t86, V.ref t98, V.ref t111, V.ref t124, V.ref t137, V.ref t141, V.ref t154, V.ref t167, V.ref t176, V.ref t182, V.ref t186, V.ref t187]) (fun _ σ' H' => ∃ o191 : Option V, Wd p [(t1, .tup [.int n2, .int m3]), (t8, .tup [.int n9, .int m10]), (t15, .tup [.int n16, .int m17]), (t22, .tup [.int n23, .int m24]), (t29, .tup [.int n30, .int m31]), (t36, .tup [.int n37, .int m38]), (t77, .tup [.int (-n16), .int m17]), (t79, .tup [.int (-n23), .int m24]), (t81, .tup [.int (-n2), .int m3]), (t83, .tup [.int (-n9), .int m10]), (t189, .lst [.ref t85, .ref t86, .ref t98, .ref t111, .ref t124, .ref t137, .ref t141, .ref t154, .ref t167, .ref t176, .ref t182, .ref t186, .ref t187]), (t85, .tup [.ref z51, .ref t1, .ref t8]), (t86, .tup [.ref z63, .ref t15, .ref t22]), (t98, .tup [.ref z89, .ref t92, .ref t95]), (t92, .tup [.int ((n2 * m17) + (n16 * m3)), .int (m3 * m17)]), (t95, .tup [.int ((n9 * m24) + (n23 * m10)), .int (m10 * m24)]), (t111, .tup [.ref z102, .ref t105, .ref t108]), (t105, .tup [.int ((n2 * m17) + (n16 * m3)), .int (m3 * m17)]), (t108, .tup [.int ((n9 * m24) + (n23 * m10)), .int (m10 * m24)]), (t124, .tup [.ref z115, .ref t118, .ref t121]), (t118, .tup [.int ((n2 * m17) + ((-n16) * m3)), .int (m3 * m17)]), (t121, .tup [.int ((n9 * m24) + ((-n23) * m10)), .int (m10 * m24)]), (t137, .tup [.ref z128, .ref t131, .ref t134]), (t131, .tup [.int ((n16 * m3) + ((-n2) * m17)), .int (m17 * m3)]), (t134, .tup [.int ((n23 * m10) + ((-n9) * m24)), .int (m24 * m10)]), (t141, .tup [.ref z138, .ref t81, .ref t83]), (t154, .tup [.ref z145, .ref t148, .ref t151]), (t148, .tup [.int (n2 * n30), .int (m3 * m31)]), (t151, .tup [.int (n9 * n30), .int (m10 * m31)]), (t167, .tup [.ref z158, .ref t161, .ref t164]), (t161, .tup [.int (n2 * n30), .int (m3 * m31)]), (t164, .tup [.int (n9 * n30), .int (m10 * m31)]), (t176, .tup [.ref z171, .ref t174, .ref t175]), (t174, .tup [.int (2 * n2), .int m3]), (t175, .tup [.int (2 * n9), .int m10]), (t182, .tup [.ref z177, .ref t180, .ref t181]), (t180, .tup [.int 0, .int 1]), (t181, .tup [.int 0, .int 1]), (t186, .tup [.ref z51, .ref t1, .ref t8]), (t187, .tup [.ref z63, .ref t15, .ref t22])] H' ∧ Keeps HP H' p.p ∧ LinQ C D H' z51 n2 m3 n9 m10 ∧ LinQ C D H' z63 n16 m17 n23 m24 ∧ NumQ C H' v67 n30 m31 ∧ NumQ C H' v72 n37 m38 ∧ LinQ C D H' z89 ((n2 * m17) + (n16 * m3)) (m3 * m17) ((n9 * m24) + (n23 * m10)) (m10 * m24) ∧ LinQ C D H' z102 ((n16 * m3) + (n2 * m17)) (m17 * m3) ((n23 * m10) + (n9 * m24)) (m24 * m10) ∧ LinQ C D H' z115 ((n2 * m17) + ((-n16) * m3)) (m3 * m17) ((n9 * m24) + ((-n23) * m10)) (m10 * m24) ∧ LinQ C D H' z128 ((n16 * m3) + ((-n2) * m17)) (m17 * m3) ((n23 * m10) + ((-n9) * m24)) (m24 * m10) ∧ LinQ C D H' z138 (-n2) m3 (-n9) m10 ∧ LinQ C D H' z145 (n2 * n30) (m3 * m31) (n9 * n30) (m10 * m31) ∧ LinQ C D H' z158 (n2 * n30) (m3 * m31) (n9 * n30) (m10 * m31) ∧ LinQ C D H' z171 ((n2 * m3) + (n2 * m3)) (m3 * m3) ((n9 * m10) + (n9 * m10)) (m10 * m10) ∧ LinQ C D H' z177 ((n2 * m3) + ((-n2) * m3)) (m3 * m3) ((n9 * m10) + ((-n9) * m10)) (m10 * m10) ∧ σ' = [some (.ref a), some (.ref (p : Addr)), some (.ref t1), some (.ref t8), some (.ref t15), some (.ref t22), some (.ref t29), some (.ref t36), some (.ref z51), some (.ref z63), some (v67), some (v72), some (.ref t77), some (.ref t79), some (.ref t81), some (.ref t83), some (.ref t189), o191]) ⟨_, W, S, hz51, hz63, hv67, hv72, hz89, hz102, hz115, hz128, hz138, hz145, hz158, hz171, hz177, rfl⟩ (fun _ _ _ _ ⟨_, W, _⟩ => SqL.of (W.at (List.Mem.tail _ (List.Mem.tail _ (List.Mem.tail _ (List.Mem.tail _ (List.Mem.tail _ (List.Mem.tail _ (List.Mem.tail _ (List.Mem.tail _ (List.Mem.tail _ (List.Mem.tail _ (List.Mem.head _))))))))))))) ?_ ?_⟩
    · skip
      rintro i yy σ' H192 hi ⟨o191, W, S, hz51, hz63, hv67, hv72, hz89, hz102, hz115, hz128, hz138, hz145, hz158, hz171, hz177, rfl⟩
      match i, hi with
      | 0, hi =>
        cases hi
        refine ⟨_, rfl, _, _, _, _, rfl, rfl, SqT.of (W.at (List.Mem.tail _ (List.Mem.tail _ (List.Mem.tail _ (List.Mem.tail _ (List.Mem.tail _ (List.Mem.tail _ (List.Mem.tail _ (List.Mem.tail _ (List.Mem.tail _ (List.Mem.tail _ (List.Mem.tail _ (List.Mem.head _))))))))))))), rfl, _, rfl, _, _, _, _, rfl, rfl, SqT.of (W.at (List.Mem.tail _ (List.Mem.tail _ (List.Mem.tail _ (List.Mem.tail _ (List.Mem.tail _ (List.Mem.tail _ (List.Mem.tail _ (List.Mem.tail _ (List.Mem.tail _ (List.Mem.tail _ (List.Mem.tail _ (List.Mem.head _))))))))))))), rfl, _, rfl, _, _, _, _, rfl, rfl, SqT.of (W.at (List.Mem.tail _ (List.Mem.tail _ (List.Mem.tail _ (List.Mem.tail _ (List.Mem.tail _ (List.Mem.tail _ (List.Mem.tail _ (List.Mem.tail _ (List.Mem.tail _ (List.Mem.tail _ (List.Mem.tail _ (List.Mem.head _))))))))))))), rfl, _, rfl, _, rfl, z51, t1, t8, t36, v72, n2, m3, n9, m10, n37, m38, rfl, hz51, (W.at (List.Mem.head _)), (W.at (List.Mem.tail _ (List.Mem.head _))), (W.at (List.Mem.tail _ (List.Mem.tail _ (List.Mem.tail _ (List.Mem.tail _ (List.Mem.tail _ (List.Mem.head _))))))), hv72, pm3, pm10, pm38, (ub bn2 (by decide)), (ub bm3 (by decide)), (ub bn9 (by decide)), (ub bm10 (by decide)), (ub bn37 (by decide)), (ub bm38 (by decide)), fun H193 s194 => ?_⟩
        have hz51 := hz51.same s194
        have hz63 := hz63.same s194
        have hv67 := hv67.same s194
        have hv72 := hv72.same s194
        have hz89 := hz89.same s194
        have hz102 := hz102.same s194
        have hz115 := hz115.same s194
        have hz128 := hz128.same s194
        have hz138 := hz138.same s194
        have hz145 := hz145.same s194
        have hz158 := hz158.same s194
        have hz171 := hz171.same s194
        have hz177 := hz177.same s194
        have W := W.same s194
        have S := S.trans (same_keeps s194)
        refine ⟨_, rfl, iteF ?_⟩
        exact ⟨_, W, S, hz51, hz63, hv67, hv72, hz89, hz102, hz115, hz128, hz138, hz145, hz158, hz171, hz177, rfl⟩
      | 1, hi =>
        cases hi
        refine ⟨_, rfl, _, _, _, _, rfl, rfl, SqT.of (W.at (List.Mem.tail _ (List.Mem.tail _ (List.Mem.tail _ (List.Mem.tail _ (List.Mem.tail _ (List.Mem.tail _ (List.Mem.tail _ (List.Mem.tail _ (List.Mem.tail _ (List.Mem.tail _ (List.Mem.tail _ (List.Mem.tail _ (List.Mem.head _)))))))))))))), rfl, _, rfl, _, _, _, _, rfl, rfl, SqT.of (W.at (List.Mem.tail _ (List.Mem.tail _ (List.Mem.tail _ (List.Mem.tail _ (List.Mem.tail _ (List.Mem.tail _ (List.Mem.tail _ (List.Mem.tail _ (List.Mem.tail _ (List.Mem.tail _ (List.Mem.tail _ (List.Mem.tail _ (List.Mem.head _)))))))))))))), rfl, _, rfl, _, _, _, _, rfl, rfl, SqT.of (W.at (List.Mem.tail _ (List.Mem.tail _ (List.Mem.tail _ (List.Mem.tail _ (List.Mem.tail _ (List.Mem.tail _ (List.Mem.tail _ (List.Mem.tail _ (List.Mem.tail _ (List.Mem.tail _ (List.Mem.tail _ (List.Mem.tail _ (List.Mem.head _)))))))))))))), rfl, _, rfl, _, rfl, z63, t15, t22, t36, v72, n16, m17, n23, m24, n37, m38, rfl, hz63, (W.at (List.Mem.tail _ (List.Mem.tail _ (List.Mem.head _)))), (W.at (List.Mem.tail _ (List.Mem.tail _ (List.Mem.tail _ (List.Mem.head _))))), (W.at (List.Mem.tail _ (List.Mem.tail _ (List.Mem.tail _ (List.Mem.tail _ (List.Mem.tail _ (List.Mem.head _))))))), hv72, pm17, pm24, pm38, (ub bn16 (by decide)), (ub bm17 (by decide)), (ub bn23 (by decide)), (ub bm24 (by decide)), (ub bn37 (by decide)), (ub bm38 (by decide)), fun H195 s196 => ?_⟩
        have hz51 := hz51.same s196
        have hz63 := hz63.same s196
        have hv67 := hv67.same s196
        have hv72 := hv72.same s196
        have hz89 := hz89.same s196
        have hz102 := hz102.same s196
        have hz115 := hz115.same s196
        have hz128 := hz128.same s196
        have hz138 := hz138.same s196
        have hz145 := hz145.same s196
        have hz158 := hz158.same s196
        have hz171 := hz171.same s196
        have hz177 := hz177.same s196
        have W := W.same s196
        have S := S.trans (same_keeps s196)
        refine ⟨_, rfl, iteF ?_⟩
        exact ⟨_, W, S, hz51, hz63, hv67, hv72, hz89, hz102, hz115, hz128, hz138, hz145, hz158, hz171, hz177, rfl⟩
      | 2, hi =>
        cases hi
        refine ⟨_, rfl, _, _, _, _, rfl, rfl, SqT.of (W.at (List.Mem.tail _ (List.Mem.tail _ (List.Mem.tail _ (List.Mem.tail _ (List.Mem.tail _ (List.Mem.tail _ (List.Mem.tail _ (List.Mem.tail _ (List.Mem.tail _ (List.Mem.tail _ (List.Mem.tail _ (List.Mem.tail _ (List.Mem.tail _ (List.Mem.head _))))))))))))))), rfl, _, rfl, _, _, _, _, rfl, rfl, SqT.of (W.at (List.Mem.tail _ (List.Mem.tail _ (List.Mem.tail _ (List.Mem.tail _ (List.Mem.tail _ (List.Mem.tail _ (List.Mem.tail _ (List.Mem.tail _ (List.Mem.tail _ (List.Mem.tail _ (List.Mem.tail _ (List.Mem.tail _ (List.Mem.tail _ (List.Mem.head _))))))))))))))), rfl, _, rfl, _, _, _, _, rfl, rfl, SqT.of (W.at (List.Mem.tail _ (List.Mem.tail _ (List.Mem.tail _ (List.Mem.tail _ (List.Mem.tail _ (List.Mem.tail _ (List.Mem.tail _ (List.Mem.tail _ (List.Mem.tail _ (List.Mem.tail _ (List.Mem.tail _ (List.Mem.tail _ (List.Mem.tail _ (List.Mem.head _))))))))))))))), rfl, _, rfl, _, rfl, z89, t92, t95, t36, v72, ((n2 * m17) + (n16 * m3)), (m3 * m17), ((n9 * m24) + (n23 * m10)), (m10 * m24), n37, m38, rfl, hz89, (W.at (List.Mem.tail _ (List.Mem.tail _ (List.Mem.tail _ (List.Mem.tail _ (List.Mem.tail _ (List.Mem.tail _ (List.Mem.tail _ (List.Mem.tail _ (List.Mem.tail _ (List.Mem.tail _ (List.Mem.tail _ (List.Mem.tail _ (List.Mem.tail _ (List.Mem.tail _ (List.Mem.head _)))))))))))))))), (W.at (List.Mem.tail _ (List.Mem.tail _ (List.Mem.tail _ (List.Mem.tail _ (List.Mem.tail _ (List.Mem.tail _ (List.Mem.tail _ (List.Mem.tail _ (List.Mem.tail _ (List.Mem.tail _ (List.Mem.tail _ (List.Mem.tail _ (List.Mem.tail _ (List.Mem.tail _ (List.Mem.tail _ (List.Mem.head _))))))))))))))))), (W.at (List.Mem.tail _ (List.Mem.tail _ (List.Mem.tail _ (List.Mem.tail _ (List.Mem.tail _ (List.Mem.head _))))))), hv72, (Int.mul_pos pm3 pm17), (Int.mul_pos pm10 pm24), pm38, (ub (ba (wide_lt bn2 bm17) (wide_lt bn16 bm3)) (by decide)), (ub (wide_lt bm3 bm17) (by decide)), (ub (ba (wide_lt bn9 bm24) (wide_lt bn23 bm10)) (by decide)), (ub (wide_lt bm10 bm24) (by decide)), (ub bn37 (by decide)), (ub bm38 (by decide)), fun H197 s198 => ?_⟩
        have hz51 := hz51.same s198
        have hz63 := hz63.same s198
        have hv67 := hv67.same s198
        have hv72 := hv72.same s198
        have hz89 := hz89.same s198
        have hz102 := hz102.same s198
        have hz115 := hz115.same s198
        have hz128 := hz128.same s198
        have hz138 := hz138.same s198
        have hz145 := hz145.same s198
        have hz158 := hz158.same s198
        have hz171 := hz171.same s198
        have hz177 := hz177.same s198
        have W := W.same s198
        have S := S.trans (same_keeps s198)
        refine ⟨_, rfl, iteF ?_⟩
        exact ⟨_, W, S, hz51, hz63, hv67, hv72, hz89, hz102, hz115, hz128, hz138, hz145, hz158, hz171, hz177, rfl⟩
      | 3, hi =>
        cases hi
        refine ⟨_, rfl, _, _, _, _, rfl, rfl, SqT.of (W.at (List.Mem.tail _ (List.Mem.tail _ (List.Mem.tail _ (List.Mem.tail _ (List.Mem.tail _ (List.Mem.tail _ (List.Mem.tail _ (List.Mem.tail _ (List.Mem.tail _ (List.Mem.tail _ (List.Mem.tail _ (List.Mem.tail _ (List.Mem.tail _ (List.Mem.tail _ (List.Mem.tail _ (List.Mem.tail _ (List.Mem.head _)))))))))))))))))), rfl, _, rfl, _, _, _, _, rfl, rfl, SqT.of (W.at (List.Mem.tail _ (List.Mem.tail _ (List.Mem.tail _ (List.Mem.tail _ (List.Mem.tail _ (List.Mem.tail _ (List.Mem.tail _ (List.Mem.tail _ (List.Mem.tail _ (List.Mem.tail _ (List.Mem.tail _ (List.Mem.tail _ (List.Mem.tail _ (List.Mem.tail _ (List.Mem.tail _ (List.Mem.tail _ (List.Mem.head _)))))))))))))))))), rfl, _, rfl, _, _, _, _, rfl, rfl, SqT.of (W.at (List.Mem.tail _ (List.Mem.tail _ (List.Mem.tail _ (List.Mem.tail _ (List.Mem.tail _ (List.Mem.tail _ (List.Mem.tail _ (List.Mem.tail _ (List.Mem.tail _ (List.Mem.tail _ (List.Mem.tail _ (List.Mem.tail _ (List.Mem.tail _ (List.Mem.tail _ (List.Mem.tail _ (List.Mem.tail _ (List.Mem.head _)))))))))))))))))), rfl, _, rfl, _, rfl, z102, t105, t108, t36, v72, ((n2 * m17) + (n16 * m3)), (m3 * m17), ((n9 * m24) + (n23 * m10)), (m10 * m24), n37, m38, rfl, (hz102.re (Int.ne_of_gt (Int.mul_pos pm17 pm3)) (Int.ne_of_gt (Int.mul_pos pm24 pm10)) (Int.ne_of_gt (Int.mul_pos pm3 pm17)) (Int.ne_of_gt (Int.mul_pos pm10 pm24)) (by grind) (by grind)), (W.at (List.Mem.tail _ (List.Mem.tail _ (List.Mem.tail _ (List.Mem.tail _ (List.Mem.tail _ (List.Mem.tail _ (List.Mem.tail _ (List.Mem.tail _ (List.Mem.tail _ (List.Mem.tail _ (List.Mem.tail _ (List.Mem.tail _ (List.Mem.tail _ (List.Mem.tail _ (List.Mem.tail _ (List.Mem.tail _ (List.Mem.tail _ (List.Mem.head _))))))))))))))))))), (W.at (List.Mem.tail _ (List.Mem.tail _ (List.Mem.tail _ (List.Mem.tail _ (List.Mem.tail _ (List.Mem.tail _ (List.Mem.tail _ (List.Mem.tail _ (List.Mem.tail _ (List.Mem.tail _ (List.Mem.tail _ (List.Mem.tail _ (List.Mem.tail _ (List.Mem.tail _ (List.Mem.tail _ (List.Mem.tail _ (List.Mem.tail _ (List.Mem.tail _ (List.Mem.head _)))))))))))))))))))), (W.at (List.Mem.tail _ (List.Mem.tail _ (List.Mem.tail _ (List.Mem.tail _ (List.Mem.tail _ (List.Mem.head _))))))), hv72, (Int.mul_pos pm3 pm17), (Int.mul_pos pm10 pm24), pm38, (ub (ba (wide_lt bn2 bm17) (wide_lt bn16 bm3)) (by decide)), (ub (wide_lt bm3 bm17) (by decide)), (ub (ba (wide_lt bn9 bm24) (wide_lt bn23 bm10)) (by decide)), (ub (wide_lt bm10 bm24) (by decide)), (ub bn37 (by decide)), (ub bm38 (by decide)), fun H199 s200 => ?_⟩
        have hz51 := hz51.same s200
        have hz63 := hz63.same s200
        have hv67 := hv67.same s200
        have hv72 := hv72.same s200
        have hz89 := hz89.same s200
        have hz102 := hz102.same s200
        have hz115 := hz115.same s200
        have hz128 := hz128.same s200
        have hz138 := hz138.same s200
        have hz145 := hz145.same s200
        have hz158 := hz158.same s200
        have hz171 := hz171.same s200
        have hz177 := hz177.same s200
        have W := W.same s200
        have S := S.trans (same_keeps s200)
        refine ⟨_, rfl, iteF ?_⟩
        exact ⟨_, W, S, hz51, hz63, hv67, hv72, hz89, hz102, hz115, hz128, hz138, hz145, hz158, hz171, hz177, rfl⟩
      | 4, hi =>
        cases hi
        refine ⟨_, rfl, _, _, _, _, rfl, rfl, SqT.of (W.at (List.Mem.tail _ (List.Mem.tail _ (List.Mem.tail _ (List.Mem.tail _ (List.Mem.tail _ (List.Mem.tail _ (List.Mem.tail _ (List.Mem.tail _ (List.Mem.tail _ (List.Mem.tail _ (List.Mem.tail _ (List.Mem.tail _ (List.Mem.tail _ (List.Mem.tail _ (List.Mem.tail _ (List.Mem.tail _ (List.Mem.tail _ (List.Mem.tail _ (List.Mem.tail _ (List.Mem.head _))))))))))))))))))))), rfl, _, rfl, _, _, _, _, rfl, rfl, SqT.of (W.at (List.Mem.tail _ (List.Mem.tail _ (List.Mem.tail _ (List.Mem.tail _ (List.Mem.tail _ (List.Mem.tail _ (List.Mem.tail _ (List.Mem.tail _ (List.Mem.tail _ (List.Mem.tail _ (List.Mem.tail _ (List.Mem.tail _ (List.Mem.tail _ (List.Mem.tail _ (List.Mem.tail _ (List.Mem.tail _ (List.Mem.tail _ (List.Mem.tail _ (List.Mem.tail _ (List.Mem.head _))))))))))))))))))))), rfl, _, rfl, _, _, _, _, rfl, rfl, SqT.of (W.at (List.Mem.tail _ (List.Mem.tail _ (List.Mem.tail _ (List.Mem.tail _ (List.Mem.tail _ (List.Mem.tail _ (List.Mem.tail _ (List.Mem.tail _ (List.Mem.tail _ (List.Mem.tail _ (List.Mem.tail _ (List.Mem.tail _ (List.Mem.tail _ (List.Mem.tail _ (List.Mem.tail _ (List.Mem.tail _ (List.Mem.tail _ (List.Mem.tail _ (List.Mem.tail _ (List.Mem.head _))))))))))))))))))))), rfl, _, rfl, _, rfl, z115, t118, t121, t36, v72, ((n2 * m17) + ((-n16) * m3)), (m3 * m17), ((n9 * m24) + ((-n23) * m10)), (m10 * m24), n37, m38, rfl, hz115, (W.at (List.Mem.tail _ (List.Mem.tail _ (List.Mem.tail _ (List.Mem.tail _ (List.Mem.tail _ (List.Mem.tail _ (List.Mem.tail _ (List.Mem.tail _ (List.Mem.tail _ (List.Mem.tail _ (List.Mem.tail _ (List.Mem.tail _ (List.Mem.tail _ (List.Mem.tail _ (List.Mem.tail _ (List.Mem.tail _ (List.Mem.tail _ (List.Mem.tail _ (List.Mem.tail _ (List.Mem.tail _ (List.Mem.head _)))))))))))))))))))))), (W.at (List.Mem.tail _ (List.Mem.tail _ (List.Mem.tail _ (List.Mem.tail _ (List.Mem.tail _ (List.Mem.tail _ (List.Mem.tail _ (List.Mem.tail _ (List.Mem.tail _ (List.Mem.tail _ (List.Mem.tail _ (List.Mem.tail _ (List.Mem.tail _ (List.Mem.tail _ (List.Mem.tail _ (List.Mem.tail _ (List.Mem.tail _ (List.Mem.tail _ (List.Mem.tail _ (List.Mem.tail _ (List.Mem.tail _ (List.Mem.head _))))))))))))))))))))))), (W.at (List.Mem.tail _ (List.Mem.tail _ (List.Mem.tail _ (List.Mem.tail _ (List.Mem.tail _ (List.Mem.head _))))))), hv72, (Int.mul_pos pm3 pm17), (Int.mul_pos pm10 pm24), pm38, (ub (ba (wide_lt bn2 bm17) (wide_lt (bn bn16) bm3)) (by decide)), (ub (wide_lt bm3 bm17) (by decide)), (ub (ba (wide_lt bn9 bm24) (wide_lt (bn bn23) bm10)) (by decide)), (ub (wide_lt bm10 bm24) (by decide)), (ub bn37 (by decide)), (ub bm38 (by decide)), fun H201 s202 => ?_⟩
        have hz51 := hz51.same s202
        have hz63 := hz63.same s202
        have hv67 := hv67.same s202
        have hv72 := hv72.same s202
        have hz89 := hz89.same s202
        have hz102 := hz102.same s202
        have hz115 := hz115.same s202
        have hz128 := hz128.same s202
        have hz138 := hz138.same s202
        have hz145 := hz145.same s202
        have hz158 := hz158.same s202
        have hz171 := hz171.same s202
        have hz177 := hz177.same s202
        have W := W.same s202
        have S := S.trans (same_keeps s202)
        refine ⟨_, rfl, iteF ?_⟩
        exact ⟨_, W, S, hz51, hz63, hv67, hv72, hz89, hz102, hz115, hz128, hz138, hz145, hz158, hz171, hz177, rfl⟩
      | 5, hi =>
        cases hi
        refine ⟨_, rfl, _, _, _, _, rfl, rfl, SqT.of (W.at (List.Mem.tail _ (List.Mem.tail _ (List.Mem.tail _ (List.Mem.tail _ (List.Mem.tail _ (List.Mem.tail _ (List.Mem.tail _ (List.Mem.tail _ (List.Mem.tail _ (List.Mem.tail _ (List.Mem.tail _ (List.Mem.tail _ (List.Mem.tail _ (List.Mem.tail _ (List.Mem.tail _ (List.Mem.tail _ (List.Mem.tail _ (List.Mem.tail _ (List.Mem.tail _ (List.Mem.tail _ (List.Mem.tail _ (List.Mem.tail _ (List.Mem.head _)))))))))))))))))))))))), rfl, _, rfl, _, _, _, _, rfl, rfl, SqT.of (W.at (List.Mem.tail _ (List.Mem.tail _ (List.Mem.tail _ (List.Mem.tail _ (List.Mem.tail _ (List.Mem.tail _ (List.Mem.tail _ (List.Mem.tail _ (List.Mem.tail _ (List.Mem.tail _ (List.Mem.tail _ (List.Mem.tail _ (List.Mem.tail _ (List.Mem.tail _ (List.Mem.tail _ (List.Mem.tail _ (List.Mem.tail _ (List.Mem.tail _ (List.Mem.tail _ (List.Mem.tail _ (List.Mem.tail _ (List.Mem.tail _ (List.Mem.head _)))))))))))))))))))))))), rfl, _, rfl, _, _, _, _, rfl, rfl, SqT.of (W.at (List.Mem.tail _ (List.Mem.tail _ (List.Mem.tail _ (List.Mem.tail _ (List.Mem.tail _ (List.Mem.tail _ (List.Mem.tail _ (List.Mem.tail _ (List.Mem.tail _ (List.Mem.tail _ (List.Mem.tail _ (List.Mem.tail _ (List.Mem.tail _ (List.Mem.tail _ (List.Mem.tail _ (List.Mem.tail _ (List.Mem.tail _ (List.Mem.tail _ (List.Mem.tail _ (List.Mem.tail _ (List.Mem.tail _ (List.Mem.tail _ (List.Mem.head _)))))))))))))))))))))))), rfl, _, rfl, _, rfl, z128, t131, t134, t36, v72, ((n16 * m3) + ((-n2) * m17)), (m17 * m3), ((n23 * m10) + ((-n9) * m24)), (m24 * m10), n37, m38, rfl, hz128, (W.at (List.Mem.tail _ (List.Mem.tail _ (List.Mem.tail _ (List.Mem.tail _ (List.Mem.tail _ (List.Mem.tail _ (List.Mem.tail _ (List.Mem.tail _ (List.Mem.tail _ (List.Mem.tail _ (List.Mem.tail _ (List.Mem.tail _ (List.Mem.tail _ (List.Mem.tail _ (List.Mem.tail _ (List.Mem.tail _ (List.Mem.tail _ (List.Mem.tail _ (List.Mem.tail _ (List.Mem.tail _ (List.Mem.tail _ (List.Mem.tail _ (List.Mem.tail _ (List.Mem.head _))))))))))))))))))))))))), (W.at (List.Mem.tail _ (List.Mem.tail _ (List.Mem.tail _ (List.Mem.tail _ (List.Mem.tail _ (List.Mem.tail _ (List.Mem.tail _ (List.Mem.tail _ (List.Mem.tail _ (List.Mem.tail _ (List.Mem.tail _ (List.Mem.tail _ (List.Mem.tail _ (List.Mem.tail _ (List.Mem.tail _ (List.Mem.tail _ (List.Mem.tail _ (List.Mem.tail _ (List.Mem.tail _ (List.Mem.tail _ (List.Mem.tail _ (List.Mem.tail _ (List.Mem.tail _ (List.Mem.tail _ (List.Mem.head _)))))))))))))))))))))))))), (W.at (List.Mem.tail _ (List.Mem.tail _ (List.Mem.tail _ (List.Mem.tail _ (List.Mem.tail _ (List.Mem.head _))))))), hv72, (Int.mul_pos pm17 pm3), (Int.mul_pos pm24 pm10), pm38, (ub (ba (wide_lt bn16 bm3) (wide_lt (bn bn2) bm17)) (by decide)), (ub (wide_lt bm17 bm3) (by decide)), (ub (ba (wide_lt bn23 bm10) (wide_lt (bn bn9) bm24)) (by decide)), (ub (wide_lt bm24 bm10) (by decide)), (ub bn37 (by decide)), (ub bm38 (by decide)), fun H203 s204 => ?_⟩
        have hz51 := hz51.same s204
        have hz63 := hz63.same s204
        have hv67 := hv67.same s204
        have hv72 := hv72.same s204
        have hz89 := hz89.same s204
        have hz102 := hz102.same s204
        have hz115 := hz115.same s204
        have hz128 := hz128.same s204
        have hz138 := hz138.same s204
        have hz145 := hz145.same s204
        have hz158 := hz158.same s204
        have hz171 := hz171.same s204
        have hz177 := hz177.same s204
        have W := W.same s204
        have S := S.trans (same_keeps s204)
        refine ⟨_, rfl, iteF ?_⟩
        exact ⟨_, W, S, hz51, hz63, hv67, hv72, hz89, hz102, hz115, hz128, hz138, hz145, hz158, hz171, hz177, rfl⟩
      | 6, hi =>
        cases hi
        refine ⟨_, rfl, _, _, _, _, rfl, rfl, SqT.of (W.at (List.Mem.tail _ (List.Mem.tail _ (List.Mem.tail _ (List.Mem.tail _ (List.Mem.tail _ (List.Mem.tail _ (List.Mem.tail _ (List.Mem.tail _ (List.Mem.tail _ (List.Mem.tail _ (List.Mem.tail _ (List.Mem.tail _ (List.Mem.tail _ (List.Mem.tail _ (List.Mem.tail _ (List.Mem.tail _ (List.Mem.tail _ (List.Mem.tail _ (List.Mem.tail _ (List.Mem.tail _ (List.Mem.tail _ (List.Mem.tail _ (List.Mem.tail _ (List.Mem.tail _ (List.Mem.tail _ (List.Mem.head _))))))))))))))))))))))))))), rfl, _, rfl, _, _, _, _, rfl, rfl, SqT.of (W.at (List.Mem.tail _ (List.Mem.tail _ (List.Mem.tail _ (List.Mem.tail _ (List.Mem.tail _ (List.Mem.tail _ (List.Mem.tail _ (List.Mem.tail _ (List.Mem.tail _ (List.Mem.tail _ (List.Mem.tail _ (List.Mem.tail _ (List.Mem.tail _ (List.Mem.tail _ (List.Mem.tail _ (List.Mem.tail _ (List.Mem.tail _ (List.Mem.tail _ (List.Mem.tail _ (List.Mem.tail _ (List.Mem.tail _ (List.Mem.tail _ (List.Mem.tail _ (List.Mem.tail _ (List.Mem.tail _ (List.Mem.head _))))))))))))))))))))))))))), rfl, _, rfl, _, _, _, _, rfl, rfl, SqT.of (W.at (List.Mem.tail _ (List.Mem.tail _ (List.Mem.tail _ (List.Mem.tail _ (List.Mem.tail _ (List.Mem.tail _ (List.Mem.tail _ (List.Mem.tail _ (List.Mem.tail _ (List.Mem.tail _ (List.Mem.tail _ (List.Mem.tail _ (List.Mem.tail _ (List.Mem.tail _ (List.Mem.tail _ (List.Mem.tail _ (List.Mem.tail _ (List.Mem.tail _ (List.Mem.tail _ (List.Mem.tail _ (List.Mem.tail _ (List.Mem.tail _ (List.Mem.tail _ (List.Mem.tail _ (List.Mem.tail _ (List.Mem.head _))))))))))))))))))))))))))), rfl, _, rfl, _, rfl, z138, t81, t83, t36, v72, (-n2), m3, (-n9), m10, n37, m38, rfl, hz138, (W.at (List.Mem.tail _ (List.Mem.tail _ (List.Mem.tail _ (List.Mem.tail _ (List.Mem.tail _ (List.Mem.tail _ (List.Mem.tail _ (List.Mem.tail _ (List.Mem.head _)))))))))), (W.at (List.Mem.tail _ (List.Mem.tail _ (List.Mem.tail _ (List.Mem.tail _ (List.Mem.tail _ (List.Mem.tail _ (List.Mem.tail _ (List.Mem.tail _ (List.Mem.tail _ (List.Mem.head _))))))))))), (W.at (List.Mem.tail _ (List.Mem.tail _ (List.Mem.tail _ (List.Mem.tail _ (List.Mem.tail _ (List.Mem.head _))))))), hv72, pm3, pm10, pm38, (ub (bn bn2) (by decide)), (ub bm3 (by decide)), (ub (bn bn9) (by decide)), (ub bm10 (by decide)), (ub bn37 (by decide)), (ub bm38 (by decide)), fun H205 s206 => ?_⟩
        have hz51 := hz51.same s206
        have hz63 := hz63.same s206
        have hv67 := hv67.same s206
        have hv72 := hv72.same s206
        have hz89 := hz89.same s206
        have hz102 := hz102.same s206
        have hz115 := hz115.same s206
        have hz128 := hz128.same s206
        have hz138 := hz138.same s206
        have hz145 := hz145.same s206
        have hz158 := hz158.same s206
        have hz171 := hz171.same s206
        have hz177 := hz177.same s206
        have W := W.same s206
        have S := S.trans (same_keeps s206)
        refine ⟨_, rfl, iteF ?_⟩
        exact ⟨_, W, S, hz51, hz63, hv67, hv72, hz89, hz102, hz115, hz128, hz138, hz145, hz158, hz171, hz177, rfl⟩
      | 7, hi =>
        cases hi
        refine ⟨_, rfl, _, _, _, _, rfl, rfl, SqT.of (W.at (List.Mem.tail _ (List.Mem.tail _ (List.Mem.tail _ (List.Mem.tail _ (List.Mem.tail _ (List.Mem.tail _ (List.Mem.tail _ (List.Mem.tail _ (List.Mem.tail _ (List.Mem.tail _ (List.Mem.tail _ (List.Mem.tail _ (List.Mem.tail _ (List.Mem.tail _ (List.Mem.tail _ (List.Mem.tail _ (List.Mem.tail _ (List.Mem.tail _ (List.Mem.tail _ (List.Mem.tail _ (List.Mem.tail _ (List.Mem.tail _ (List.Mem.tail _ (List.Mem.tail _ (List.Mem.tail _ (List.Mem.tail _ (List.Mem.head _)))))))))))))))))))))))))))), rfl, _, rfl, _, _, _, _, rfl, rfl, SqT.of (W.at (List.Mem.tail _ (List.Mem.tail _ (List.Mem.tail _ (List.Mem.tail _ (List.Mem.tail _ (List.Mem.tail _ (List.Mem.tail _ (List.Mem.tail _ (List.Mem.tail _ (List.Mem.tail _ (List.Mem.tail _ (List.Mem.tail _ (List.Mem.tail _ (List.Mem.tail _ (List.Mem.tail _ (List.Mem.tail _ (List.Mem.tail _ (List.Mem.tail _ (List.Mem.tail _ (List.Mem.tail _ (List.Mem.tail _ (List.Mem.tail _ (List.Mem.tail _ (List.Mem.tail _ (List.Mem.tail _ (List.Mem.tail _ (List.Mem.head _)))))))))))))))))))))))))))), rfl, _, rfl, _, _, _, _, rfl, rfl, SqT.of (W.at (List.Mem.tail _ (List.Mem.tail _ (List.Mem.tail _ (List.Mem.tail _ (List.Mem.tail _ (List.Mem.tail _ (List.Mem.tail _ (List.Mem.tail _ (List.Mem.tail _ (List.Mem.tail _ (List.Mem.tail _ (List.Mem.tail _ (List.Mem.tail _ (List.Mem.tail _ (List.Mem.tail _ (List.Mem.tail _ (List.Mem.tail _ (List.Mem.tail _ (List.Mem.tail _ (List.Mem.tail _ (List.Mem.tail _ (List.Mem.tail _ (List.Mem.tail _ (List.Mem.tail _ (List.Mem.tail _ (List.Mem.tail _ (List.Mem.head _)))))))))))))))))))))))))))), rfl, _, rfl, _, rfl, z145, t148, t151, t36, v72, (n2 * n30), (m3 * m31), (n9 * n30), (m10 * m31), n37, m38, rfl, hz145, (W.at (List.Mem.tail _ (List.Mem.tail _ (List.Mem.tail _ (List.Mem.tail _ (List.Mem.tail _ (List.Mem.tail _ (List.Mem.tail _ (List.Mem.tail _ (List.Mem.tail _ (List.Mem.tail _ (List.Mem.tail _ (List.Mem.tail _ (List.Mem.tail _ (List.Mem.tail _ (List.Mem.tail _ (List.Mem.tail _ (List.Mem.tail _ (List.Mem.tail _ (List.Mem.tail _ (List.Mem.tail _ (List.Mem.tail _ (List.Mem.tail _ (List.Mem.tail _ (List.Mem.tail _ (List.Mem.tail _ (List.Mem.tail _ (List.Mem.tail _ (List.Mem.head _))))))))))))))))))))))))))))), (W.at (List.Mem.tail _ (List.Mem.tail _ (List.Mem.tail _ (List.Mem.tail _ (List.Mem.tail _ (List.Mem.tail _ (List.Mem.tail _ (List.Mem.tail _ (List.Mem.tail _ (List.Mem.tail _ (List.Mem.tail _ (List.Mem.tail _ (List.Mem.tail _ (List.Mem.tail _ (List.Mem.tail _ (List.Mem.tail _ (List.Mem.tail _ (List.Mem.tail _ (List.Mem.tail _ (List.Mem.tail _ (List.Mem.tail _ (List.Mem.tail _ (List.Mem.tail _ (List.Mem.tail _ (List.Mem.tail _ (List.Mem.tail _ (List.Mem.tail _ (List.Mem.tail _ (List.Mem.head _)))))))))))))))))))))))))))))), (W.at (List.Mem.tail _ (List.Mem.tail _ (List.Mem.tail _ (List.Mem.tail _ (List.Mem.tail _ (List.Mem.head _))))))), hv72, (Int.mul_pos pm3 pm31), (Int.mul_pos pm10 pm31), pm38, (ub (wide_lt bn2 bn30) (by decide)), (ub (wide_lt bm3 bm31) (by decide)), (ub (wide_lt bn9 bn30) (by decide)), (ub (wide_lt bm10 bm31) (by decide)), (ub bn37 (by decide)), (ub bm38 (by decide)), fun H207 s208 => ?_⟩
        have hz51 := hz51.same s208
        have hz63 := hz63.same s208
        have hv67 := hv67.same s208
        have hv72 := hv72.same s208
        have hz89 := hz89.same s208
        have hz102 := hz102.same s208
        have hz115 := hz115.same s208
        have hz128 := hz128.same s208
        have hz138 := hz138.same s208
        have hz145 := hz145.same s208
        have hz158 := hz158.same s208
        have hz171 := hz171.same s208
        have hz177 := hz177.same s208
        have W := W.same s208
        have S := S.trans (same_keeps s208)
        refine ⟨_, rfl, iteF ?_⟩
        exact ⟨_, W, S, hz51, hz63, hv67, hv72, hz89, hz102, hz115, hz128, hz138, hz145, hz158, hz171, hz177, rfl⟩
      | 8, hi =>
        cases hi
        refine ⟨_, rfl, _, _, _, _, rfl, rfl, SqT.of (W.at (List.Mem.tail _ (List.Mem.tail _ (List.Mem.tail _ (List.Mem.tail _ (List.Mem.tail _ (List.Mem.tail _ (List.Mem.tail _ (List.Mem.tail _ (List.Mem.tail _ (List.Mem.tail _ (List.Mem.tail _ (List.Mem.tail _ (List.Mem.tail _ (List.Mem.tail _ (List.Mem.tail _ (List.Mem.tail _ (List.Mem.tail _ (List.Mem.tail _ (List.Mem.tail _ (List.Mem.tail _ (List.Mem.tail _ (List.Mem.tail _ (List.Mem.tail _ (List.Mem.tail _ (List.Mem.tail _ (List.Mem.tail _ (List.Mem.tail _ (List.Mem.tail _ (List.Mem.tail _ (List.Mem.head _))))))))))))))))))))))))))))))), rfl, _, rfl, _, _, _, _, rfl, rfl, SqT.of (W.at (List.Mem.tail _ (List.Mem.tail _ (List.Mem.tail _ (List.Mem.tail _ (List.Mem.tail _ (List.Mem.tail _ (List.Mem.tail _ (List.Mem.tail _ (List.Mem.tail _ (List.Mem.tail _ (List.Mem.tail _ (List.Mem.tail _ (List.Mem.tail _ (List.Mem.tail _ (List.Mem.tail _ (List.Mem.tail _ (List.Mem.tail _ (List.Mem.tail _ (List.Mem.tail _ (List.Mem.tail _ (List.Mem.tail _ (List.Mem.tail _ (List.Mem.tail _ (List.Mem.tail _ (List.Mem.tail _ (List.Mem.tail _ (List.Mem.tail _ (List.Mem.tail _ (List.Mem.tail _ (List.Mem.head _))))))))))))))))))))))))))))))), rfl, _, rfl, _, _, _, _, rfl, rfl, SqT.of (W.at (List.Mem.tail _ (List.Mem.tail _ (List.Mem.tail _ (List.Mem.tail _ (List.Mem.tail _ (List.Mem.tail _ (List.Mem.tail _ (List.Mem.tail _ (List.Mem.tail _ (List.Mem.tail _ (List.Mem.tail _ (List.Mem.tail _ (List.Mem.tail _ (List.Mem.tail _ (List.Mem.tail _ (List.Mem.tail _ (List.Mem.tail _ (List.Mem.tail _ (List.Mem.tail _ (List.Mem.tail _ (List.Mem.tail _ (List.Mem.tail _ (List.Mem.tail _ (List.Mem.tail _ (List.Mem.tail _ (List.Mem.tail _ (List.Mem.tail _ (List.Mem.tail _ (List.Mem.tail _ (List.Mem.head _))))))))))))))))))))))))))))))), rfl, _, rfl, _, rfl, z158, t161, t164, t36, v72, (n2 * n30), (m3 * m31), (n9 * n30), (m10 * m31), n37, m38, rfl, hz158, (W.at (List.Mem.tail _ (List.Mem.tail _ (List.Mem.tail _ (List.Mem.tail _ (List.Mem.tail _ (List.Mem.tail _ (List.Mem.tail _ (List.Mem.tail _ (List.Mem.tail _ (List.Mem.tail _ (List.Mem.tail _ (List.Mem.tail _ (List.Mem.tail _ (List.Mem.tail _ (List.Mem.tail _ (List.Mem.tail _ (List.Mem.tail _ (List.Mem.tail _ (List.Mem.tail _ (List.Mem.tail _ (List.Mem.tail _ (List.Mem.tail _ (List.Mem.tail _ (List.Mem.tail _ (List.Mem.tail _ (List.Mem.tail _ (List.Mem.tail _ (List.Mem.tail _ (List.Mem.tail _ (List.Mem.tail _ (List.Mem.head _)))))))))))))))))))))))))))))))), (W.at (List.Mem.tail _ (List.Mem.tail _ (List.Mem.tail _ (List.Mem.tail _ (List.Mem.tail _ (List.Mem.tail _ (List.Mem.tail _ (List.Mem.tail _ (List.Mem.tail _ (List.Mem.tail _ (List.Mem.tail _ (List.Mem.tail _ (List.Mem.tail _ (List.Mem.tail _ (List.Mem.tail _ (List.Mem.tail _ (List.Mem.tail _ (List.Mem.tail _ (List.Mem.tail _ (List.Mem.tail _ (List.Mem.tail _ (List.Mem.tail _ (List.Mem.tail _ (List.Mem.tail _ (List.Mem.tail _ (List.Mem.tail _ (List.Mem.tail _ (List.Mem.tail _ (List.Mem.tail _ (List.Mem.tail _ (List.Mem.tail _ (List.Mem.head _))))))))))))))))))))))))))))))))), (W.at (List.Mem.tail _ (List.Mem.tail _ (List.Mem.tail _ (List.Mem.tail _ (List.Mem.tail _ (List.Mem.head _))))))), hv72, (Int.mul_pos pm3 pm31), (Int.mul_pos pm10 pm31), pm38, (ub (wide_lt bn2 bn30) (by decide)), (ub (wide_lt bm3 bm31) (by decide)), (ub (wide_lt bn9 bn30) (by decide)), (ub (wide_lt bm10 bm31) (by decide)), (ub bn37 (by decide)), (ub bm38 (by decide)), fun H209 s210 => ?_⟩
        have hz51 := hz51.same s210
        have hz63 := hz63.same s210
        have hv67 := hv67.same s210
        have hv72 := hv72.same s210
        have hz89 := hz89.same s210
        have hz102 := hz102.same s210
        have hz115 := hz115.same s210
        have hz128 := hz128.same s210
        have hz138 := hz138.same s210
        have hz145 := hz145.same s210
        have hz158 := hz158.same s210
        have hz171 := hz171.same s210
        have hz177 := hz177.same s210
        have W := W.same s210
        have S := S.trans (same_keeps s210)
        refine ⟨_, rfl, iteF ?_⟩
        exact ⟨_, W, S, hz51, hz63, hv67, hv72, hz89, hz102, hz115, hz128, hz138, hz145, hz158, hz171, hz177, rfl⟩
      | 9, hi =>
        cases hi
        refine ⟨_, rfl, _, _, _, _, rfl, rfl, SqT.of (W.at (List.Mem.tail _ (List.Mem.tail _ (List.Mem.tail _ (List.Mem.tail _ (List.Mem.tail _ (List.Mem.tail _ (List.Mem.tail _ (List.Mem.tail _ (List.Mem.tail _ (List.Mem.tail _ (List.Mem.tail _ (List.Mem.tail _ (List.Mem.tail _ (List.Mem.tail _ (List.Mem.tail _ (List.Mem.tail _ (List.Mem.tail _ (List.Mem.tail _ (List.Mem.tail _ (List.Mem.tail _ (List.Mem.tail _ (List.Mem.tail _ (List.Mem.tail _ (List.Mem.tail _ (List.Mem.tail _ (List.Mem.tail _ (List.Mem.tail _ (List.Mem.tail _ (List.Mem.tail _ (List.Mem.tail _ (List.Mem.tail _ (List.Mem.tail _ (List.Mem.head _)))))))))))))))))))))))))))))))))), rfl, _, rfl, _, _, _, _, rfl, rfl, SqT.of (W.at (List.Mem.tail _ (List.Mem.tail _ (List.Mem.tail _ (List.Mem.tail _ (List.Mem.tail _ (List.Mem.tail _ (List.Mem.tail _ (List.Mem.tail _ (List.Mem.tail _ (List.Mem.tail _ (List.Mem.tail _ (List.Mem.tail _ (List.Mem.tail _ (List.Mem.tail _ (List.Mem.tail _ (List.Mem.tail _ (List.Mem.tail _ (List.Mem.tail _ (List.Mem.tail _ (List.Mem.tail _ (List.Mem.tail _ (List.Mem.tail _ (List.Mem.tail _ (List.Mem.tail _ (List.Mem.tail _ (List.Mem.tail _ (List.Mem.tail _ (List.Mem.tail _ (List.Mem.tail _ (List.Mem.tail _ (List.Mem.tail _ (List.Mem.tail _ (List.Mem.head _)))))))))))))))))))))))))))))))))), rfl, _, rfl, _, _, _, _, rfl, rfl, SqT.of (W.at (List.Mem.tail _ (List.Mem.tail _ (List.Mem.tail _ (List.Mem.tail _ (List.Mem.tail _ (List.Mem.tail _ (List.Mem.tail _ (List.Mem.tail _ (List.Mem.tail _ (List.Mem.tail _ (List.Mem.tail _ (List.Mem.tail _ (List.Mem.tail _ (List.Mem.tail _ (List.Mem.tail _ (List.Mem.tail _ (List.Mem.tail _ (List.Mem.tail _ (List.Mem.tail _ (List.Mem.tail _ (List.Mem.tail _ (List.Mem.tail _ (List.Mem.tail _ (List.Mem.tail _ (List.Mem.tail _ (List.Mem.tail _ (List.Mem.tail _ (List.Mem.tail _ (List.Mem.tail _ (List.Mem.tail _ (List.Mem.tail _ (List.Mem.tail _ (List.Mem.head _)))))))))))))))))))))))))))))))))), rfl, _, rfl, _, rfl, z171, t174, t175, t36, v72, (2 * n2), m3, (2 * n9), m10, n37, m38, rfl, (hz171.re (Int.ne_of_gt (Int.mul_pos pm3 pm3)) (Int.ne_of_gt (Int.mul_pos pm10 pm10)) (Int.ne_of_gt pm3) (Int.ne_of_gt pm10) (by grind) (by grind)), (W.at (List.Mem.tail _ (List.Mem.tail _ (List.Mem.tail _ (List.Mem.tail _ (List.Mem.tail _ (List.Mem.tail _ (List.Mem.tail _ (List.Mem.tail _ (List.Mem.tail _ (List.Mem.tail _ (List.Mem.tail _ (List.Mem.tail _ (List.Mem.tail _ (List.Mem.tail _ (List.Mem.tail _ (List.Mem.tail _ (List.Mem.tail _ (List.Mem.tail _ (List.Mem.tail _ (List.Mem.tail _ (List.Mem.tail _ (List.Mem.tail _ (List.Mem.tail _ (List.Mem.tail _ (List.Mem.tail _ (List.Mem.tail _ (List.Mem.tail _ (List.Mem.tail _ (List.Mem.tail _ (List.Mem.tail _ (List.Mem.tail _ (List.Mem.tail _ (List.Mem.tail _ (List.Mem.head _))))))))))))))))))))))))))))))))))), (W.at (List.Mem.tail _ (List.Mem.tail _ (List.Mem.tail _ (List.Mem.tail _ (List.Mem.tail _ (List.Mem.tail _ (List.Mem.tail _ (List.Mem.tail _ (List.Mem.tail _ (List.Mem.tail _ (List.Mem.tail _ (List.Mem.tail _ (List.Mem.tail _ (List.Mem.tail _ (List.Mem.tail _ (List.Mem.tail _ (List.Mem.tail _ (List.Mem.tail _ (List.Mem.tail _ (List.Mem.tail _ (List.Mem.tail _ (List.Mem.tail _ (List.Mem.tail _ (List.Mem.tail _ (List.Mem.tail _ (List.Mem.tail _ (List.Mem.tail _ (List.Mem.tail _ (List.Mem.tail _ (List.Mem.tail _ (List.Mem.tail _ (List.Mem.tail _ (List.Mem.tail _ (List.Mem.tail _ (List.Mem.head _)))))))))))))))))))))))))))))))))))), (W.at (List.Mem.tail _ (List.Mem.tail _ (List.Mem.tail _ (List.Mem.tail _ (List.Mem.tail _ (List.Mem.head _))))))), hv72, pm3, pm10, pm38, (ub (wide_lt (show (2 : Int).natAbs < 2 ^ 3 by decide +kernel) bn2) (by decide)), (ub bm3 (by decide)), (ub (wide_lt (show (2 : Int).natAbs < 2 ^ 3 by decide +kernel) bn9) (by decide)), (ub bm10 (by decide)), (ub bn37 (by decide)), (ub bm38 (by decide)), fun H211 s212 => ?_⟩
        have hz51 := hz51.same s212
        have hz63 := hz63.same s212
        have hv67 := hv67.same s212
        have hv72 := hv72.same s212
        have hz89 := hz89.same s212
        have hz102 := hz102.same s212
        have hz115 := hz115.same s212
        have hz128 := hz128.same s212
        have hz138 := hz138.same s212
        have hz145 := hz145.same s212
        have hz158 := hz158.same s212
        have hz171 := hz171.same s212
        have hz177 := hz177.same s212
        have W := W.same s212
        have S := S.trans (same_keeps s212)
        refine ⟨_, rfl, iteF ?_⟩
        exact ⟨_, W, S, hz51, hz63, hv67, hv72, hz89, hz102, hz115, hz128, hz138, hz145, hz158, hz171, hz177, rfl⟩
      | 10, hi =>
        cases hi
        refine ⟨_, rfl, _, _, _, _, rfl, rfl, SqT.of (W.at (List.Mem.tail _ (List.Mem.tail _ (List.Mem.tail _ (List.Mem.tail _ (List.Mem.tail _ (List.Mem.tail _ (List.Mem.tail _ (List.Mem.tail _ (List.Mem.tail _ (List.Mem.tail _ (List.Mem.tail _ (List.Mem.tail _ (List.Mem.tail _ (List.Mem.tail _ (List.Mem.tail _ (List.Mem.tail _ (List.Mem.tail _ (List.Mem.tail _ (List.Mem.tail _ (List.Mem.tail _ (List.Mem.tail _ (List.Mem.tail _ (List.Mem.tail _ (List.Mem.tail _ (List.Mem.tail _ (List.Mem.tail _ (List.Mem.tail _ (List.Mem.tail _ (List.Mem.tail _ (List.Mem.tail _ (List.Mem.tail _ (List.Mem.tail _ (List.Mem.tail _ (List.Mem.tail _ (List.Mem.tail _ (List.Mem.head _))))))))))))))))))))))))))))))))))))), rfl, _, rfl, _, _, _, _, rfl, rfl, SqT.of (W.at (List.Mem.tail _ (List.Mem.tail _ (List.Mem.tail _ (List.Mem.tail _ (List.Mem.tail _ (List.Mem.tail _ (List.Mem.tail _ (List.Mem.tail _ (List.Mem.tail _ (List.Mem.tail _ (List.Mem.tail _ (List.Mem.tail _ (List.Mem.tail _ (List.Mem.tail _ (List.Mem.tail _ (List.Mem.tail _ (List.Mem.tail _ (List.Mem.tail _ (List.Mem.tail _ (List.Mem.tail _ (List.Mem.tail _ (List.Mem.tail _ (List.Mem.tail _ (List.Mem.tail _ (List.Mem.tail _ (List.Mem.tail _ (List.Mem.tail _ (List.Mem.tail _ (List.Mem.tail _ (List.Mem.tail _ (List.Mem.tail _ (List.Mem.tail _ (List.Mem.tail _ (List.Mem.tail _ (List.Mem.tail _ (List.Mem.head _))))))))))))))))))))))))))))))))))))), rfl, _, rfl, _, _, _, _, rfl, rfl, SqT.of (W.at (List.Mem.tail _ (List.Mem.tail _ (List.Mem.tail _ (List.Mem.tail _ (List.Mem.tail _ (List.Mem.tail _ (List.Mem.tail _ (List.Mem.tail _ (List.Mem.tail _ (List.Mem.tail _ (List.Mem.tail _ (List.Mem.tail _ (List.Mem.tail _ (List.Mem.tail _ (List.Mem.tail _ (List.Mem.tail _ (List.Mem.tail _ (List.Mem.tail _ (List.Mem.tail _ (List.Mem.tail _ (List.Mem.tail _ (List.Mem.tail _ (List.Mem.tail _ (List.Mem.tail _ (List.Mem.tail _ (List.Mem.tail _ (List.Mem.tail _ (List.Mem.tail _ (List.Mem.tail _ (List.Mem.tail _ (List.Mem.tail _ (List.Mem.tail _ (List.Mem.tail _ (List.Mem.tail _ (List.Mem.tail _ (List.Mem.head _))))))))))))))))))))))))))))))))))))), rfl, _, rfl, _, rfl, z177, t180, t181, t36, v72, 0, 1, 0, 1, n37, m38, rfl, (hz177.re (Int.ne_of_gt (Int.mul_pos pm3 pm3)) (Int.ne_of_gt (Int.mul_pos pm10 pm10)) (Int.ne_of_gt (by decide)) (Int.ne_of_gt (by decide)) (by grind) (by grind)), (W.at (List.Mem.tail _ (List.Mem.tail _ (List.Mem.tail _ (List.Mem.tail _ (List.Mem.tail _ (List.Mem.tail _ (List.Mem.tail _ (List.Mem.tail _ (List.Mem.tail _ (List.Mem.tail _ (List.Mem.tail _ (List.Mem.tail _ (List.Mem.tail _ (List.Mem.tail _ (List.Mem.tail _ (List.Mem.tail _ (List.Mem.tail _ (List.Mem.tail _ (List.Mem.tail _ (List.Mem.tail _ (List.Mem.tail _ (List.Mem.tail _ (List.Mem.tail _ (List.Mem.tail _ (List.Mem.tail _ (List.Mem.tail _ (List.Mem.tail _ (List.Mem.tail _ (List.Mem.tail _ (List.Mem.tail _ (List.Mem.tail _ (List.Mem.tail _ (List.Mem.tail _ (List.Mem.tail _ (List.Mem.tail _ (List.Mem.tail _ (List.Mem.head _)))))))))))))))))))))))))))))))))))))), (W.at (List.Mem.tail _ (List.Mem.tail _ (List.Mem.tail _ (List.Mem.tail _ (List.Mem.tail _ (List.Mem.tail _ (List.Mem.tail _ (List.Mem.tail _ (List.Mem.tail _ (List.Mem.tail _ (List.Mem.tail _ (List.Mem.tail _ (List.Mem.tail _ (List.Mem.tail _ (List.Mem.tail _ (List.Mem.tail _ (List.Mem.tail _ (List.Mem.tail _ (List.Mem.tail _ (List.Mem.tail _ (List.Mem.tail _ (List.Mem.tail _ (List.Mem.tail _ (List.Mem.tail _ (List.Mem.tail _ (List.Mem.tail _ (List.Mem.tail _ (List.Mem.tail _ (List.Mem.tail _ (List.Mem.tail _ (List.Mem.tail _ (List.Mem.tail _ (List.Mem.tail _ (List.Mem.tail _ (List.Mem.tail _ (List.Mem.tail _ (List.Mem.tail _ (List.Mem.head _))))))))))))))))))))))))))))))))))))))), (W.at (List.Mem.tail _ (List.Mem.tail _ (List.Mem.tail _ (List.Mem.tail _ (List.Mem.tail _ (List.Mem.head _))))))), hv72, (by decide), (by decide), pm38, (ub (show (0 : Int).natAbs < 2 ^ 1 by decide +kernel) (by decide)), (ub (show (1 : Int).natAbs < 2 ^ 2 by decide +kernel) (by decide)), (ub (show (0 : Int).natAbs < 2 ^ 1 by decide +kernel) (by decide)), (ub (show (1 : Int).natAbs < 2 ^ 2 by decide +kernel) (by decide)), (ub bn37 (by decide)), (ub bm38 (by decide)), fun H213 s214 => ?_⟩
        have hz51 := hz51.same s214
        have hz63 := hz63.same s214
        have hv67 := hv67.same s214
        have hv72 := hv72.same s214
        have hz89 := hz89.same s214
        have hz102 := hz102.same s214
        have hz115 := hz115.same s214
        have hz128 := hz128.same s214
        have hz138 := hz138.same s214
        have hz145 := hz145.same s214
        have hz158 := hz158.same s214
        have hz171 := hz171.same s214
        have hz177 := hz177.same s214
        have W := W.same s214
        have S := S.trans (same_keeps s214)
        refine ⟨_, rfl, iteF ?_⟩
        exact ⟨_, W, S, hz51, hz63, hv67, hv72, hz89, hz102, hz115, hz128, hz138, hz145, hz158, hz171, hz177, rfl⟩
      | 11, hi =>
        cases hi
        refine ⟨_, rfl, _, _, _, _, rfl, rfl, SqT.of (W.at (List.Mem.tail _ (List.Mem.tail _ (List.Mem.tail _ (List.Mem.tail _ (List.Mem.tail _ (List.Mem.tail _ (List.Mem.tail _ (List.Mem.tail _ (List.Mem.tail _ (List.Mem.tail _ (List.Mem.tail _ (List.Mem.tail _ (List.Mem.tail _ (List.Mem.tail _ (List.Mem.tail _ (List.Mem.tail _ (List.Mem.tail _ (List.Mem.tail _ (List.Mem.tail _ (List.Mem.tail _ (List.Mem.tail _ (List.Mem.tail _ (List.Mem.tail _ (List.Mem.tail _ (List.Mem.tail _ (List.Mem.tail _ (List.Mem.tail _ (List.Mem.tail _ (List.Mem.tail _ (List.Mem.tail _ (List.Mem.tail _ (List.Mem.tail _ (List.Mem.tail _ (List.Mem.tail _ (List.Mem.tail _ (List.Mem.tail _ (List.Mem.tail _ (List.Mem.tail _ (List.Mem.head _)))))))))))))))))))))))))))))))))))))))), rfl, _, rfl, _, _, _, _, rfl, rfl, SqT.of (W.at (List.Mem.tail _ (List.Mem.tail _ (List.Mem.tail _ (List.Mem.tail _ (List.Mem.tail _ (List.Mem.tail _ (List.Mem.tail _ (List.Mem.tail _ (List.Mem.tail _ (List.Mem.tail _ (List.Mem.tail _ (List.Mem.tail _ (List.Mem.tail _ (List.Mem.tail _ (List.Mem.tail _ (List.Mem.tail _ (List.Mem.tail _ (List.Mem.tail _ (List.Mem.tail _ (List.Mem.tail _ (List.Mem.tail _ (List.Mem.tail _ (List.Mem.tail _ (List.Mem.tail _ (List.Mem.tail _ (List.Mem.tail _ (List.Mem.tail _ (List.Mem.tail _ (List.Mem.tail _ (List.Mem.tail _ (List.Mem.tail _ (List.Mem.tail _ (List.Mem.tail _ (List.Mem.tail _ (List.Mem.tail _ (List.Mem.tail _ (List.Mem.tail _ (List.Mem.tail _ (List.Mem.head _)))))))))))))))))))))))))))))))))))))))), rfl, _, rfl, _, _, _, _, rfl, rfl, SqT.of (W.at (List.Mem.tail _ (List.Mem.tail _ (List.Mem.tail _ (List.Mem.tail _ (List.Mem.tail _ (List.Mem.tail _ (List.Mem.tail _ (List.Mem.tail _ (List.Mem.tail _ (List.Mem.tail _ (List.Mem.tail _ (List.Mem.tail _ (List.Mem.tail _ (List.Mem.tail _ (List.Mem.tail _ (List.Mem.tail _ (List.Mem.tail _ (List.Mem.tail _ (List.Mem.tail _ (List.Mem.tail _ (List.Mem.tail _ (List.Mem.tail _ (List.Mem.tail _ (List.Mem.tail _ (List.Mem.tail _ (List.Mem.tail _ (List.Mem.tail _ (List.Mem.tail _ (List.Mem.tail _ (List.Mem.tail _ (List.Mem.tail _ (List.Mem.tail _ (List.Mem.tail _ (List.Mem.tail _ (List.Mem.tail _ (List.Mem.tail _ (List.Mem.tail _ (List.Mem.tail _ (List.Mem.head _)))))))))))))))))))))))))))))))))))))))), rfl, _, rfl, _, rfl, z51, t1, t8, t36, v72, n2, m3, n9, m10, n37, m38, rfl, hz51, (W.at (List.Mem.head _)), (W.at (List.Mem.tail _ (List.Mem.head _))), (W.at (List.Mem.tail _ (List.Mem.tail _ (List.Mem.tail _ (List.Mem.tail _ (List.Mem.tail _ (List.Mem.head _))))))), hv72, pm3, pm10, pm38, (ub bn2 (by decide)), (ub bm3 (by decide)), (ub bn9 (by decide)), (ub bm10 (by decide)), (ub bn37 (by decide)), (ub bm38 (by decide)), fun H215 s216 => ?_⟩
        have hz51 := hz51.same s216
        have hz63 := hz63.same s216
        have hv67 := hv67.same s216
        have hv72 := hv72.same s216
        have hz89 := hz89.same s216
        have hz102 := hz102.same s216
        have hz115 := hz115.same s216
        have hz128 := hz128.same s216
        have hz138 := hz138.same s216
        have hz145 := hz145.same s216
        have hz158 := hz158.same s216
        have hz171 := hz171.same s216
        have hz177 := hz177.same s216
        have W := W.same s216
        have S := S.trans (same_keeps s216)
        refine ⟨_, rfl, iteF ?_⟩
        exact ⟨_, W, S, hz51, hz63, hv67, hv72, hz89, hz102, hz115, hz128, hz138, hz145, hz158, hz171, hz177, rfl⟩
      | 12, hi =>
        cases hi
        refine ⟨_, rfl, _, _, _, _, rfl, rfl, SqT.of (W.at (List.Mem.tail _ (List.Mem.tail _ (List.Mem.tail _ (List.Mem.tail _ (List.Mem.tail _ (List.Mem.tail _ (List.Mem.tail _ (List.Mem.tail _ (List.Mem.tail _ (List.Mem.tail _ (List.Mem.tail _ (List.Mem.tail _ (List.Mem.tail _ (List.Mem.tail _ (List.Mem.tail _ (List.Mem.tail _ (List.Mem.tail _ (List.Mem.tail _ (List.Mem.tail _ (List.Mem.tail _ (List.Mem.tail _ (List.Mem.tail _ (List.Mem.tail _ (List.Mem.tail _ (List.Mem.tail _ (List.Mem.tail _ (List.Mem.tail _ (List.Mem.tail _ (List.Mem.tail _ (List.Mem.tail _ (List.Mem.tail _ (List.Mem.tail _ (List.Mem.tail _ (List.Mem.tail _ (List.Mem.tail _ (List.Mem.tail _ (List.Mem.tail _ (List.Mem.tail _ (List.Mem.tail _ (List.Mem.head _))))))))))))))))))))))))))))))))))))))))), rfl, _, rfl, _, _, _, _, rfl, rfl, SqT.of (W.at (List.Mem.tail _ (List.Mem.tail _ (List.Mem.tail _ (List.Mem.tail _ (List.Mem.tail _ (List.Mem.tail _ (List.Mem.tail _ (List.Mem.tail _ (List.Mem.tail _ (List.Mem.tail _ (List.Mem.tail _ (List.Mem.tail _ (List.Mem.tail _ (List.Mem.tail _ (List.Mem.tail _ (List.Mem.tail _ (List.Mem.tail _ (List.Mem.tail _ (List.Mem.tail _ (List.Mem.tail _ (List.Mem.tail _ (List.Mem.tail _ (List.Mem.tail _ (List.Mem.tail _ (List.Mem.tail _ (List.Mem.tail _ (List.Mem.tail _ (List.Mem.tail _ (List.Mem.tail _ (List.Mem.tail _ (List.Mem.tail _ (List.Mem.tail _ (List.Mem.tail _ (List.Mem.tail _ (List.Mem.tail _ (List.Mem.tail _ (List.Mem.tail _ (List.Mem.tail _ (List.Mem.tail _ (List.Mem.head _))))))))))))))))))))))))))))))))))))))))), rfl, _, rfl, _, _, _, _, rfl, rfl, SqT.of (W.at (List.Mem.tail _ (List.Mem.tail _ (List.Mem.tail _ (List.Mem.tail _ (List.Mem.tail _ (List.Mem.tail _ (List.Mem.tail _ (List.Mem.tail _ (List.Mem.tail _ (List.Mem.tail _ (List.Mem.tail _ (List.Mem.tail _ (List.Mem.tail _ (List.Mem.tail _ (List.Mem.tail _ (List.Mem.tail _ (List.Mem.tail _ (List.Mem.tail _ (List.Mem.tail _ (List.Mem.tail _ (List.Mem.tail _ (List.Mem.tail _ (List.Mem.tail _ (List.Mem.tail _ (List.Mem.tail _ (List.Mem.tail _ (List.Mem.tail _ (List.Mem.tail _ (List.Mem.tail _ (List.Mem.tail _ (List.Mem.tail _ (List.Mem.tail _ (List.Mem.tail _ (List.Mem.tail _ (List.Mem.tail _ (List.Mem.tail _ (List.Mem.tail _ (List.Mem.tail _ (List.Mem.tail _ (List.Mem.head _))))))))))))))))))))))))))))))))))))))))), rfl, _, rfl, _, rfl, z63, t15, t22, t36, v72, n16, m17, n23, m24, n37, m38, rfl, hz63, (W.at (List.Mem.tail _ (List.Mem.tail _ (List.Mem.head _)))), (W.at (List.Mem.tail _ (List.Mem.tail _ (List.Mem.tail _ (List.Mem.head _))))), (W.at (List.Mem.tail _ (List.Mem.tail _ (List.Mem.tail _ (List.Mem.tail _ (List.Mem.tail _ (List.Mem.head _))))))), hv72, pm17, pm24, pm38, (ub bn16 (by decide)), (ub bm17 (by decide)), (ub bn23 (by decide)), (ub bm24 (by decide)), (ub bn37 (by decide)), (ub bm38 (by decide)), fun H217 s218 => ?_⟩
        have hz51 := hz51.same s218
        have hz63 := hz63.same s218
        have hv67 := hv67.same s218
        have hv72 := hv72.same s218
        have hz89 := hz89.same s218
        have hz102 := hz102.same s218
        have hz115 := hz115.same s218
        have hz128 := hz128.same s218
        have hz138 := hz138.same s218
        have hz145 := hz145.same s218
        have hz158 := hz158.same s218
        have hz171 := hz171.same s218
        have hz177 := hz177.same s218
        have W := W.same s218
        have S := S.trans (same_keeps s218)
        refine ⟨_, rfl, iteF ?_⟩
        exact ⟨_, W, S, hz51, hz63, hv67, hv72, hz89, hz102, hz115, hz128, hz138, hz145, hz158, hz171, hz177, rfl⟩
      | i + 13, hi => simp at hi
    rintro σ' H219 ⟨o191, W, S, hz51, hz63, hv67, hv72, hz89, hz102, hz115, hz128, hz138, hz145, hz158, hz171, hz177, rfl⟩
    refine ⟨_, rfl, _, rfl, _, _, _, _, rfl, rfl, SqT.of (W.at (List.Mem.head _)), rfl, _, rfl, _, _, _, _, rfl, rfl, SqT.of (W.at (List.Mem.head _)), rfl, fun x220 dx220 nxx220 ndx220 nex220 => ⟨x220, dx220, n2, m3, rfl, upd_same, (ub bm3 (by decide)), fun _ H221 hx220 kx220 => ⟨rfl, ?_⟩, fun h => absurd h (Int.ne_of_gt pm3)⟩⟩
    have sx220 := made nxx220 ndx220 kx220
    have hz51 := hz51.same sx220
    have hz63 := hz63.same sx220
    have hv67 := hv67.same sx220
    have hv72 := hv72.same sx220
    have hz89 := hz89.same sx220
    have hz102 := hz102.same sx220
    have hz115 := hz115.same sx220
    have hz128 := hz128.same sx220
    have hz138 := hz138.same sx220
    have hz145 := hz145.same sx220
    have hz158 := hz158.same sx220
    have hz171 := hz171.same sx220
    have hz177 := hz177.same sx220
    have W := W.same sx220
    have S := S.trans (same_keeps sx220)
    have W := W.got hx220 (by intro _ z; cases z)
    refine ⟨_, rfl, _, _, _, _, rfl, rfl, SqT.of (W.at (List.Mem.tail _ (List.Mem.tail _ (List.Mem.head _)))), rfl, _, rfl, _, _, _, _, rfl, rfl, SqT.of (W.at (List.Mem.tail _ (List.Mem.tail _ (List.Mem.head _)))), rfl, fun x222 dx222 nxx222 ndx222 nex222 => ⟨x222, dx222, n9, m10, rfl, upd_same, (ub bm10 (by decide)), fun _ H223 hx222 kx222 => ⟨rfl, ?_⟩, fun h => absurd h (Int.ne_of_gt pm10)⟩⟩
    have sx222 := made nxx222 ndx222 kx222
    have hz51 := hz51.same sx222
    have hz63 := hz63.same sx222
    have hv67 := hv67.same sx222
    have hv72 := hv72.same sx222
    have hz89 := hz89.same sx222
    have hz102 := hz102.same sx222
    have hz115 := hz115.same sx222
    have hz128 := hz128.same sx222
    have hz138 := hz138.same sx222
    have hz145 := hz145.same sx222
    have hz158 := hz158.same sx222
    have hz171 := hz171.same sx222
    have hz177 := hz177.same sx222
    have W := W.same sx222
    have S := S.trans (same_keeps sx222)
    have W := W.got hx222 (by intro _ z; cases z)
    refine fun z224 dz224 nxz224 ndz224 nez224 => ⟨z224, dz224, _, _, n2, m3, n9, m10, rfl, upd_same, NumQ.same (show NumQ C _ (.ref x220) n2 m3 from .inr ⟨x220, rfl, dx220, (W.at (List.Mem.tail _ (List.Mem.head _)))⟩) (new2 nxz224 ndz224 nez224), NumQ.same (show NumQ C _ (.ref x222) n9 m10 from .inr ⟨x222, rfl, dx222, (W.at (List.Mem.head _))⟩) (new2 nxz224 ndz224 nez224), (Int.ne_of_gt pm3), (Int.ne_of_gt pm10), fun H225 kz224 hz224 => ⟨rfl, ?_⟩⟩
    have s226 := made nxz224 ndz224 kz224
    have hz51 := hz51.same s226
    have hz63 := hz63.same s226
    have hv67 := hv67.same s226
    have hv72 := hv72.same s226
    have hz89 := hz89.same s226
    have hz102 := hz102.same s226
    have hz115 := hz115.same s226
    have hz128 := hz128.same s226
    have hz138 := hz138.same s226
    have hz145 := hz145.same s226
    have hz158 := hz158.same s226
    have hz171 := hz171.same s226
    have hz177 := hz177.same s226
    have W := W.same s226
    have S := S.trans (same_keeps s226)
    refine lop_eqT hz51 hz224 (Int.ne_of_gt pm3) (Int.ne_of_gt pm10) (Int.ne_of_gt pm3) (Int.ne_of_gt pm10) rfl rfl ?_
    refine ⟨_, rfl, iteF ?_⟩
    refine ⟨_, rfl, _, rfl, _, _, _, _, rfl, rfl, SqT.of (W.at (List.Mem.tail _ (List.Mem.tail _ (List.Mem.head _)))), rfl, _, rfl, _, _, _, _, rfl, rfl, SqT.of (W.at (List.Mem.tail _ (List.Mem.tail _ (List.Mem.head _)))), rfl, _, _, rfl, rfl, _, rfl, _, _, _, _, rfl, rfl, SqT.of (W.at (List.Mem.tail _ (List.Mem.tail _ (List.Mem.head _)))), rfl, fun x227 dx227 nxx227 ndx227 nex227 => ⟨x227, dx227, (n2 + m3), m3, rfl, upd_same, (ub bm3 (by decide)), fun _ H228 hx227 kx227 => ⟨rfl, ?_⟩, fun h => absurd h (Int.ne_of_gt pm3)⟩⟩
    have sx227 := made nxx227 ndx227 kx227
    have hz51 := hz51.same sx227
    have hz63 := hz63.same sx227
    have hv67 := hv67.same sx227
    have hv72 := hv72.same sx227
    have hz89 := hz89.same sx227
    have hz102 := hz102.same sx227
    have hz115 := hz115.same sx227
    have hz128 := hz128.same sx227
    have hz138 := hz138.same sx227
    have hz145 := hz145.same sx227
    have hz158 := hz158.same sx227
    have hz171 := hz171.same sx227
    have hz177 := hz177.same sx227
    have hz224 := hz224.same sx227
    have W := W.same sx227
    have S := S.trans (same_keeps sx227)
    have W := W.got hx227 (by intro _ z; cases z)
    refine ⟨_, rfl, _, _, _, _, rfl, rfl, SqT.of (W.at (List.Mem.tail _ (List.Mem.tail _ (List.Mem.tail _ (List.Mem.tail _ (List.Mem.head _)))))), rfl, _, rfl, _, _, _, _, rfl, rfl, SqT.of (W.at (List.Mem.tail _ (List.Mem.tail _ (List.Mem.tail _ (List.Mem.tail _ (List.Mem.head _)))))), rfl, fun x229 dx229 nxx229 ndx229 nex229 => ⟨x229, dx229, n9, m10, rfl, upd_same, (ub bm10 (by decide)), fun _ H230 hx229 kx229 => ⟨rfl, ?_⟩, fun h => absurd h (Int.ne_of_gt pm10)⟩⟩
    have sx229 := made nxx229 ndx229 kx229
    have hz51 := hz51.same sx229
    have hz63 := hz63.same sx229
    have hv67 := hv67.same sx229
    have hv72 := hv72.same sx229
    have hz89 := hz89.same sx229
    have hz102 := hz102.same sx229
    have hz115 := hz115.same sx229
    have hz128 := hz128.same sx229
    have hz138 := hz138.same sx229
    have hz145 := hz145.same sx229
    have hz158 := hz158.same sx229
    have hz171 := hz171.same sx229
    have hz177 := hz177.same sx229
    have hz224 := hz224.same sx229
    have W := W.same sx229
    have S := S.trans (same_keeps sx229)
    have W := W.got hx229 (by intro _ z; cases z)
    refine fun z231 dz231 nxz231 ndz231 nez231 => ⟨z231, dz231, _, _, (n2 + m3), m3, n9, m10, rfl, upd_same, NumQ.same (show NumQ C _ (.ref x227) (n2 + m3) m3 from .inr ⟨x227, rfl, dx227, (W.at (List.Mem.tail _ (List.Mem.head _)))⟩) (new2 nxz231 ndz231 nez231), NumQ.same (show NumQ C _ (.ref x229) n9 m10 from .inr ⟨x229, rfl, dx229, (W.at (List.Mem.head _))⟩) (new2 nxz231 ndz231 nez231), (Int.ne_of_gt pm3), (Int.ne_of_gt pm10), fun H232 kz231 hz231 => ⟨rfl, ?_⟩⟩
    have s233 := made nxz231 ndz231 kz231
    have hz51 := hz51.same s233
    have hz63 := hz63.same s233
    have hv67 := hv67.same s233
    have hv72 := hv72.same s233
    have hz89 := hz89.same s233
    have hz102 := hz102.same s233
    have hz115 := hz115.same s233
    have hz128 := hz128.same s233
    have hz138 := hz138.same s233
    have hz145 := hz145.same s233
    have hz158 := hz158.same s233
    have hz171 := hz171.same s233
    have hz177 := hz177.same s233
    have hz224 := hz224.same s233
    have W := W.same s233
    have S := S.trans (same_keeps s233)
    refine lop_eqF hz51 hz231 (Int.ne_of_gt pm3) (Int.ne_of_gt pm10) (Int.ne_of_gt pm3) (Int.ne_of_gt pm10) (.inl (up1 pm3)) ?_
    refine ⟨_, rfl, iteF ?_⟩
    refine ⟨_, rfl, _, rfl, _, _, _, _, rfl, rfl, SqT.of (W.at (List.Mem.tail _ (List.Mem.tail _ (List.Mem.tail _ (List.Mem.tail _ (List.Mem.head _)))))), rfl, _, rfl, _, _, _, _, rfl, rfl, SqT.of (W.at (List.Mem.tail _ (List.Mem.tail _ (List.Mem.tail _ (List.Mem.tail _ (List.Mem.head _)))))), rfl, fun x234 dx234 nxx234 ndx234 nex234 => ⟨x234, dx234, n2, m3, rfl, upd_same, (ub bm3 (by decide)), fun _ H235 hx234 kx234 => ⟨rfl, ?_⟩, fun h => absurd h (Int.ne_of_gt pm3)⟩⟩
    have sx234 := made nxx234 ndx234 kx234
    have hz51 := hz51.same sx234
    have hz63 := hz63.same sx234
    have hv67 := hv67.same sx234
    have hv72 := hv72.same sx234
    have hz89 := hz89.same sx234
    have hz102 := hz102.same sx234
    have hz115 := hz115.same sx234
    have hz128 := hz128.same sx234
    have hz138 := hz138.same sx234
    have hz145 := hz145.same sx234
    have hz158 := hz158.same sx234
    have hz171 := hz171.same sx234
    have hz177 := hz177.same sx234
    have hz224 := hz224.same sx234
    have hz231 := hz231.same sx234
    have W := W.same sx234
    have S := S.trans (same_keeps sx234)
    have W := W.got hx234 (by intro _ z; cases z)
    refine ⟨_, rfl, _, _, _, _, rfl, rfl, SqT.of (W.at (List.Mem.tail _ (List.Mem.tail _ (List.Mem.tail _ (List.Mem.tail _ (List.Mem.tail _ (List.Mem.tail _ (List.Mem.head _)))))))), rfl, _, rfl, _, _, _, _, rfl, rfl, SqT.of (W.at (List.Mem.tail _ (List.Mem.tail _ (List.Mem.tail _ (List.Mem.tail _ (List.Mem.tail _ (List.Mem.tail _ (List.Mem.head _)))))))), rfl, _, _, rfl, rfl, _, rfl, _, _, _, _, rfl, rfl, SqT.of (W.at (List.Mem.tail _ (List.Mem.tail _ (List.Mem.tail _ (List.Mem.tail _ (List.Mem.tail _ (List.Mem.tail _ (List.Mem.head _)))))))), rfl, fun x236 dx236 nxx236 ndx236 nex236 => ⟨x236, dx236, (n9 - m10), m10, rfl, upd_same, (ub bm10 (by decide)), fun _ H237 hx236 kx236 => ⟨rfl, ?_⟩, fun h => absurd h (Int.ne_of_gt pm10)⟩⟩
    have sx236 := made nxx236 ndx236 kx236
    have hz51 := hz51.same sx236
    have hz63 := hz63.same sx236
    have hv67 := hv67.same sx236
    have hv72 := hv72.same sx236
    have hz89 := hz89.same sx236
    have hz102 := hz102.same sx236
    have hz115 := hz115.same sx236
    have hz128 := hz128.same sx236
    have hz138 := hz138.same sx236
    have hz145 := hz145.same sx236
    have hz158 := hz158.same sx236
    have hz171 := hz171.same sx236
    have hz177 := hz177.same sx236
    have hz224 := hz224.same sx236
    have hz231 := hz231.same sx236
    have W := W.same sx236
    have S := S.trans (same_keeps sx236)
    have W := W.got hx236 (by intro _ z; cases z)
    refine fun z238 dz238 nxz238 ndz238 nez238 => ⟨z238, dz238, _, _, n2, m3, (n9 - m10), m10, rfl, upd_same, NumQ.same (show NumQ C _ (.ref x234) n2 m3 from .inr ⟨x234, rfl, dx234, (W.at (List.Mem.tail _ (List.Mem.head _)))⟩) (new2 nxz238 ndz238 nez238), NumQ.same (show NumQ C _ (.ref x236) (n9 - m10) m10 from .inr ⟨x236, rfl, dx236, (W.at (List.Mem.head _))⟩) (new2 nxz238 ndz238 nez238), (Int.ne_of_gt pm3), (Int.ne_of_gt pm10), fun H239 kz238 hz238 => ⟨rfl, ?_⟩⟩
    have s240 := made nxz238 ndz238 kz238
    have hz51 := hz51.same s240
    have hz63 := hz63.same s240
    have hv67 := hv67.same s240
    have hv72 := hv72.same s240
    have hz89 := hz89.same s240
    have hz102 := hz102.same s240
    have hz115 := hz115.same s240
    have hz128 := hz128.same s240
    have hz138 := hz138.same s240
    have hz145 := hz145.same s240
    have hz158 := hz158.same s240
    have hz171 := hz171.same s240
    have hz177 := hz177.same s240
    have hz224 := hz224.same s240
    have hz231 := hz231.same s240
    have W := W.same s240
    have S := S.trans (same_keeps s240)
    refine lop_eqF hz51 hz238 (Int.ne_of_gt pm3) (Int.ne_of_gt pm10) (Int.ne_of_gt pm3) (Int.ne_of_gt pm10) (.inr (dn1 pm10)) ?_
    exact ⟨_, rfl, k _⟩
end
end L

set_option Elab.async false
set_option linter.all false
set_option maxRecDepth 100000
set_option maxHeartbeats 4000000
set_option pp.maxSteps 160
set_option pp.deepTerms false
namespace L
open PySem PySem.Spec PyProof.Rows L2 Fl
local macro_rules | `(tactic| walk_at "side") => `(tactic| first | (exact .inl ⟨by omega, by omega⟩) | (exact .inr ⟨by omega, by omega⟩) | (exact .inr ⟨by decide, by decide⟩) | (show (_ : Int) ≠ _; omega) | (exact ⟨by omega, by decide⟩) | (exact ⟨by decide, by decide, by decide⟩))
local macro_rules | `(tactic| walk_at "go") => `(tactic| repeat (first | refine ⟨_, rfl, ?_⟩ | refine ⟨_, _, rfl, rfl, ?_⟩ | refine .inl ⟨_, rfl, ?_⟩ | refine ⟨rfl, ?_⟩ | refine ⟨(by walk_at "side"), ?_⟩))
local macro_rules | `(tactic| walk_at "see") => `(tactic| (set_option pp.maxSteps 110 in set_option pp.deepTerms false in trace_state))
local macro_rules | `(tactic| walk_at "if") => `(tactic| first | refine ifE ?_ ?_ | refine ifNE ?_ ?_ | refine ifD ?_ ?_ | refine ifN ?_ ?_ | refine ifB ?_ ?_)
section
variable {P : Program} {w : World} {K : PySem.W.Frag} {mg : Str → Option Value} {base : Heap}
end

theorem kit_type {K : PySem.W.Frag} {t : Addr} {n : String} {b : Bool} (hk : PySem.W.kitMeta n = true) (hs : PySem.W.subIn K (.ref t) (.type n) = some b) : PySem.W.kitOne K (.ref t) (.type n) = some b := by
  unfold PySem.W.kitOne
  rw [if_neg (by intro h; cases beq_iff_eq.mp h)]
  show (if PySem.W.kitMeta n = true then PySem.W.subIn K (.ref t) (.type n) else none) = some b
  rw [if_pos hk]
  exact hs
theorem all_mk {l : PySem.W.OpenLaw} {w : World} {K : PySem.W.Frag} {h : Heap} {mg : Str → Option Value} {fa : Addr} (X : K.In h) (G : h.Ns mainGlobals mg) (hfa : mg "law" = some (.ref fa))
    {C : Addr} {fRatio_init tD : Addr} {ocRatio_init kVRatio_init dcRatio_init pmRatio_init cdRatio_init ctRatio_init : Value} {odRatio_init anRatio_init : Option Addr} {slRatio_init : Array (Option Value)} {ocD : Value} {odD : Option Addr} {tkD : Tok} {nD : Nat} {slD : Array (Option Value)} {ZU : Addr} {fRatio_add : Addr} {ocRatio_add kVRatio_add dcRatio_add pmRatio_add cdRatio_add ctRatio_add : Value} {odRatio_add anRatio_add : Option Addr} {slRatio_add : Array (Option Value)} {fRatio_radd : Addr} {ocRatio_radd kVRatio_radd dcRatio_radd pmRatio_radd cdRatio_radd ctRatio_radd : Value} {odRatio_radd anRatio_radd : Option Addr} {slRatio_radd : Array (Option Value)} {fRatio_sub : Addr} {ocRatio_sub kVRatio_sub dcRatio_sub pmRatio_sub cdRatio_sub ctRatio_sub : Value} {odRatio_sub anRatio_sub : Option Addr} {slRatio_sub : Array (Option Value)} {fRatio_rsub : Addr} {ocRatio_rsub kVRatio_rsub dcRatio_rsub pmRatio_rsub cdRatio_rsub ctRatio_rsub : Value} {odRatio_rsub anRatio_rsub : Option Addr} {slRatio_rsub : Array (Option Value)} {fRatio_mul : Addr} {ocRatio_mul kVRatio_mul dcRatio_mul pmRatio_mul cdRatio_mul ctRatio_mul : Value} {odRatio_mul anRatio_mul : Option Addr} {slRatio_mul : Array (Option Value)} {fRatio_rmul : Addr} {ocRatio_rmul kVRatio_rmul dcRatio_rmul pmRatio_rmul cdRatio_rmul ctRatio_rmul : Value} {odRatio_rmul anRatio_rmul : Option Addr} {slRatio_rmul : Array (Option Value)} {fRatio_neg : Addr} {ocRatio_neg kVRatio_neg dcRatio_neg pmRatio_neg cdRatio_neg ctRatio_neg : Value} {odRatio_neg anRatio_neg : Option Addr} {slRatio_neg : Array (Option Value)} {fRatio_eq : Addr} {ocRatio_eq kVRatio_eq dcRatio_eq pmRatio_eq cdRatio_eq ctRatio_eq : Value} {odRatio_eq anRatio_eq : Option Addr} {slRatio_eq : Array (Option Value)} {D : Addr} {fLine_init : Addr} {ocLine_init kVLine_init dcLine_init pmLine_init cdLine_init ctLine_init : Value} {odLine_init anLine_init : Option Addr} {slLine_init : Array (Option Value)} {fLine_call : Addr} {ocLine_call kVLine_call dcLine_call pmLine_call cdLine_call ctLine_call : Value} {odLine_call anLine_call : Option Addr} {slLine_call : Array (Option Value)} {fLine_neg : Addr} {ocLine_neg kVLine_neg dcLine_neg pmLine_neg cdLine_neg ctLine_neg : Value} {odLine_neg anLine_neg : Option Addr} {slLine_neg : Array (Option Value)} {fLine_add : Addr} {ocLine_add kVLine_add dcLine_add pmLine_add cdLine_add ctLine_add : Value} {odLine_add anLine_add : Option Addr} {slLine_add : Array (Option Value)} {fLine_sub : Addr} {ocLine_sub kVLine_sub dcLine_sub pmLine_sub cdLine_sub ctLine_sub : Value} {odLine_sub anLine_sub : Option Addr} {slLine_sub : Array (Option Value)} {fLine_mul : Addr} {ocLine_mul kVLine_mul dcLine_mul pmLine_mul cdLine_mul ctLine_mul : Value} {odLine_mul anLine_mul : Option Addr} {slLine_mul : Array (Option Value)} {fLine_rmul : Addr} {ocLine_rmul kVLine_rmul dcLine_rmul pmLine_rmul cdLine_rmul ctLine_rmul : Value} {odLine_rmul anLine_rmul : Option Addr} {slLine_rmul : Array (Option Value)} {fLine_eq : Addr} {ocLine_eq kVLine_eq dcLine_eq pmLine_eq cdLine_eq ctLine_eq : Value} {odLine_eq anLine_eq : Option Addr} {slLine_eq : Array (Option Value)} {fpool : Addr} {ocpool kVpool dcpool pmpool cdpool ctpool : Value} {odpool anpool : Option Addr} {slpool : Array (Option Value)} {fmix : Addr} {ocmix kVmix dcmix pmmix cdmix ctmix : Value} {odmix anmix : Option Addr} {slmix : Array (Option Value)} {fdraw : Addr} {ocdraw kVdraw dcdraw pmdraw cddraw ctdraw : Value} {oddraw andraw : Option Addr} {sldraw : Array (Option Value)} {fwide : Addr} {ocwide kVwide dcwide pmwide cdwide ctwide : Value} {odwide anwide : Option Addr} {slwide : Array (Option Value)} {fany : Addr} {ocany kVany dcany pmany cdany ctany : Value} {odany anany : Option Addr} {slany : Array (Option Value)} {feither : Addr} {oceither kVeither dceither pmeither cdeither cteither : Value} {odeither aneither : Option Addr} {sleither : Array (Option Value)} {fwhole : Addr} {ocwhole kVwhole dcwhole pmwhole cdwhole ctwhole : Value} {odwhole anwhole : Option Addr} {slwhole : Array (Option Value)} {fratio : Addr} {ocratio kVratio dcratio pmratio cdratio ctratio : Value} {odratio anratio : Option Addr} {slratio : Array (Option Value)} {fsame : Addr} {ocsame kVsame dcsame pmsame cdsame ctsame : Value} {odsame ansame : Option Addr} {slsame : Array (Option Value)} {fgive : Addr} {ocgive kVgive dcgive pmgive cdgive ctgive : Value} {odgive angive : Option Addr} {slgive : Array (Option Value)} {ffraction : Addr} {ocfraction kVfraction dcfraction pmfraction cdfraction ctfraction : Value} {odfraction anfraction : Option Addr} {slfraction : Array (Option Value)} {fplus : Addr} {ocplus kVplus dcplus pmplus cdplus ctplus : Value} {odplus anplus : Option Addr} {slplus : Array (Option Value)} {ftimes : Addr} {octimes kVtimes dctimes pmtimes cdtimes cttimes : Value} {odtimes antimes : Option Addr} {sltimes : Array (Option Value)} {fis_line : Addr} {ocis_line kVis_line dcis_line pmis_line cdis_line ctis_line : Value} {odis_line anis_line : Option Addr} {slis_line : Array (Option Value)} {fis_number : Addr} {ocis_number kVis_number dcis_number pmis_number cdis_number ctis_number : Value} {odis_number anis_number : Option Addr} {slis_number : Array (Option Value)} {fas_ratio : Addr} {ocas_ratio kVas_ratio dcas_ratio pmas_ratio cdas_ratio ctas_ratio : Value} {odas_ratio anas_ratio : Option Addr} {slas_ratio : Array (Option Value)} {ftop_of : Addr} {octop_of kVtop_of dctop_of pmtop_of cdtop_of cttop_of : Value} {odtop_of antop_of : Option Addr} {sltop_of : Array (Option Value)} {funder_of : Addr} {ocunder_of kVunder_of dcunder_of pmunder_of cdunder_of ctunder_of : Value} {odunder_of anunder_of : Option Addr} {slunder_of : Array (Option Value)} {flaw : Addr} {oclaw kVlaw dclaw pmlaw cdlaw ctlaw : Value} {odlaw anlaw : Option Addr} {sllaw : Array (Option Value)}
    (zlen : PySem.W.nsIn K mainGlobals "len" = some none)
    (zint : PySem.W.nsIn K mainGlobals "int" = some none)
    (zabs : PySem.W.nsIn K mainGlobals "abs" = some none)
    (zrange : PySem.W.nsIn K mainGlobals "range" = some none)
    (zisinstance : PySem.W.nsIn K mainGlobals "isinstance" = some none)
    (zmax : PySem.W.nsIn K mainGlobals "max" = some none)
    (zmin : PySem.W.nsIn K mainGlobals "min" = some none)
    (zsum : PySem.W.nsIn K mainGlobals "sum" = some none)
    (zstr : PySem.W.nsIn K mainGlobals "str" = some none)
    (zbool : PySem.W.nsIn K mainGlobals "bool" = some none)
    (zlist : PySem.W.nsIn K mainGlobals "list" = some none)
    (zValueError : PySem.W.nsIn K mainGlobals "ValueError" = some none)
    (zNI : PySem.W.nsIn K mainGlobals "NotImplemented" = some none)
    (aC : PySem.W.nsIn K mainGlobals "Ratio" = some (some (.ref C)))
    (pgC : PySem.W.plainGet K C Str.empty = true)
    (hdC : PySem.W.hasDictIn K C = true)
    (poC : PySem.W.plainOver K C = true)
    (saC : PySem.W.findIn K (.ref C) "__setattr__" = some (some (.builtin "object.__setattr__")))
    (mkC : PySem.W.makesIn K C = true)
    (kcC : PySem.W.keepIn K (.ref C) = true)
    (nTC : PySem.W.findIn K (.ref C) "top" = some none)
    (nUC : PySem.W.findIn K (.ref C) "under" = some none)
    (haC : PySem.W.findIn K (.ref C) "__class__" = some (some (.builtin "object.__class__")))
    (hnO : PySem.W.specialIn K (.builtin "object.__class__") "__get__" = some (some (.builtin "getset_descriptor.__get__")))
    (htO : PySem.W.takesIn K (.builtin "object.__class__") = some true)
    (hmC : PySem.W.mroIn K C (.type "object") = some true)
    (siC : PySem.W.subIn K (.type "int") (.ref C) = some false)
    (tyC : PySem.W.typeIn K (.ref C) = some (.type "type"))
    (aRatio_init : PySem.W.findIn K (.ref C) "__init__" = some (some (.ref fRatio_init)))
    (iRatio_init : PySem.W.isFn K (.ref fRatio_init) = true)
    (lRatio_init : K.lookup fRatio_init = some ⟨ocRatio_init, odRatio_init, .func (PySem.W.fnOf "__init__" "Ratio.__init__" (defArgs s_Ratio_init) (defBody s_Ratio_init) (defScope s_Ratio_init) (.ref tD) kVRatio_init dcRatio_init pmRatio_init anRatio_init cdRatio_init ctRatio_init), slRatio_init⟩)
    (cRatio_init : PySem.W.codeIn K cdRatio_init "Ratio.__init__" = true)
    (kRatio_init : PySem.W.keepIn K (.ref fRatio_init) = true)
    (lD : K.lookup tD = some ⟨ocD, odD, .seq #[.int 1 tkD] nD, slD⟩)
    (aGcd : PySem.W.nsIn K mainGlobals "gcd" = some (some (.builtin "math.gcd")))
    (aZU : PySem.W.nsIn K mainGlobals "ZeroUnder" = some (some (.ref ZU)))
    (xZU : PySem.W.excIn K ZU [.type "ValueError", .type "Exception", .type "BaseException", .type "object"] "ValueError.__new__" = true)
    (keZU : PySem.W.keepIn K (.ref ZU) = true)
    (beZU : PySem.W.subIn K (.ref ZU) (.type "BaseException") = some true)
    (teZU : PySem.W.typeIn K (.ref ZU) = some (.type "type"))
    (seZU : PySem.W.subIn K (.ref ZU) (.ref ZU) = some true)
    (geZU : PySem.W.findIn K (.ref ZU) "__getattribute__" = some (some (.builtin "BaseException.__getattribute__")))
    (ggZU : PySem.W.findIn K (.ref ZU) "__getattr__" = some none)
    (hdZU : PySem.W.hasDictIn K ZU = true)
    (hcZU : PySem.W.findIn K (.ref ZU) "__class__" = some (some (.builtin "object.__class__")))
    (hoZU : PySem.W.mroIn K ZU (.type "object") = some true)
    (veZU : PySem.W.subIn K (.ref ZU) (.type "ValueError") = some true)
    (ziAdd : PySem.W.findIn K (.type "int") "__add__" = some (some (.builtin "int.__add__")))
    (zjAdd : PySem.W.findIn K (.type "int") "__radd__" = some (some (.builtin "int.__radd__")))
    (ziSub : PySem.W.findIn K (.type "int") "__sub__" = some (some (.builtin "int.__sub__")))
    (zjSub : PySem.W.findIn K (.type "int") "__rsub__" = some (some (.builtin "int.__rsub__")))
    (ziMult : PySem.W.findIn K (.type "int") "__mul__" = some (some (.builtin "int.__mul__")))
    (zjMult : PySem.W.findIn K (.type "int") "__rmul__" = some (some (.builtin "int.__rmul__")))
    (hSF : PySem.W.selfFirst K C = true)
    (scI : PySem.W.subIn K (.ref C) (.type "int") = some false)
    (kmI : PySem.W.kitMeta "int" = true)
    (aRatio_add : PySem.W.findIn K (.ref C) "__add__" = some (some (.ref fRatio_add)))
    (iRatio_add : PySem.W.isFn K (.ref fRatio_add) = true)
    (lRatio_add : K.lookup fRatio_add = some ⟨ocRatio_add, odRatio_add, .func (PySem.W.fnOf "__add__" "Ratio.__add__" (defArgs s_Ratio_add) (defBody s_Ratio_add) (defScope s_Ratio_add) .none kVRatio_add dcRatio_add pmRatio_add anRatio_add cdRatio_add ctRatio_add), slRatio_add⟩)
    (cRatio_add : PySem.W.codeIn K cdRatio_add "Ratio.__add__" = true)
    (kRatio_add : PySem.W.keepIn K (.ref fRatio_add) = true)
    (aRatio_radd : PySem.W.findIn K (.ref C) "__radd__" = some (some (.ref fRatio_radd)))
    (iRatio_radd : PySem.W.isFn K (.ref fRatio_radd) = true)
    (lRatio_radd : K.lookup fRatio_radd = some ⟨ocRatio_radd, odRatio_radd, .func (PySem.W.fnOf "__radd__" "Ratio.__radd__" (defArgs s_Ratio_radd) (defBody s_Ratio_radd) (defScope s_Ratio_radd) .none kVRatio_radd dcRatio_radd pmRatio_radd anRatio_radd cdRatio_radd ctRatio_radd), slRatio_radd⟩)
    (cRatio_radd : PySem.W.codeIn K cdRatio_radd "Ratio.__radd__" = true)
    (kRatio_radd : PySem.W.keepIn K (.ref fRatio_radd) = true)
    (aRatio_sub : PySem.W.findIn K (.ref C) "__sub__" = some (some (.ref fRatio_sub)))
    (iRatio_sub : PySem.W.isFn K (.ref fRatio_sub) = true)
    (lRatio_sub : K.lookup fRatio_sub = some ⟨ocRatio_sub, odRatio_sub, .func (PySem.W.fnOf "__sub__" "Ratio.__sub__" (defArgs s_Ratio_sub) (defBody s_Ratio_sub) (defScope s_Ratio_sub) .none kVRatio_sub dcRatio_sub pmRatio_sub anRatio_sub cdRatio_sub ctRatio_sub), slRatio_sub⟩)
    (cRatio_sub : PySem.W.codeIn K cdRatio_sub "Ratio.__sub__" = true)
    (kRatio_sub : PySem.W.keepIn K (.ref fRatio_sub) = true)
    (aRatio_rsub : PySem.W.findIn K (.ref C) "__rsub__" = some (some (.ref fRatio_rsub)))
    (iRatio_rsub : PySem.W.isFn K (.ref fRatio_rsub) = true)
    (lRatio_rsub : K.lookup fRatio_rsub = some ⟨ocRatio_rsub, odRatio_rsub, .func (PySem.W.fnOf "__rsub__" "Ratio.__rsub__" (defArgs s_Ratio_rsub) (defBody s_Ratio_rsub) (defScope s_Ratio_rsub) .none kVRatio_rsub dcRatio_rsub pmRatio_rsub anRatio_rsub cdRatio_rsub ctRatio_rsub), slRatio_rsub⟩)
    (cRatio_rsub : PySem.W.codeIn K cdRatio_rsub "Ratio.__rsub__" = true)
    (kRatio_rsub : PySem.W.keepIn K (.ref fRatio_rsub) = true)
    (aRatio_mul : PySem.W.findIn K (.ref C) "__mul__" = some (some (.ref fRatio_mul)))
    (iRatio_mul : PySem.W.isFn K (.ref fRatio_mul) = true)
    (lRatio_mul : K.lookup fRatio_mul = some ⟨ocRatio_mul, odRatio_mul, .func (PySem.W.fnOf "__mul__" "Ratio.__mul__" (defArgs s_Ratio_mul) (defBody s_Ratio_mul) (defScope s_Ratio_mul) .none kVRatio_mul dcRatio_mul pmRatio_mul anRatio_mul cdRatio_mul ctRatio_mul), slRatio_mul⟩)
    (cRatio_mul : PySem.W.codeIn K cdRatio_mul "Ratio.__mul__" = true)
    (kRatio_mul : PySem.W.keepIn K (.ref fRatio_mul) = true)
    (aRatio_rmul : PySem.W.findIn K (.ref C) "__rmul__" = some (some (.ref fRatio_rmul)))
    (iRatio_rmul : PySem.W.isFn K (.ref fRatio_rmul) = true)
    (lRatio_rmul : K.lookup fRatio_rmul = some ⟨ocRatio_rmul, odRatio_rmul, .func (PySem.W.fnOf "__rmul__" "Ratio.__rmul__" (defArgs s_Ratio_rmul) (defBody s_Ratio_rmul) (defScope s_Ratio_rmul) .none kVRatio_rmul dcRatio_rmul pmRatio_rmul anRatio_rmul cdRatio_rmul ctRatio_rmul), slRatio_rmul⟩)
    (cRatio_rmul : PySem.W.codeIn K cdRatio_rmul "Ratio.__rmul__" = true)
    (kRatio_rmul : PySem.W.keepIn K (.ref fRatio_rmul) = true)
    (aRatio_neg : PySem.W.findIn K (.ref C) "__neg__" = some (some (.ref fRatio_neg)))
    (iRatio_neg : PySem.W.isFn K (.ref fRatio_neg) = true)
    (lRatio_neg : K.lookup fRatio_neg = some ⟨ocRatio_neg, odRatio_neg, .func (PySem.W.fnOf "__neg__" "Ratio.__neg__" (defArgs s_Ratio_neg) (defBody s_Ratio_neg) (defScope s_Ratio_neg) .none kVRatio_neg dcRatio_neg pmRatio_neg anRatio_neg cdRatio_neg ctRatio_neg), slRatio_neg⟩)
    (cRatio_neg : PySem.W.codeIn K cdRatio_neg "Ratio.__neg__" = true)
    (kRatio_neg : PySem.W.keepIn K (.ref fRatio_neg) = true)
    (aRatio_eq : PySem.W.findIn K (.ref C) "__eq__" = some (some (.ref fRatio_eq)))
    (iRatio_eq : PySem.W.isFn K (.ref fRatio_eq) = true)
    (lRatio_eq : K.lookup fRatio_eq = some ⟨ocRatio_eq, odRatio_eq, .func (PySem.W.fnOf "__eq__" "Ratio.__eq__" (defArgs s_Ratio_eq) (defBody s_Ratio_eq) (defScope s_Ratio_eq) .none kVRatio_eq dcRatio_eq pmRatio_eq anRatio_eq cdRatio_eq ctRatio_eq), slRatio_eq⟩)
    (cRatio_eq : PySem.W.codeIn K cdRatio_eq "Ratio.__eq__" = true)
    (kRatio_eq : PySem.W.keepIn K (.ref fRatio_eq) = true)
    (aD : PySem.W.nsIn K mainGlobals "Line" = some (some (.ref D)))
    (pgD : PySem.W.plainGet K D Str.empty = true)
    (hdD : PySem.W.hasDictIn K D = true)
    (poD : PySem.W.plainOver K D = true)
    (saD : PySem.W.findIn K (.ref D) "__setattr__" = some (some (.builtin "object.__setattr__")))
    (mkD : PySem.W.makesIn K D = true)
    (kcD : PySem.W.keepIn K (.ref D) = true)
    (n1D : PySem.W.findIn K (.ref D) "start" = some none)
    (n2D : PySem.W.findIn K (.ref D) "slope" = some none)
    (haD : PySem.W.findIn K (.ref D) "__class__" = some (some (.builtin "object.__class__")))
    (hmD : PySem.W.mroIn K D (.type "object") = some true)
    (aLine_init : PySem.W.findIn K (.ref D) "__init__" = some (some (.ref fLine_init)))
    (iLine_init : PySem.W.isFn K (.ref fLine_init) = true)
    (lLine_init : K.lookup fLine_init = some ⟨ocLine_init, odLine_init, .func (PySem.W.fnOf "__init__" "Line.__init__" (defArgs s_Line_init) (defBody s_Line_init) (defScope s_Line_init) .none kVLine_init dcLine_init pmLine_init anLine_init cdLine_init ctLine_init), slLine_init⟩)
    (cLine_init : PySem.W.codeIn K cdLine_init "Line.__init__" = true)
    (kLine_init : PySem.W.keepIn K (.ref fLine_init) = true)
    (aLine_call : PySem.W.findIn K (.ref D) "__call__" = some (some (.ref fLine_call)))
    (iLine_call : PySem.W.isFn K (.ref fLine_call) = true)
    (lLine_call : K.lookup fLine_call = some ⟨ocLine_call, odLine_call, .func (PySem.W.fnOf "__call__" "Line.__call__" (defArgs s_Line_call) (defBody s_Line_call) (defScope s_Line_call) .none kVLine_call dcLine_call pmLine_call anLine_call cdLine_call ctLine_call), slLine_call⟩)
    (cLine_call : PySem.W.codeIn K cdLine_call "Line.__call__" = true)
    (kLine_call : PySem.W.keepIn K (.ref fLine_call) = true)
    (aLine_neg : PySem.W.findIn K (.ref D) "__neg__" = some (some (.ref fLine_neg)))
    (iLine_neg : PySem.W.isFn K (.ref fLine_neg) = true)
    (lLine_neg : K.lookup fLine_neg = some ⟨ocLine_neg, odLine_neg, .func (PySem.W.fnOf "__neg__" "Line.__neg__" (defArgs s_Line_neg) (defBody s_Line_neg) (defScope s_Line_neg) .none kVLine_neg dcLine_neg pmLine_neg anLine_neg cdLine_neg ctLine_neg), slLine_neg⟩)
    (cLine_neg : PySem.W.codeIn K cdLine_neg "Line.__neg__" = true)
    (kLine_neg : PySem.W.keepIn K (.ref fLine_neg) = true)
    (aLine_add : PySem.W.findIn K (.ref D) "__add__" = some (some (.ref fLine_add)))
    (iLine_add : PySem.W.isFn K (.ref fLine_add) = true)
    (lLine_add : K.lookup fLine_add = some ⟨ocLine_add, odLine_add, .func (PySem.W.fnOf "__add__" "Line.__add__" (defArgs s_Line_add) (defBody s_Line_add) (defScope s_Line_add) .none kVLine_add dcLine_add pmLine_add anLine_add cdLine_add ctLine_add), slLine_add⟩)
    (cLine_add : PySem.W.codeIn K cdLine_add "Line.__add__" = true)
    (kLine_add : PySem.W.keepIn K (.ref fLine_add) = true)
    (aLine_sub : PySem.W.findIn K (.ref D) "__sub__" = some (some (.ref fLine_sub)))
    (iLine_sub : PySem.W.isFn K (.ref fLine_sub) = true)
    (lLine_sub : K.lookup fLine_sub = some ⟨ocLine_sub, odLine_sub, .func (PySem.W.fnOf "__sub__" "Line.__sub__" (defArgs s_Line_sub) (defBody s_Line_sub) (defScope s_Line_sub) .none kVLine_sub dcLine_sub pmLine_sub anLine_sub cdLine_sub ctLine_sub), slLine_sub⟩)
    (cLine_sub : PySem.W.codeIn K cdLine_sub "Line.__sub__" = true)
    (kLine_sub : PySem.W.keepIn K (.ref fLine_sub) = true)
    (aLine_mul : PySem.W.findIn K (.ref D) "__mul__" = some (some (.ref fLine_mul)))
    (iLine_mul : PySem.W.isFn K (.ref fLine_mul) = true)
    (lLine_mul : K.lookup fLine_mul = some ⟨ocLine_mul, odLine_mul, .func (PySem.W.fnOf "__mul__" "Line.__mul__" (defArgs s_Line_mul) (defBody s_Line_mul) (defScope s_Line_mul) .none kVLine_mul dcLine_mul pmLine_mul anLine_mul cdLine_mul ctLine_mul), slLine_mul⟩)
    (cLine_mul : PySem.W.codeIn K cdLine_mul "Line.__mul__" = true)
    (kLine_mul : PySem.W.keepIn K (.ref fLine_mul) = true)
    (aLine_rmul : PySem.W.findIn K (.ref D) "__rmul__" = some (some (.ref fLine_rmul)))
    (iLine_rmul : PySem.W.isFn K (.ref fLine_rmul) = true)
    (lLine_rmul : K.lookup fLine_rmul = some ⟨ocLine_rmul, odLine_rmul, .func (PySem.W.fnOf "__rmul__" "Line.__rmul__" (defArgs s_Line_rmul) (defBody s_Line_rmul) (defScope s_Line_rmul) .none kVLine_rmul dcLine_rmul pmLine_rmul anLine_rmul cdLine_rmul ctLine_rmul), slLine_rmul⟩)
    (cLine_rmul : PySem.W.codeIn K cdLine_rmul "Line.__rmul__" = true)
    (kLine_rmul : PySem.W.keepIn K (.ref fLine_rmul) = true)
    (aLine_eq : PySem.W.findIn K (.ref D) "__eq__" = some (some (.ref fLine_eq)))
    (iLine_eq : PySem.W.isFn K (.ref fLine_eq) = true)
    (lLine_eq : K.lookup fLine_eq = some ⟨ocLine_eq, odLine_eq, .func (PySem.W.fnOf "__eq__" "Line.__eq__" (defArgs s_Line_eq) (defBody s_Line_eq) (defScope s_Line_eq) .none kVLine_eq dcLine_eq pmLine_eq anLine_eq cdLine_eq ctLine_eq), slLine_eq⟩)
    (cLine_eq : PySem.W.codeIn K cdLine_eq "Line.__eq__" = true)
    (kLine_eq : PySem.W.keepIn K (.ref fLine_eq) = true)
    (fnCall : PySem.W.fnIn K fLine_call = true)
    (hSFD : PySem.W.selfFirst K D = true)
    (sCD : PySem.W.subIn K (.ref C) (.ref D) = some false)
    (sDC : PySem.W.subIn K (.ref D) (.ref C) = some false)
    (sDD : PySem.W.subIn K (.ref D) (.ref D) = some true)
    (siD : PySem.W.subIn K (.type "int") (.ref D) = some false)
    (sDI : PySem.W.subIn K (.ref D) (.type "int") = some false)
    (apool : PySem.W.nsIn K mainGlobals "_law_pool" = some (some (.ref fpool)))
    (lpool : K.lookup fpool = some ⟨ocpool, odpool, .func (PySem.W.fnOf "_law_pool" "_law_pool" (defArgs s_pool) (defBody s_pool) (defScope s_pool) .none kVpool dcpool pmpool anpool cdpool ctpool), slpool⟩)
    (cpool : PySem.W.codeIn K cdpool "_law_pool" = true)
    (kpool : PySem.W.keepIn K (.ref fpool) = true)
    (amix : PySem.W.nsIn K mainGlobals "_law_mix" = some (some (.ref fmix)))
    (lmix : K.lookup fmix = some ⟨ocmix, odmix, .func (PySem.W.fnOf "_law_mix" "_law_mix" (defArgs s_mix) (defBody s_mix) (defScope s_mix) .none kVmix dcmix pmmix anmix cdmix ctmix), slmix⟩)
    (cmix : PySem.W.codeIn K cdmix "_law_mix" = true)
    (kmix : PySem.W.keepIn K (.ref fmix) = true)
    (adraw : PySem.W.nsIn K mainGlobals "_law_draw" = some (some (.ref fdraw)))
    (ldraw : K.lookup fdraw = some ⟨ocdraw, oddraw, .func (PySem.W.fnOf "_law_draw" "_law_draw" (defArgs s_draw) (defBody s_draw) (defScope s_draw) .none kVdraw dcdraw pmdraw andraw cddraw ctdraw), sldraw⟩)
    (cdraw : PySem.W.codeIn K cddraw "_law_draw" = true)
    (kdraw : PySem.W.keepIn K (.ref fdraw) = true)
    (awide : PySem.W.nsIn K mainGlobals "_law_wide" = some (some (.ref fwide)))
    (lwide : K.lookup fwide = some ⟨ocwide, odwide, .func (PySem.W.fnOf "_law_wide" "_law_wide" (defArgs s_wide) (defBody s_wide) (defScope s_wide) .none kVwide dcwide pmwide anwide cdwide ctwide), slwide⟩)
    (cwide : PySem.W.codeIn K cdwide "_law_wide" = true)
    (kwide : PySem.W.keepIn K (.ref fwide) = true)
    (aany : PySem.W.nsIn K mainGlobals "_law_any" = some (some (.ref fany)))
    (lany : K.lookup fany = some ⟨ocany, odany, .func (PySem.W.fnOf "_law_any" "_law_any" (defArgs s_any) (defBody s_any) (defScope s_any) .none kVany dcany pmany anany cdany ctany), slany⟩)
    (cany : PySem.W.codeIn K cdany "_law_any" = true)
    (kany : PySem.W.keepIn K (.ref fany) = true)
    (aeither : PySem.W.nsIn K mainGlobals "_law_either" = some (some (.ref feither)))
    (leither : K.lookup feither = some ⟨oceither, odeither, .func (PySem.W.fnOf "_law_either" "_law_either" (defArgs s_either) (defBody s_either) (defScope s_either) .none kVeither dceither pmeither aneither cdeither cteither), sleither⟩)
    (ceither : PySem.W.codeIn K cdeither "_law_either" = true)
    (keither : PySem.W.keepIn K (.ref feither) = true)
    (awhole : PySem.W.nsIn K mainGlobals "_law_whole" = some (some (.ref fwhole)))
    (lwhole : K.lookup fwhole = some ⟨ocwhole, odwhole, .func (PySem.W.fnOf "_law_whole" "_law_whole" (defArgs s_whole) (defBody s_whole) (defScope s_whole) .none kVwhole dcwhole pmwhole anwhole cdwhole ctwhole), slwhole⟩)
    (cwhole : PySem.W.codeIn K cdwhole "_law_whole" = true)
    (kwhole : PySem.W.keepIn K (.ref fwhole) = true)
    (aratio : PySem.W.nsIn K mainGlobals "_law_ratio" = some (some (.ref fratio)))
    (lratio : K.lookup fratio = some ⟨ocratio, odratio, .func (PySem.W.fnOf "_law_ratio" "_law_ratio" (defArgs s_ratio) (defBody s_ratio) (defScope s_ratio) .none kVratio dcratio pmratio anratio cdratio ctratio), slratio⟩)
    (cratio : PySem.W.codeIn K cdratio "_law_ratio" = true)
    (kratio : PySem.W.keepIn K (.ref fratio) = true)
    (asame : PySem.W.nsIn K mainGlobals "_law_same" = some (some (.ref fsame)))
    (lsame : K.lookup fsame = some ⟨ocsame, odsame, .func (PySem.W.fnOf "_law_same" "_law_same" (defArgs s_same) (defBody s_same) (defScope s_same) .none kVsame dcsame pmsame ansame cdsame ctsame), slsame⟩)
    (csame : PySem.W.codeIn K cdsame "_law_same" = true)
    (ksame : PySem.W.keepIn K (.ref fsame) = true)
    (agive : PySem.W.nsIn K mainGlobals "_law_give" = some (some (.ref fgive)))
    (lgive : K.lookup fgive = some ⟨ocgive, odgive, .func (PySem.W.fnOf "_law_give" "_law_give" (defArgs s_give) (defBody s_give) (defScope s_give) .none kVgive dcgive pmgive angive cdgive ctgive), slgive⟩)
    (cgive : PySem.W.codeIn K cdgive "_law_give" = true)
    (kgive : PySem.W.keepIn K (.ref fgive) = true)
    (afraction : PySem.W.nsIn K mainGlobals "_law_fraction" = some (some (.ref ffraction)))
    (lfraction : K.lookup ffraction = some ⟨ocfraction, odfraction, .func (PySem.W.fnOf "_law_fraction" "_law_fraction" (defArgs s_fraction) (defBody s_fraction) (defScope s_fraction) .none kVfraction dcfraction pmfraction anfraction cdfraction ctfraction), slfraction⟩)
    (cfraction : PySem.W.codeIn K cdfraction "_law_fraction" = true)
    (kfraction : PySem.W.keepIn K (.ref ffraction) = true)
    (aplus : PySem.W.nsIn K mainGlobals "_law_plus" = some (some (.ref fplus)))
    (lplus : K.lookup fplus = some ⟨ocplus, odplus, .func (PySem.W.fnOf "_law_plus" "_law_plus" (defArgs s_plus) (defBody s_plus) (defScope s_plus) .none kVplus dcplus pmplus anplus cdplus ctplus), slplus⟩)
    (cplus : PySem.W.codeIn K cdplus "_law_plus" = true)
    (kplus : PySem.W.keepIn K (.ref fplus) = true)
    (atimes : PySem.W.nsIn K mainGlobals "_law_times" = some (some (.ref ftimes)))
    (ltimes : K.lookup ftimes = some ⟨octimes, odtimes, .func (PySem.W.fnOf "_law_times" "_law_times" (defArgs s_times) (defBody s_times) (defScope s_times) .none kVtimes dctimes pmtimes antimes cdtimes cttimes), sltimes⟩)
    (ctimes : PySem.W.codeIn K cdtimes "_law_times" = true)
    (ktimes : PySem.W.keepIn K (.ref ftimes) = true)
    (ais_line : PySem.W.nsIn K mainGlobals "_law_is_line" = some (some (.ref fis_line)))
    (lis_line : K.lookup fis_line = some ⟨ocis_line, odis_line, .func (PySem.W.fnOf "_law_is_line" "_law_is_line" (defArgs s_is_line) (defBody s_is_line) (defScope s_is_line) .none kVis_line dcis_line pmis_line anis_line cdis_line ctis_line), slis_line⟩)
    (cis_line : PySem.W.codeIn K cdis_line "_law_is_line" = true)
    (kis_line : PySem.W.keepIn K (.ref fis_line) = true)
    (ais_number : PySem.W.nsIn K mainGlobals "is_number" = some (some (.ref fis_number)))
    (lis_number : K.lookup fis_number = some ⟨ocis_number, odis_number, .func (PySem.W.fnOf "is_number" "is_number" (defArgs s_is_number) (defBody s_is_number) (defScope s_is_number) .none kVis_number dcis_number pmis_number anis_number cdis_number ctis_number), slis_number⟩)
    (cis_number : PySem.W.codeIn K cdis_number "is_number" = true)
    (kis_number : PySem.W.keepIn K (.ref fis_number) = true)
    (aas_ratio : PySem.W.nsIn K mainGlobals "as_ratio" = some (some (.ref fas_ratio)))
    (las_ratio : K.lookup fas_ratio = some ⟨ocas_ratio, odas_ratio, .func (PySem.W.fnOf "as_ratio" "as_ratio" (defArgs s_as_ratio) (defBody s_as_ratio) (defScope s_as_ratio) .none kVas_ratio dcas_ratio pmas_ratio anas_ratio cdas_ratio ctas_ratio), slas_ratio⟩)
    (cas_ratio : PySem.W.codeIn K cdas_ratio "as_ratio" = true)
    (kas_ratio : PySem.W.keepIn K (.ref fas_ratio) = true)
    (atop_of : PySem.W.nsIn K mainGlobals "_top_of" = some (some (.ref ftop_of)))
    (ltop_of : K.lookup ftop_of = some ⟨octop_of, odtop_of, .func (PySem.W.fnOf "_top_of" "_top_of" (defArgs s_top_of) (defBody s_top_of) (defScope s_top_of) .none kVtop_of dctop_of pmtop_of antop_of cdtop_of cttop_of), sltop_of⟩)
    (ctop_of : PySem.W.codeIn K cdtop_of "_top_of" = true)
    (ktop_of : PySem.W.keepIn K (.ref ftop_of) = true)
    (aunder_of : PySem.W.nsIn K mainGlobals "_under_of" = some (some (.ref funder_of)))
    (lunder_of : K.lookup funder_of = some ⟨ocunder_of, odunder_of, .func (PySem.W.fnOf "_under_of" "_under_of" (defArgs s_under_of) (defBody s_under_of) (defScope s_under_of) .none kVunder_of dcunder_of pmunder_of anunder_of cdunder_of ctunder_of), slunder_of⟩)
    (cunder_of : PySem.W.codeIn K cdunder_of "_under_of" = true)
    (kunder_of : PySem.W.keepIn K (.ref funder_of) = true)
    (alaw : PySem.W.nsIn K mainGlobals "law" = some (some (.ref flaw)))
    (llaw : K.lookup flaw = some ⟨oclaw, odlaw, .func (PySem.W.fnOf "law" "law" (defArgs s_law) (defBody s_law) (defScope s_law) .none kVlaw dclaw pmlaw anlaw cdlaw ctlaw), sllaw⟩)
    (claw : PySem.W.codeIn K cdlaw "law" = true)
    (klaw : PySem.W.keepIn K (.ref flaw) = true) :
    ∃ fd : FuncData, (∀ (s : Shared) (v : Value), BindsTo s fd ⟨[v], []⟩ [("_law_script", v)]) ∧ ∀ base : Heap, K.In base → base.Ns mainGlobals mg → FnOk l.prog w K mg base CX0 7 fa fd ["_law_script"] (spLaw K) := by
  have e := hfa.symm.trans (PySem.W.mg_of X G alaw)
  cases e
  have B : Blt mg := ⟨PySem.W.mg_none_of X G zlen, PySem.W.mg_none_of X G zint, PySem.W.mg_none_of X G zabs, PySem.W.mg_none_of X G zrange, PySem.W.mg_none_of X G zisinstance, PySem.W.mg_none_of X G zmax, PySem.W.mg_none_of X G zmin, PySem.W.mg_none_of X G zsum, PySem.W.mg_none_of X G zstr, PySem.W.mg_none_of X G zbool, PySem.W.mg_none_of X G zlist, PySem.W.mg_none_of X G zValueError⟩
  have hNI := PySem.W.mg_none_of X G zNI
  have gRatio := PySem.W.mg_of X G aC
  have T : RatC K mg C := ⟨⟨pgC, hdC, poC, saC⟩, nTC, nUC, gRatio, haC, hnO, htO, hmC, kit_int hdC tyC siC⟩
  have FI : FunD K "__init__" "Ratio.__init__" (defArgs s_Ratio_init) (defBody s_Ratio_init) (defScope s_Ratio_init) [.int 1] [] fRatio_init _ := ⟨⟨_, _, _, _, _, _, _, _, _, _, rfl, lRatio_init, cRatio_init, .inr ⟨(by intro e; cases e), tD, _, [Value.int 1 tkD], nD, rfl, lD, rfl, .cons ⟨_, rfl⟩ .nil⟩, .inl rfl⟩, kRatio_init⟩
  have hgcd := PySem.W.mg_of X G aGcd
  have gZeroUnder := PySem.W.mg_of X G aZU
  have TZU : ExC K mg "ZeroUnder" ZU := ⟨xZU, gZeroUnder, keZU, beZU, teZU, seZU, ⟨geZU, ggZU, beZU, hdZU, hcZU, hnO, htO, hoZU⟩⟩
  have FRatio_add := fun_mk (st := s_Ratio_add) lRatio_add cRatio_add kRatio_add
  have bRatio_add := FRatio_add.binds (ps := ["self", "other"]) fun _ _ _ _ _ _ us hl => match us, hl with | [_, _], _ => rfl
  have FRatio_radd := fun_mk (st := s_Ratio_radd) lRatio_radd cRatio_radd kRatio_radd
  have bRatio_radd := FRatio_radd.binds (ps := ["self", "other"]) fun _ _ _ _ _ _ us hl => match us, hl with | [_, _], _ => rfl
  have FRatio_sub := fun_mk (st := s_Ratio_sub) lRatio_sub cRatio_sub kRatio_sub
  have bRatio_sub := FRatio_sub.binds (ps := ["self", "other"]) fun _ _ _ _ _ _ us hl => match us, hl with | [_, _], _ => rfl
  have FRatio_rsub := fun_mk (st := s_Ratio_rsub) lRatio_rsub cRatio_rsub kRatio_rsub
  have bRatio_rsub := FRatio_rsub.binds (ps := ["self", "other"]) fun _ _ _ _ _ _ us hl => match us, hl with | [_, _], _ => rfl
  have FRatio_mul := fun_mk (st := s_Ratio_mul) lRatio_mul cRatio_mul kRatio_mul
  have bRatio_mul := FRatio_mul.binds (ps := ["self", "other"]) fun _ _ _ _ _ _ us hl => match us, hl with | [_, _], _ => rfl
  have FRatio_rmul := fun_mk (st := s_Ratio_rmul) lRatio_rmul cRatio_rmul kRatio_rmul
  have bRatio_rmul := FRatio_rmul.binds (ps := ["self", "other"]) fun _ _ _ _ _ _ us hl => match us, hl with | [_, _], _ => rfl
  have FRatio_neg := fun_mk (st := s_Ratio_neg) lRatio_neg cRatio_neg kRatio_neg
  have bRatio_neg := FRatio_neg.binds (ps := ["self"]) fun _ _ _ _ _ _ us hl => match us, hl with | [_], _ => rfl
  have FRatio_eq := fun_mk (st := s_Ratio_eq) lRatio_eq cRatio_eq kRatio_eq
  have bRatio_eq := FRatio_eq.binds (ps := ["self", "other"]) fun _ _ _ _ _ _ us hl => match us, hl with | [_, _], _ => rfl
  have gLine := PySem.W.mg_of X G aD
  have TD : LineC K mg D := ⟨⟨pgD, hdD, poD, saD⟩, n1D, n2D, gLine, haD, hnO, htO, hmD⟩
  have FLine_init := fun_mk (st := s_Line_init) lLine_init cLine_init kLine_init
  have bLine_init := FLine_init.binds (ps := ["self", "start", "slope"]) fun _ _ _ _ _ _ us hl => match us, hl with | [_, _, _], _ => rfl
  have FLine_call := fun_mk (st := s_Line_call) lLine_call cLine_call kLine_call
  have bLine_call := FLine_call.binds (ps := ["self", "k"]) fun _ _ _ _ _ _ us hl => match us, hl with | [_, _], _ => rfl
  have FLine_neg := fun_mk (st := s_Line_neg) lLine_neg cLine_neg kLine_neg
  have bLine_neg := FLine_neg.binds (ps := ["self"]) fun _ _ _ _ _ _ us hl => match us, hl with | [_], _ => rfl
  have FLine_add := fun_mk (st := s_Line_add) lLine_add cLine_add kLine_add
  have bLine_add := FLine_add.binds (ps := ["self", "other"]) fun _ _ _ _ _ _ us hl => match us, hl with | [_, _], _ => rfl
  have FLine_sub := fun_mk (st := s_Line_sub) lLine_sub cLine_sub kLine_sub
  have bLine_sub := FLine_sub.binds (ps := ["self", "other"]) fun _ _ _ _ _ _ us hl => match us, hl with | [_, _], _ => rfl
  have FLine_mul := fun_mk (st := s_Line_mul) lLine_mul cLine_mul kLine_mul
  have bLine_mul := FLine_mul.binds (ps := ["self", "other"]) fun _ _ _ _ _ _ us hl => match us, hl with | [_, _], _ => rfl
  have FLine_rmul := fun_mk (st := s_Line_rmul) lLine_rmul cLine_rmul kLine_rmul
  have bLine_rmul := FLine_rmul.binds (ps := ["self", "other"]) fun _ _ _ _ _ _ us hl => match us, hl with | [_, _], _ => rfl
  have FLine_eq := fun_mk (st := s_Line_eq) lLine_eq cLine_eq kLine_eq
  have bLine_eq := FLine_eq.binds (ps := ["self", "other"]) fun _ _ _ _ _ _ us hl => match us, hl with | [_, _], _ => rfl
  have Fpool := fun_mk (st := s_pool) lpool cpool kpool
  have Dpool : Dfn K mg "_law_pool" "_law_pool" s_pool ["_law_script"] := ⟨fpool, _, Fpool, PySem.W.mg_of X G apool, Fpool.binds (ps := ["_law_script"]) fun _ _ _ _ _ _ us hl => match us, hl with | [_], _ => rfl⟩
  have Fmix := fun_mk (st := s_mix) lmix cmix kmix
  have Dmix : Dfn K mg "_law_mix" "_law_mix" s_mix ["_law_state", "_law_turn", "_law_many"] := ⟨fmix, _, Fmix, PySem.W.mg_of X G amix, Fmix.binds (ps := ["_law_state", "_law_turn", "_law_many"]) fun _ _ _ _ _ _ us hl => match us, hl with | [_, _, _], _ => rfl⟩
  have Fdraw := fun_mk (st := s_draw) ldraw cdraw kdraw
  have Ddraw : Dfn K mg "_law_draw" "_law_draw" s_draw ["_law_pool_here", "_law_many"] := ⟨fdraw, _, Fdraw, PySem.W.mg_of X G adraw, Fdraw.binds (ps := ["_law_pool_here", "_law_many"]) fun _ _ _ _ _ _ us hl => match us, hl with | [_, _], _ => rfl⟩
  have Fwide := fun_mk (st := s_wide) lwide cwide kwide
  have Dwide : Dfn K mg "_law_wide" "_law_wide" s_wide ["_law_pool_here"] := ⟨fwide, _, Fwide, PySem.W.mg_of X G awide, Fwide.binds (ps := ["_law_pool_here"]) fun _ _ _ _ _ _ us hl => match us, hl with | [_], _ => rfl⟩
  have Fany := fun_mk (st := s_any) lany cany kany
  have Dany : Dfn K mg "_law_any" "_law_any" s_any ["_law_pool_here"] := ⟨fany, _, Fany, PySem.W.mg_of X G aany, Fany.binds (ps := ["_law_pool_here"]) fun _ _ _ _ _ _ us hl => match us, hl with | [_], _ => rfl⟩
  have Feither := fun_mk (st := s_either) leither ceither keither
  have Deither : Dfn K mg "_law_either" "_law_either" s_either ["_law_pool_here"] := ⟨feither, _, Feither, PySem.W.mg_of X G aeither, Feither.binds (ps := ["_law_pool_here"]) fun _ _ _ _ _ _ us hl => match us, hl with | [_], _ => rfl⟩
  have Fwhole := fun_mk (st := s_whole) lwhole cwhole kwhole
  have Dwhole : Dfn K mg "_law_whole" "_law_whole" s_whole ["_law_actual"] := ⟨fwhole, _, Fwhole, PySem.W.mg_of X G awhole, Fwhole.binds (ps := ["_law_actual"]) fun _ _ _ _ _ _ us hl => match us, hl with | [_], _ => rfl⟩
  have Fratio := fun_mk (st := s_ratio) lratio cratio kratio
  have Dratio : Dfn K mg "_law_ratio" "_law_ratio" s_ratio ["_law_actual"] := ⟨fratio, _, Fratio, PySem.W.mg_of X G aratio, Fratio.binds (ps := ["_law_actual"]) fun _ _ _ _ _ _ us hl => match us, hl with | [_], _ => rfl⟩
  have Fsame := fun_mk (st := s_same) lsame csame ksame
  have Dsame : Dfn K mg "_law_same" "_law_same" s_same ["_law_actual", "_law_due"] := ⟨fsame, _, Fsame, PySem.W.mg_of X G asame, Fsame.binds (ps := ["_law_actual", "_law_due"]) fun _ _ _ _ _ _ us hl => match us, hl with | [_, _], _ => rfl⟩
  have Fgive := fun_mk (st := s_give) lgive cgive kgive
  have Dgive : Dfn K mg "_law_give" "_law_give" s_give ["_law_pair", "_law_pool_here"] := ⟨fgive, _, Fgive, PySem.W.mg_of X G agive, Fgive.binds (ps := ["_law_pair", "_law_pool_here"]) fun _ _ _ _ _ _ us hl => match us, hl with | [_, _], _ => rfl⟩
  have Ffraction := fun_mk (st := s_fraction) lfraction cfraction kfraction
  have Dfraction : Dfn K mg "_law_fraction" "_law_fraction" s_fraction ["_law_pool_here"] := ⟨ffraction, _, Ffraction, PySem.W.mg_of X G afraction, Ffraction.binds (ps := ["_law_pool_here"]) fun _ _ _ _ _ _ us hl => match us, hl with | [_], _ => rfl⟩
  have Fplus := fun_mk (st := s_plus) lplus cplus kplus
  have Dplus : Dfn K mg "_law_plus" "_law_plus" s_plus ["_law_one", "_law_other"] := ⟨fplus, _, Fplus, PySem.W.mg_of X G aplus, Fplus.binds (ps := ["_law_one", "_law_other"]) fun _ _ _ _ _ _ us hl => match us, hl with | [_, _], _ => rfl⟩
  have Ftimes := fun_mk (st := s_times) ltimes ctimes ktimes
  have Dtimes : Dfn K mg "_law_times" "_law_times" s_times ["_law_one", "_law_other"] := ⟨ftimes, _, Ftimes, PySem.W.mg_of X G atimes, Ftimes.binds (ps := ["_law_one", "_law_other"]) fun _ _ _ _ _ _ us hl => match us, hl with | [_, _], _ => rfl⟩
  have Fis_line := fun_mk (st := s_is_line) lis_line cis_line kis_line
  have Dis_line : Dfn K mg "_law_is_line" "_law_is_line" s_is_line ["_law_line", "_law_start", "_law_slope", "_law_place", "_law_handed"] := ⟨fis_line, _, Fis_line, PySem.W.mg_of X G ais_line, Fis_line.binds (ps := ["_law_line", "_law_start", "_law_slope", "_law_place", "_law_handed"]) fun _ _ _ _ _ _ us hl => match us, hl with | [_, _, _, _, _], _ => rfl⟩
  have Fis_number := fun_mk (st := s_is_number) lis_number cis_number kis_number
  have Dis_number : Dfn K mg "is_number" "is_number" s_is_number ["value"] := ⟨fis_number, _, Fis_number, PySem.W.mg_of X G ais_number, Fis_number.binds (ps := ["value"]) fun _ _ _ _ _ _ us hl => match us, hl with | [_], _ => rfl⟩
  have Fas_ratio := fun_mk (st := s_as_ratio) las_ratio cas_ratio kas_ratio
  have Das_ratio : Dfn K mg "as_ratio" "as_ratio" s_as_ratio ["number"] := ⟨fas_ratio, _, Fas_ratio, PySem.W.mg_of X G aas_ratio, Fas_ratio.binds (ps := ["number"]) fun _ _ _ _ _ _ us hl => match us, hl with | [_], _ => rfl⟩
  have Ftop_of := fun_mk (st := s_top_of) ltop_of ctop_of ktop_of
  have Dtop_of : Dfn K mg "_top_of" "_top_of" s_top_of ["number"] := ⟨ftop_of, _, Ftop_of, PySem.W.mg_of X G atop_of, Ftop_of.binds (ps := ["number"]) fun _ _ _ _ _ _ us hl => match us, hl with | [_], _ => rfl⟩
  have Funder_of := fun_mk (st := s_under_of) lunder_of cunder_of kunder_of
  have Dunder_of : Dfn K mg "_under_of" "_under_of" s_under_of ["number"] := ⟨funder_of, _, Funder_of, PySem.W.mg_of X G aunder_of, Funder_of.binds (ps := ["number"]) fun _ _ _ _ _ _ us hl => match us, hl with | [_], _ => rfl⟩
  have Flaw := fun_mk (st := s_law) llaw claw klaw
  refine ⟨PySem.W.fnOf "law" "law" (defArgs s_law) (defBody s_law) (defScope s_law) .none kVlaw dclaw pmlaw anlaw cdlaw ctlaw, fun s v => .of_eq rfl, fun base _ _ => ?_⟩
  have ⟨M2, M1⟩ := mk_ratio (P := l.prog) (w := w) (base := base) B hgcd T TZU ⟨mkC, aRatio_init, iRatio_init, kcC⟩ FI
  have cmix := ok_mix (P := l.prog) (w := w) (base := base) B Dmix
  have cdraw := ok_draw B Ddraw cmix
  have cwide := ok_wide B Dwide cdraw
  have cany := ok_any B Dany cdraw cwide
  have cpool := ok_pool (P := l.prog) (w := w) (base := base) B Dpool
  have cwhole := ok_whole (P := l.prog) (w := w) (base := base) B Dwhole
  have ceither := ok_either B Deither cdraw cany
  have cratio := ok_ratio B T Dratio cwhole
  have csame := ok_same B T Dsame cratio
  have cgive := ok_give B M2 cdraw Dgive
  have cisn := ok_is_number (P := l.prog) (w := w) (base := base) B T (kit_type kmI scI) Dis_number
  have ctop := ok_top_of (P := l.prog) (w := w) (base := base) B T Dtop_of
  have cund := ok_under_of (P := l.prog) (w := w) (base := base) B T Dunder_of
  have casr := ok_as_ratio B T Das_ratio M1
  have OAdd : Bx.OpOwn l.prog w K mg base 3 C (PySem.dunder (Operator.info .Add).2) ["self", "other"] _ := ⟨_, _, (by rw [show PySem.dunder (Operator.info .Add).2 = ("__add__" : Str) from by decide +kernel]; exact aRatio_add), iRatio_add, ok_add T cisn ctop cund M2 FRatio_add, bRatio_add⟩
  have RAdd : Bx.OpOwn l.prog w K mg base 4 C (dunderR (Operator.info .Add).2) ["self", "other"] _ := ⟨_, _, (by rw [show dunderR (Operator.info .Add).2 = ("__radd__" : Str) from by decide +kernel]; exact aRatio_radd), iRatio_radd, ok_radd T hSF cisn casr OAdd FRatio_radd, bRatio_radd⟩
  have iAdd : PySem.W.findIn K (.type "int") (PySem.dunder (Operator.info .Add).2) = some (some (.builtin "int.__add__")) := (by rw [show PySem.dunder (Operator.info .Add).2 = ("__add__" : Str) from by decide +kernel]; exact ziAdd)
  have jAdd : PySem.W.findIn K (.type "int") (dunderR (Operator.info .Add).2) = some (some (.builtin "int.__radd__")) := (by rw [show dunderR (Operator.info .Add).2 = ("__radd__" : Str) from by decide +kernel]; exact zjAdd)
  have OSub : Bx.OpOwn l.prog w K mg base 3 C (PySem.dunder (Operator.info .Sub).2) ["self", "other"] _ := ⟨_, _, (by rw [show PySem.dunder (Operator.info .Sub).2 = ("__sub__" : Str) from by decide +kernel]; exact aRatio_sub), iRatio_sub, ok_sub T cisn ctop cund M2 FRatio_sub, bRatio_sub⟩
  have RSub : Bx.OpOwn l.prog w K mg base 4 C (dunderR (Operator.info .Sub).2) ["self", "other"] _ := ⟨_, _, (by rw [show dunderR (Operator.info .Sub).2 = ("__rsub__" : Str) from by decide +kernel]; exact aRatio_rsub), iRatio_rsub, ok_rsub T hSF cisn casr OSub FRatio_rsub, bRatio_rsub⟩
  have iSub : PySem.W.findIn K (.type "int") (PySem.dunder (Operator.info .Sub).2) = some (some (.builtin "int.__sub__")) := (by rw [show PySem.dunder (Operator.info .Sub).2 = ("__sub__" : Str) from by decide +kernel]; exact ziSub)
  have jSub : PySem.W.findIn K (.type "int") (dunderR (Operator.info .Sub).2) = some (some (.builtin "int.__rsub__")) := (by rw [show dunderR (Operator.info .Sub).2 = ("__rsub__" : Str) from by decide +kernel]; exact zjSub)
  have OMult : Bx.OpOwn l.prog w K mg base 3 C (PySem.dunder (Operator.info .Mult).2) ["self", "other"] _ := ⟨_, _, (by rw [show PySem.dunder (Operator.info .Mult).2 = ("__mul__" : Str) from by decide +kernel]; exact aRatio_mul), iRatio_mul, ok_mul T cisn ctop cund M2 FRatio_mul, bRatio_mul⟩
  have RMult : Bx.OpOwn l.prog w K mg base 4 C (dunderR (Operator.info .Mult).2) ["self", "other"] _ := ⟨_, _, (by rw [show dunderR (Operator.info .Mult).2 = ("__rmul__" : Str) from by decide +kernel]; exact aRatio_rmul), iRatio_rmul, ok_rmul T hSF cisn casr OMult FRatio_rmul, bRatio_rmul⟩
  have iMult : PySem.W.findIn K (.type "int") (PySem.dunder (Operator.info .Mult).2) = some (some (.builtin "int.__mul__")) := (by rw [show PySem.dunder (Operator.info .Mult).2 = ("__mul__" : Str) from by decide +kernel]; exact ziMult)
  have jMult : PySem.W.findIn K (.type "int") (dunderR (Operator.info .Mult).2) = some (some (.builtin "int.__rmul__")) := (by rw [show dunderR (Operator.info .Mult).2 = ("__rmul__" : Str) from by decide +kernel]; exact zjMult)
  have hRAdd : PySem.W.findIn K (.ref C) (dunderR (Operator.info .Add).2) = some (some (.ref fRatio_radd)) := (by rw [show dunderR (Operator.info .Add).2 = ("__radd__" : Str) from by decide +kernel]; exact aRatio_radd)
  have hRSub : PySem.W.findIn K (.ref C) (dunderR (Operator.info .Sub).2) = some (some (.ref fRatio_rsub)) := (by rw [show dunderR (Operator.info .Sub).2 = ("__rsub__" : Str) from by decide +kernel]; exact aRatio_rsub)
  have hRMult : PySem.W.findIn K (.ref C) (dunderR (Operator.info .Mult).2) = some (some (.ref fRatio_rmul)) := (by rw [show dunderR (Operator.info .Mult).2 = ("__rmul__" : Str) from by decide +kernel]; exact aRatio_rmul)
  have hOMult : PySem.W.findIn K (.ref C) (PySem.dunder (Operator.info .Mult).2) = some (some (.ref fRatio_mul)) := (by rw [show PySem.dunder (Operator.info .Mult).2 = ("__mul__" : Str) from by decide +kernel]; exact aRatio_mul)
  have hRL : PySem.W.findIn K (.ref D) (dunderR (Operator.info .Mult).2) = some (some (.ref fLine_rmul)) := (by rw [show dunderR (Operator.info .Mult).2 = ("__rmul__" : Str) from by decide +kernel]; exact aLine_rmul)
  have hOL : PySem.W.findIn K (.ref D) (PySem.dunder (Operator.info .Mult).2) = some (some (.ref fLine_mul)) := (by rw [show PySem.dunder (Operator.info .Mult).2 = ("__mul__" : Str) from by decide +kernel]; exact aLine_mul)
  have NEG : Bx.OpOwn l.prog w K mg base 3 C "__neg__" ["self"] _ := ⟨_, _, aRatio_neg, iRatio_neg, ok_neg B T M2 FRatio_neg, bRatio_neg⟩
  have Meq : Bx.OpOwn l.prog w K mg base 1 C "__eq__" ["self", "other"] (spEqR K C) := ⟨_, _, aRatio_eq, iRatio_eq, ok_eq B T FRatio_eq, bRatio_eq⟩
  have ML : CalLine l.prog w K mg base C D := ⟨_, _, [], ⟨mkD, aLine_init, iLine_init, kcD⟩, ok_line_init TD (asq_of casr) FLine_init, gLine, bLine_init, .nil⟩
  have LC : Bx.OpCall l.prog w K mg base 4 D ["self", "k"] (spLCall C D) := ⟨_, _, aLine_call, iLine_call, fnCall, ok_lcall TD hSF siC OAdd hRAdd iAdd jAdd OMult hRMult iMult jMult FLine_call, bLine_call⟩
  have LNEG : Bx.OpOwn l.prog w K mg base 6 D "__neg__" ["self"] (spLNeg C D) := ⟨_, _, aLine_neg, iLine_neg, ok_lneg TD ML NEG FLine_neg, bLine_neg⟩
  have LAdd : Bx.OpOwn l.prog w K mg base 6 D (PySem.dunder (Operator.info .Add).2) ["self", "other"] (spLAdd C D) := ⟨_, _, (by rw [show PySem.dunder (Operator.info .Add).2 = ("__add__" : Str) from by decide +kernel]; exact aLine_add), iLine_add, ok_ladd B TD ML hSF siC OAdd hRAdd iAdd jAdd FLine_add, bLine_add⟩
  have LSub : Bx.OpOwn l.prog w K mg base 6 D (PySem.dunder (Operator.info .Sub).2) ["self", "other"] (spLSub C D) := ⟨_, _, (by rw [show PySem.dunder (Operator.info .Sub).2 = ("__sub__" : Str) from by decide +kernel]; exact aLine_sub), iLine_sub, ok_lsub B TD ML hSF siC OSub hRSub iSub jSub FLine_sub, bLine_sub⟩
  have LMUL : Bx.OpOwn l.prog w K mg base 6 D (PySem.dunder (Operator.info .Mult).2) ["self", "other"] (spLMul C D) := ⟨_, _, hOL, iLine_mul, ok_lmul TD ML cisn hSF siC OMult hRMult iMult jMult FLine_mul, bLine_mul⟩
  have LRMUL : Bx.OpOwn l.prog w K mg base 6 D (dunderR (Operator.info .Mult).2) ["self", "other"] (spLMul C D) := ⟨_, _, hRL, iLine_rmul, ok_lrmul TD ML cisn hSF siC OMult hRMult iMult jMult RMult hOMult scI FLine_rmul, bLine_rmul⟩
  have LEQ : Bx.OpOwn l.prog w K mg base 3 D (cmpInfo .Eq).2.1 ["self", "other"] (spLEq C D) := ⟨_, _, aLine_eq, iLine_eq, ok_leq B TD Meq FLine_eq, bLine_eq⟩
  have cnn := ok_nn (P := l.prog) (w := w) (base := base) B T TD (kit_type kmI sDI) (kit_own hdC tyC sDC sDD) Dis_number
  have NIM : Bx.OpNI l.prog w K mg base 2 C (PySem.dunder (Operator.info .Mult).2) ["self", "other"] (spNI C D) := ⟨_, _, hOMult, iRatio_mul, ok_mul_ni cnn hNI FRatio_mul, bRatio_mul⟩
  have neDC : D ≠ C := fun e => by rw [← e, sDD] at sDC; cases sDC
  have cfr := ok_fraction B cdraw cany ceither Dfraction
  have cpl := ok_plus (P := l.prog) (w := w) (base := base) B Dplus
  have cti := ok_times (P := l.prog) (w := w) (base := base) B Dtimes
  have cil := ok_is_line B TD csame cpl cti LC Dis_line
  exact ok_law B T TD Flaw M2 ML cpool cfr cgive cpl cti cil LAdd LSub LNEG LMUL LRMUL LEQ NIM hSF hSFD neDC.symm neDC sCD sDC siD sDI iMult jMult hRMult hOMult hRL hOL
end L

set_option Elab.async false

set_option pp.maxSteps 160
set_option pp.deepTerms false
open PySem PySem.W PyProof.Rows
set_option maxRecDepth 100000 in
set_option maxHeartbeats 0 in
theorem PySem.Challenge.cw_fieldlots_k17_lines_holds : PySem.Challenge.rw_fieldlots_k17_lines.Holds := by
  w_on; o_law; k_head; (case hw => w_witness2)
  k_fill
  refine L2.walk_of (l := PySem.Challenge.rw_fieldlots_k17_lines) (n := 63) (k := 7) (x := "_law_script") (CX := fun _ => L2.CX0) (sp := fun w => L.spLaw _) rfl (by decide) rfl ⟨rfl, by decide, by decide⟩ (fun w h Y => PySem.W.kIn_of Y) ?F (fun _ _ a ns hl _ hS => ⟨a, ns, rfl, hS, hl, fun _ => rfl⟩) (fun _ _ _ _ _ h => h)
  case F =>
    intro w mg fa h KX G hmg
    refine' L.all_mk KX G hmg ?zlen ?zint ?zabs ?zrange ?zisinstance ?zmax ?zmin ?zsum ?zstr ?zbool ?zlist ?zValueError ?zNI ?aC ?pgC ?hdC ?poC ?saC ?mkC ?kcC ?nTC ?nUC ?haC ?hnO ?htO ?hmC ?siC ?tyC ?aRatio_init ?iRatio_init ?lRatio_init ?cRatio_init ?kRatio_init ?lD ?aGcd ?aZU ?xZU ?keZU ?beZU ?teZU ?seZU ?geZU ?ggZU ?hdZU ?hcZU ?hoZU ?veZU ?ziAdd ?zjAdd ?ziSub ?zjSub ?ziMult ?zjMult ?hSF ?scI ?kmI ?aRatio_add ?iRatio_add ?lRatio_add ?cRatio_add ?kRatio_add ?aRatio_radd ?iRatio_radd ?lRatio_radd ?cRatio_radd ?kRatio_radd ?aRatio_sub ?iRatio_sub ?lRatio_sub ?cRatio_sub ?kRatio_sub ?aRatio_rsub ?iRatio_rsub ?lRatio_rsub ?cRatio_rsub ?kRatio_rsub ?aRatio_mul ?iRatio_mul ?lRatio_mul ?cRatio_mul ?kRatio_mul ?aRatio_rmul ?iRatio_rmul ?lRatio_rmul ?cRatio_rmul ?kRatio_rmul ?aRatio_neg ?iRatio_neg ?lRatio_neg ?cRatio_neg ?kRatio_neg ?aRatio_eq ?iRatio_eq ?lRatio_eq ?cRatio_eq ?kRatio_eq ?aD ?pgD ?hdD ?poD ?saD ?mkD ?kcD ?n1D ?n2D ?haD ?hmD ?aLine_init ?iLine_init ?lLine_init ?cLine_init ?kLine_init ?aLine_call ?iLine_call ?lLine_call ?cLine_call ?kLine_call ?aLine_neg ?iLine_neg ?lLine_neg ?cLine_neg ?kLine_neg ?aLine_add ?iLine_add ?lLine_add ?cLine_add ?kLine_add ?aLine_sub ?iLine_sub ?lLine_sub ?cLine_sub ?kLine_sub ?aLine_mul ?iLine_mul ?lLine_mul ?cLine_mul ?kLine_mul ?aLine_rmul ?iLine_rmul ?lLine_rmul ?cLine_rmul ?kLine_rmul ?aLine_eq ?iLine_eq ?lLine_eq ?cLine_eq ?kLine_eq ?fnCall ?hSFD ?sCD ?sDC ?sDD ?siD ?sDI ?apool ?lpool ?cpool ?kpool ?amix ?lmix ?cmix ?kmix ?adraw ?ldraw ?cdraw ?kdraw ?awide ?lwide ?cwide ?kwide ?aany ?lany ?cany ?kany ?aeither ?leither ?ceither ?keither ?awhole ?lwhole ?cwhole ?kwhole ?aratio ?lratio ?cratio ?kratio ?asame ?lsame ?csame ?ksame ?agive ?lgive ?cgive ?kgive ?afraction ?lfraction ?cfraction ?kfraction ?aplus ?lplus ?cplus ?kplus ?atimes ?ltimes ?ctimes ?ktimes ?ais_line ?lis_line ?cis_line ?kis_line ?ais_number ?lis_number ?cis_number ?kis_number ?aas_ratio ?las_ratio ?cas_ratio ?kas_ratio ?atop_of ?ltop_of ?ctop_of ?ktop_of ?aunder_of ?lunder_of ?cunder_of ?kunder_of ?alaw ?llaw ?claw ?klaw
    (case zlen => k_is)
    (case zint => k_is)
    (case zabs => k_is)
    (case zrange => k_is)
    (case zisinstance => k_is)
    (case zmax => k_is)
    (case zmin => k_is)
    (case zsum => k_is)
    (case zstr => k_is)
    (case zbool => k_is)
    (case zlist => k_is)
    (case zValueError => k_is)
    (case zNI => k_is)
    (case aC => k_is)
    (case pgC => k_is)
    (case hdC => k_is)
    (case poC => k_is)
    (case saC => k_is)
    (case mkC => k_is)
    (case kcC => k_is)
    (case nTC => k_is)
    (case nUC => k_is)
    (case haC => k_is)
    (case hnO => k_is)
    (case htO => k_is)
    (case hmC => k_is)
    (case siC => k_is)
    (case tyC => k_is)
    (case aRatio_init => k_is)
    (case iRatio_init => k_is)
    (case lRatio_init => k_is)
    (case cRatio_init => k_is)
    (case kRatio_init => k_is)
    (case lD => k_is)
    (case aGcd => k_is)
    (case aZU => k_is)
    (case xZU => k_exc)
    (case keZU => k_is)
    (case beZU => k_is)
    (case teZU => k_is)
    (case seZU => k_is)
    (case geZU => k_is)
    (case ggZU => k_is)
    (case hdZU => k_is)
    (case hcZU => k_is)
    (case hoZU => k_is)
    (case veZU => k_is)
    (case ziAdd => k_is)
    (case zjAdd => k_is)
    (case ziSub => k_is)
    (case zjSub => k_is)
    (case ziMult => k_is)
    (case zjMult => k_is)
    (case hSF => k_is)
    (case scI => k_is)
    (case kmI => decide +kernel)
    (case aRatio_add => k_is)
    (case iRatio_add => k_is)
    (case lRatio_add => k_is)
    (case cRatio_add => k_is)
    (case kRatio_add => k_is)
    (case aRatio_radd => k_is)
    (case iRatio_radd => k_is)
    (case lRatio_radd => k_is)
    (case cRatio_radd => k_is)
    (case kRatio_radd => k_is)
    (case aRatio_sub => k_is)
    (case iRatio_sub => k_is)
    (case lRatio_sub => k_is)
    (case cRatio_sub => k_is)
    (case kRatio_sub => k_is)
    (case aRatio_rsub => k_is)
    (case iRatio_rsub => k_is)
    (case lRatio_rsub => k_is)
    (case cRatio_rsub => k_is)
    (case kRatio_rsub => k_is)
    (case aRatio_mul => k_is)
    (case iRatio_mul => k_is)
    (case lRatio_mul => k_is)
    (case cRatio_mul => k_is)
    (case kRatio_mul => k_is)
    (case aRatio_rmul => k_is)
    (case iRatio_rmul => k_is)
    (case lRatio_rmul => k_is)
    (case cRatio_rmul => k_is)
    (case kRatio_rmul => k_is)
    (case aRatio_neg => k_is)
    (case iRatio_neg => k_is)
    (case lRatio_neg => k_is)
    (case cRatio_neg => k_is)
    (case kRatio_neg => k_is)
    (case aRatio_eq => k_is)
    (case iRatio_eq => k_is)
    (case lRatio_eq => k_is)
    (case cRatio_eq => k_is)
    (case kRatio_eq => k_is)
    (case aD => k_is)
    (case pgD => k_is)
    (case hdD => k_is)
    (case poD => k_is)
    (case saD => k_is)
    (case mkD => k_is)
    (case kcD => k_is)
    (case n1D => k_is)
    (case n2D => k_is)
    (case haD => k_is)
    (case hmD => k_is)
    (case aLine_init => k_is)
    (case iLine_init => k_is)
    (case lLine_init => k_is)
    (case cLine_init => k_is)
    (case kLine_init => k_is)
    (case aLine_call => k_is)
    (case iLine_call => k_is)
    (case lLine_call => k_is)
    (case cLine_call => k_is)
    (case kLine_call => k_is)
    (case aLine_neg => k_is)
    (case iLine_neg => k_is)
    (case lLine_neg => k_is)
    (case cLine_neg => k_is)
    (case kLine_neg => k_is)
    (case aLine_add => k_is)
    (case iLine_add => k_is)
    (case lLine_add => k_is)
    (case cLine_add => k_is)
    (case kLine_add => k_is)
    (case aLine_sub => k_is)
    (case iLine_sub => k_is)
    (case lLine_sub => k_is)
    (case cLine_sub => k_is)
    (case kLine_sub => k_is)
    (case aLine_mul => k_is)
    (case iLine_mul => k_is)
    (case lLine_mul => k_is)
    (case cLine_mul => k_is)
    (case kLine_mul => k_is)
    (case aLine_rmul => k_is)
    (case iLine_rmul => k_is)
    (case lLine_rmul => k_is)
    (case cLine_rmul => k_is)
    (case kLine_rmul => k_is)
    (case aLine_eq => k_is)
    (case iLine_eq => k_is)
    (case lLine_eq => k_is)
    (case cLine_eq => k_is)
    (case kLine_eq => k_is)
    (case fnCall => k_is)
    (case hSFD => k_is)
    (case sCD => k_is)
    (case sDC => k_is)
    (case sDD => k_is)
    (case siD => k_is)
    (case sDI => k_is)
    (case apool => k_is)
    (case lpool => k_is)
    (case cpool => k_is)
    (case kpool => k_is)
    (case amix => k_is)
    (case lmix => k_is)
    (case cmix => k_is)
    (case kmix => k_is)
    (case adraw => k_is)
    (case ldraw => k_is)
    (case cdraw => k_is)
    (case kdraw => k_is)
    (case awide => k_is)
    (case lwide => k_is)
    (case cwide => k_is)
    (case kwide => k_is)
    (case aany => k_is)
    (case lany => k_is)
    (case cany => k_is)
    (case kany => k_is)
    (case aeither => k_is)
    (case leither => k_is)
    (case ceither => k_is)
    (case keither => k_is)
    (case awhole => k_is)
    (case lwhole => k_is)
    (case cwhole => k_is)
    (case kwhole => k_is)
    (case aratio => k_is)
    (case lratio => k_is)
    (case cratio => k_is)
    (case kratio => k_is)
    (case asame => k_is)
    (case lsame => k_is)
    (case csame => k_is)
    (case ksame => k_is)
    (case agive => k_is)
    (case lgive => k_is)
    (case cgive => k_is)
    (case kgive => k_is)
    (case afraction => k_is)
    (case lfraction => k_is)
    (case cfraction => k_is)
    (case kfraction => k_is)
    (case aplus => k_is)
    (case lplus => k_is)
    (case cplus => k_is)
    (case kplus => k_is)
    (case atimes => k_is)
    (case ltimes => k_is)
    (case ctimes => k_is)
    (case ktimes => k_is)
    (case ais_line => k_is)
    (case lis_line => k_is)
    (case cis_line => k_is)
    (case kis_line => k_is)
    (case ais_number => k_is)
    (case lis_number => k_is)
    (case cis_number => k_is)
    (case kis_number => k_is)
    (case aas_ratio => k_is)
    (case las_ratio => k_is)
    (case cas_ratio => k_is)
    (case kas_ratio => k_is)
    (case atop_of => k_is)
    (case ltop_of => k_is)
    (case ctop_of => k_is)
    (case ktop_of => k_is)
    (case aunder_of => k_is)
    (case lunder_of => k_is)
    (case cunder_of => k_is)
    (case kunder_of => k_is)
    (case alaw => k_is)
    (case llaw => k_is)
    (case claw => k_is)
    (case klaw => k_is)
