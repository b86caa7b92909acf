import PyProof.Rows.All
import Wide.All
import OpenK.AllK
import Wide.FinOn
import PyProof.NoPylong
import HandS.ForMost
import HandS.ForExc
import HandS.Wide
import HandS.Gcd
import HandS.IsInst
import HandS.ExcIs
import HandS.Property
import HandS.Defaults
import HandS.CallSlots
import HandS.ExcInit
import HandS.ExcField
import KE.KOpsOwn
import HandS.Evl
import PySem.Challenge.RW_fieldlots_k03_ratio_quotients
set_option Elab.async false
set_option linter.all false
set_option maxRecDepth 100000
namespace Fl
open PySem PySem.Spec PyProof.Rows L2
/-! ### calls by a promise that names no address -/
structure Cal (P : Program) (w : World) (K : PySem.W.Frag) (mg : Str → Option Value) (base : Heap) (k : Nat) (x : Str) (ps : List Str) (sp : Sp) : Prop where
  ex : ∃ (f : Addr) (fd : FuncData), FnOk P w K mg base CX0 k f fd ps sp ∧ mg x = some (.ref f) ∧ PySem.W.keepIn K (.ref f) = true ∧ Binds K fd ps []
structure Dfn (K : PySem.W.Frag) (mg : Str → Option Value) (x qual : Str) (st : Stmt) (ps : List Str) : Prop where
  ex : ∃ (f : Addr) (fd : FuncData), Fun K x qual st f fd ∧ mg x = some (.ref f) ∧ Binds K fd ps []
section
variable {P : Program} {w : World} {K : PySem.W.Frag} {mg : Str → Option Value} {base : Heap}
theorem Dfn.cal {x qual : Str} {st : Stmt} {N ps : List Str} {k : Nat} {sp : Sp} (D : Dfn K mg x qual st ps) (S : FnScope N ps (defScope st)) (len : ∀ vs H Q E, sp vs H Q E → vs.length = ps.length)
    (hbody : ∀ (f : Addr) (cdv : Value) (A : Around) (outer : List Env) (s : Shared) (H : Hp) (vs : List V) (Q : VK) (E : XK), Room k (A.deeper (envOfC qual (defScope st) s.heap.objs.size f cdv)) → sp vs H Q E →
      ∃ t, PSs (cxOf CX0 P w K mg base N qual (defScope st) f cdv A outer s H E).nox (defBody st) t ∧ t { nx := fun _ H' => Q .non H', rt := Q } (start N vs) H) : Cal P w K mg base (k + 1) x ps sp := by
  obtain ⟨f, fd, F, m, b⟩ := D.ex
  exact ⟨f, fd, F.ok S len (hbody f), m, F.kp, b⟩
theorem Cal.mono {j k : Nat} {x : Str} {ps : List Str} {sp : Sp} (C : Cal P w K mg base j x ps sp) (h : j ≤ k) : Cal P w K mg base k x ps sp := by
  obtain ⟨f, fd, F, m, kp, b⟩ := C.ex
  exact ⟨f, fd, F.mono h, m, kp, b⟩
end
theorem pe_cal {X : Cx} {k : Nat} {x : Str} {ps : List Str} {sp : Sp} {p pos : Pos} {e : Expr} {es : List Expr} {t : TA} (C : Cal X.prog X.w X.K X.mg X.base k x ps sp) (hr : Room k X.A) (ha : PA X (e :: es) t) (hg : Gl X x := by rfl)
    (hdb : (x == ("__debug__" : Str)) = false := by decide) (he : starEach (e :: es) X.env = (false, eval e X.env) :: starEach es X.env := by rfl) (hpl : (backTo pos (starEach es X.env)).any (·.1) = false := by rfl) :
    PE X (.Call (.Name x p) (e :: es) [] pos) (tCall sp [] E0 t) := by
  obtain ⟨f, fd, F, m, kp, b⟩ := C.ex
  exact pe_call F hr hg m kp b .nil pass0 ha hdb he hpl
/-- the built-in names that the text leaves alone -/
structure Blt (mg : Str → Option Value) : Prop where
  len : mg "len" = none
  int : mg "int" = none
  abs : mg "abs" = none
  range : mg "range" = none
  isinstance : mg "isinstance" = none
  max : mg "max" = none
  min : mg "min" = none
  sum : mg "sum" = none
  str : mg "str" = none
  bool : mg "bool" = none
  list : mg "list" = none
  ve : mg "ValueError" = none
/-! ### great numbers -/
def CDivA (_ j : Int) : Prop := j ≠ 0 ∧ j.natAbs.log2 < 9000
theorem op_fdivA {X : Cx} : OpR X (binaryOp .FloorDiv) (rI CDivA fun i j => .int (i.fdiv j)) := opI fun i j _ _ _ _ _ hc q => floordiv_int hc.1 q (.inl (PyProof.noPylong_of_log2 hc.2))
theorem divA {i j : Int} {b : Nat} (h : j ≠ 0) (hb : j.natAbs < 2 ^ b) (h0 : 0 < b) (h9 : b ≤ 9000) : CDivA i j := ⟨h, Nat.lt_of_lt_of_le (PySem.Flt.log2_lt_of h0 hb) h9⟩
/-! ### heaps -/
/-- all that was tracked is as it was, but for p -/
def Keeps (H H' : Hp) (p : Addr) : Prop := ∀ b o, H b = some o → b ≠ p → H' b = some o
theorem Keeps.refl (H : Hp) (p : Addr) : Keeps H H p := fun _ _ h _ => h
theorem Keeps.trans {H H1 H2 : Hp} {p : Addr} (a : Keeps H H1 p) (b : Keeps H1 H2 p) : Keeps H H2 p := fun c o h n => b c o (a c o h n) n
theorem Keeps.upd {H : Hp} {p : Addr} {o : HO} : Keeps H (upd H p o) p := fun b u h n => by rw [upd_ne n]; exact h
theorem same_keeps {H H' : Hp} {p : Addr} (h : Same H H') : Keeps H H' p := fun b o e _ => h b o e
theorem same_upd {H : Hp} {p : Addr} {o : HO} (h : H p = none) : Same H (upd H p o) := fun b u e => by rw [upd_ne (ne_of_none e h)]; exact e
theorem Keeps.free {H H' : Hp} {p l : Addr} (k : Keeps H H' p) (h : H' l = none) (n : l ≠ p) : H l = none := by
  cases q : H l with
  | none => rfl
  | some o =>
    rw [k l o q n] at h
    cases h
theorem ints_at {ns : List Int} {j : Nat} (h : j < ns.length) : (ns.map V.int)[j]? = some (V.int ns[j]) := by
  rw [List.getElem?_map, List.getElem?_eq_getElem h]
  rfl
theorem int_of_map {ns : List Int} {i : Nat} {y : V} (h : (ns.map V.int)[i]? = some y) : ∃ z, ns[i]? = some z ∧ y = V.int z := by
  rw [List.getElem?_map] at h
  cases e : ns[i]? with
  | none => rw [e] at h; cases h
  | some z => rw [e] at h; exact ⟨z, rfl, (Option.some.inj h).symm⟩
/-- where the pool stands: its own list, the script's numbers -/
structure Pla where
  p : Addr
  q : Addr
instance : Coe Pla Addr := ⟨Pla.p⟩
/-- the pool: the script's numbers, how many are taken, what is left of one, a state, the draws -/
def Pool (H : Hp) (p : Pla) : Prop := ∃ (ns : List Int) (i b c d : Int), H p = some (.lst [.ref p.q, .int i, .int b, .int c, .int d]) ∧ H p.q = some (.lst (ns.map V.int)) ∧ 0 ≤ i ∧ p.q ≠ p
theorem Pool.same {H H' : Hp} {p : Pla} (h : Pool H p) (s : Same H H') : Pool H' p := by
  obtain ⟨ns, i, b, c, d, h1, h2, h3, h4⟩ := h
  exact ⟨ns, i, b, c, d, s _ _ h1, s _ _ h2, h3, h4⟩
theorem Pool.upd {H : Hp} {p : Pla} {x : Addr} {o : HO} (h : Pool H p) (hx : H x = none) : Pool (upd H x o) p := h.same (same_upd hx)
theorem Pool.store {H : Hp} {p : Pla} {x : Addr} {o : HO} (h : Pool H p) (hp : x ≠ p) (hq : x ≠ p.q) : Pool (L2.upd H x o) p := by
  obtain ⟨ns, i, b, c, d, h1, h2, h3, h4⟩ := h
  exact ⟨ns, i, b, c, d, by rw [upd_ne (Ne.symm hp)]; exact h1, by rw [upd_ne (Ne.symm hq)]; exact h2, h3, h4⟩
theorem Pool.apart {H : Hp} {p : Pla} {x : Addr} (h : Pool H p) (hx : H x = none) : x ≠ p ∧ x ≠ p.q := by
  obtain ⟨ns, i, b, c, d, h1, h2, _⟩ := h
  exact ⟨Ne.symm (ne_of_none h1 hx), Ne.symm (ne_of_none h2 hx)⟩
/-! ### tests -/
theorem ifD {p : Prop} [Decidable p] {A B : Prop} (h1 : p → A) (h2 : ¬ p → B) : if decide p = true then A else B := by
  by_cases h : p
  · rw [decide_eq_true h]; exact iteT (h1 h)
  · rw [decide_eq_false h]; exact iteF (h2 h)
theorem ifE {a b : Int} {A B : Prop} (h1 : a = b → A) (h2 : a ≠ b → B) : if decide (V.int a = V.int b) = true then A else B :=
  ifD (fun h => h1 (V.int.inj h)) fun h => h2 fun e => h (by rw [e])
theorem ifNE {a b : Int} {A B : Prop} (h1 : a ≠ b → A) (h2 : a = b → B) : if (!decide (V.int a = V.int b)) = true then A else B := by
  by_cases h : a = b
  · rw [decide_eq_true (show V.int a = V.int b by rw [h])]; exact iteF (h2 h)
  · rw [decide_eq_false (show ¬ V.int a = V.int b from fun e => h (V.int.inj e))]; exact iteT (h1 h)
theorem ifN {p : Prop} [Decidable p] {A B : Prop} (h1 : ¬ p → A) (h2 : p → B) : if (!decide p) = true then A else B := by
  by_cases h : p
  · rw [decide_eq_true h]; exact iteF (h2 h)
  · rw [decide_eq_false h]; exact iteT (h1 h)
theorem ifB {c : Bool} {A B : Prop} (h1 : c = true → A) (h2 : c = false → B) : if c = true then A else B := by
  cases c
  · exact iteF (h2 rfl)
  · exact iteT (h1 rfl)
theorem fm (a : Int) {b : Int} (h : 0 < b) : 0 ≤ a.fmod b ∧ a.fmod b < b := ⟨Int.fmod_nonneg_of_pos a h, Int.fmod_lt_of_pos a h⟩
/-! ### Euclid's steps -/
def fibp : Nat → Nat × Nat
  | 0 => (0, 1)
  | n + 1 => match fibp n with | (a, b) => (b, a + b)
def Eu : Nat → Nat → Nat → Prop
  | 0, _, y => y = 0
  | n + 1, x, y => y = 0 ∨ Eu n y (x % y)
theorem eu_mono : ∀ {n x y : Nat}, Eu n x y → Eu (n + 1) x y
  | 0, _, _, h => .inl h
  | _ + 1, _, _, .inl h => .inl h
  | n + 1, _, _, .inr h => .inr (eu_mono (n := n) h)
theorem fibp_step (n : Nat) : (fibp (n + 1)).1 = (fibp n).2 ∧ (fibp (n + 1)).2 = (fibp n).1 + (fibp n).2 := by
  show (match fibp n with | (a, b) => (b, a + b)).1 = _ ∧ (match fibp n with | (a, b) => (b, a + b)).2 = _
  cases fibp n
  exact ⟨rfl, rfl⟩
theorem eu_fib : ∀ (n x y : Nat), (y < (fibp n).2 → Eu n x y) ∧ (y < (fibp (n + 1)).2 → Eu (n + 1) x y) := by
  intro n
  induction n with
  | zero =>
    intro x y
    refine ⟨fun h => ?_, fun h => .inl ?_⟩
    · have h' : y < 1 := h
      show y = 0
      omega
    · have h' : y < 1 := h
      omega
  | succ n ih =>
    intro x y
    refine ⟨(ih x y).2, fun h => ?_⟩
    rw [(fibp_step (n + 1)).2, (fibp_step n).1] at h
    by_cases hy : y = 0
    · exact .inl hy
    refine .inr ?_
    have hr : x % y < y := Nat.mod_lt _ (by omega)
    by_cases hc : x % y < (fibp (n + 1)).2
    · exact (ih y (x % y)).2 hc
    · by_cases h0 : x % y = 0
      · exact .inl h0
      refine .inr ?_
      refine (ih (x % y) (y % (x % y))).1 ?_
      have e : y % (x % y) ≤ y - x % y := by
        rw [Nat.mod_eq_sub_mod (Nat.le_of_lt hr)]
        exact Nat.mod_le _ _
      omega
theorem fib_big : 10 ^ 124 ≤ (fibp 599).2 := by decide +kernel
theorem eu_all {x y : Nat} (h : y < 10 ^ 124) : Eu 599 x y := (eu_fib 599 x y).1 (Nat.lt_of_lt_of_le h fib_big)
end Fl

set_option Elab.async false
set_option linter.all false
set_option maxRecDepth 100000
set_option maxHeartbeats 4000000
namespace Fl
section
open PySem PySem.W PySem.Spec PySem.Calls PyProof.Rows
variable {prog : Program} {w : World} {A : Around} {E : Value → Shared → Prop} {s : Shared} {K : Frag} {x D : Addr} {ox : Obj} {od : Option Obj}
theorem findObj_dataE {C : Addr} {name : Str} {a g : Value} (hc : (clsIn K C).isSome = true) (ha : findIn K (.ref C) name = some (some a)) (hg : specialIn K a "__get__" = some (some g)) (ht : takesIn K a = some true) : findObj K C od name = some (.bind g a) := by
  obtain ⟨cd, hc⟩ := Option.isSome_iff_exists.mp hc
  unfold findObj
  rw [hc, Option.bind_some, ha, Option.bind_some]
  simp [hg, ht]
/-- __class__ of an exception of an own class, with or without a dict of its own -/
theorem kin_classX {Q : Option Value → Shared → Prop} (gAt : findIn K (.ref D) "__getattribute__" = some (some (.builtin "BaseException.__getattribute__"))) (gGt : findIn K (.ref D) "__getattr__" = some none) (sBe : subIn K (.ref D) (.type "BaseException") = some true)
    (dDc : hasDictIn K D = true) (ha : findIn K (.ref D) "__class__" = some (some (.builtin "object.__class__")))
    (hn : specialIn K (.builtin "object.__class__") "__get__" = some (some (.builtin "getset_descriptor.__get__"))) (tTk : takesIn K (.builtin "object.__class__") = some true) (hm : mroIn K D (.type "object") = some true)
    (X : K.In s.heap) (I : InstAt s.heap x ox D od) (h : Q (some (.ref D)) { s with toks := s.toks + 1 }) : wpAny (model prog w) A (getAttr? (.ref x) "__class__") Q E s := by
  have fnd : findObj K D od "__class__" = some (.bind (.builtin "getset_descriptor.__get__") (.builtin "object.__class__")) := findObj_dataE (by obtain ⟨cd, hc, _⟩ := any_some dDc; rw [hc]; rfl) ha hn tTk
  obtain ⟨heap0, g, d, t, os⟩ := s
  have lkT := I.type (M := model prog w)
  have lkG := looks_findIn (M := model prog w) X gAt
  have lkA := looks_findIn (M := model prog w) X gGt
  have lkF := looks_find (M := model prog w) X I fnd
  have isBe : Looks (model prog w) heap0 (isInstance (.ref x) (.type "BaseException")) true := lkT.andThen (looks_subIn X sBe)
  have nb0 : (false && onTheHeap (Value.builtin "BaseException.__getattribute__")) = false := rfl
  have nb2 : (Value.builtin "BaseException.__getattribute__" == Value.builtin "object.__getattribute__") = false := by decide +kernel
  have nb1 : (onTheHeap (Value.ref D) && Value.builtin "BaseException.__getattribute__" == Value.builtin "object.__getattribute__") = false := by rw [nb2]; rfl
  unfold getAttr? getAttrBy? getAttrBy
  refine wpAny_bind (wpAny_mkText (wpAny_bind (wpAny_attempt (wpAny_holding (wpAny_bind (lkT.at (wpAny_bind (lkG.at ?_))))))))
  show wpAny _ _ (if (onTheHeap (Value.ref D) && Value.builtin "BaseException.__getattribute__" == Value.builtin "object.__getattribute__") = true then _ else _) _ _ _
  rw [nb1, if_neg Bool.false_ne_true]
  unfold getAttrByItsOwn hookBefore
  refine wpAny_bind ?_
  rw [if_pos (show onTheHeap (Value.ref D) = true from rfl)]
  refine lkA.at ?_
  refine wpAny_bind (wpAny_attempt (wpAny_holding ?_))
  unfold callGetattribute
  rw [nb0, if_neg Bool.false_ne_true]
  unfold boundAndCalled
  rw [PySem.F.excAttr_ValueError.ga.bind (.ref x)]
  refine wpAny_bind (wpAny_pure ?_)
  show wpAny _ _ (call (.builtin "BaseException.__getattribute__") [.ref x, .str "__class__" t]) _ _ _
  refine wpAny_call (codeAny_call_builtin PySem.F.excAttr_ValueError.ga.plain PySem.F.entry_bexc_ga ?_)
  refine @check_slot (model prog w) _ _ ⟨heap0, g, d, t + 1, os⟩ "BaseException.__getattribute__" "BaseException" "__getattribute__" (.ref x) [.str "__class__" t] [] _ (by decide +kernel) (by decide +kernel) isBe (PySem.F.args_bexc_ga (.ref x) (.str "__class__" t)) ?_
  unfold Builtin.«object.__getattribute__»
  refine wpAny_bind (wpAny_of_eq (a := ((Value.ref x : Value), [Value.str "__class__" t])) (by first | rfl | (simp only [slotArgs]; rfl)) ?_)
  refine wpAny_bind (wpAny_pure (wpAny_bind (lkT.at (wpAny_bind (lkF.at ?_)))))
  show wpAny _ _ (holding [Value.builtin "object.__class__"] (call (.builtin "getset_descriptor.__get__") [.builtin "object.__class__", .ref x, .ref D]) >>= ret) _ _ _
  refine wpAny_bind (wpAny_holding (wpAny_call (class_get (s := ⟨heap0, g, d, t + 1, os⟩) (ox := ox) (od := od) X I hm ?_)))
  refine wpAny_pure ?_
  show wpAny _ _ (handedOut (.ref D)) _ _ _
  rw [handedOut_of (v := .ref D) rfl]
  first
    | exact wpAny_pure (wpAny_pure h)
    | exact wpAny_pure h
    | exact wpAny_pure (wpAny_bind (wpAny_pure (wpAny_pure h)))
theorem kitx_excX (gAt : findIn K (.ref D) "__getattribute__" = some (some (.builtin "BaseException.__getattribute__"))) (gGt : findIn K (.ref D) "__getattr__" = some none) (sBe : subIn K (.ref D) (.type "BaseException") = some true) (dDc : hasDictIn K D = true) (ha : findIn K (.ref D) "__class__" = some (some (.builtin "object.__class__")))
    (hn : specialIn K (.builtin "object.__class__") "__get__" = some (some (.builtin "getset_descriptor.__get__"))) (tTk : takesIn K (.builtin "object.__class__") = some true) (hm : mroIn K D (.type "object") = some true) :
    KitX K (.ref x) (.ref D) (fun h => InstAt h x ox D od) where
  ty := fun _ _ _ I => I.type
  it := fun _ _ X _ => by
    obtain ⟨cdE, hcE, _⟩ := any_some dDc
    unfold clsIn at hcE
    split at hcE
    · rename_i c' d' cd' sl' ho
      intro A' Q' E' s' k q
      unfold isType loadHead
      exact wpAny_bind (wpAny_loadPart (k _ _ (X _ _ ho)) (wpAny_pure q))
    · cases hcE
  ne := fun h tp dd its n sl X htp => by
    obtain ⟨cdE, hcE, _⟩ := any_some dDc
    refine Bool.eq_false_iff.mpr fun q => ?_
    have e : D = tp := Value.ref.inj (beq_iff_eq.mp q)
    subst e
    unfold clsIn at hcE
    split at hcE
    · rename_i c' d' cd' sl' ho
      have z := (X _ _ ho).symm.trans htp
      cases z
    · cases hcE
  ca := fun X I k => kin_classX gAt gGt sBe dDc ha hn tTk hm X I k
end
section
open PySem PySem.Spec PyProof.Rows L2
/-- the caught error at a: of the class D, its dict d -/
def Err (H : Hp) (d : Option Addr) : Prop := d = none ∨ ∃ dd fs, d = some dd ∧ H dd = some (.xd fs)
theorem exc_inst {X : Cx} {a D : Addr} {oe : Obj} {pn pins : List (Addr × Obj)} {d : Option Addr} {σ : L2.St} {H : Hp} {s : Shared} (hz : Zc (.ref D) d oe) (hf : ∃ vs, oe.data = .fields vs) (I : Inv (X.suite a ((a, oe) :: pn)) pins σ H s) (he : Err H d) :
    ∃ od, PySem.W.InstAt s.heap a oe D od := by
  obtain ⟨hget, _⟩ := I.pin (a, oe) (List.mem_append.mpr (.inl List.mem_cons_self))
  obtain ⟨vs, hv⟩ := hf
  obtain ⟨oc, oda, odt, osl⟩ := oe
  obtain ⟨h1, h2⟩ := hz
  dsimp only at h1 h2 hv
  subst h1 h2 hv
  rcases he with rfl | ⟨dd, fs, rfl, hd⟩
  · exact ⟨none, hget, rfl, rfl, trivial⟩
  · have hx : ObjOk X.prog X.w H s.heap dd (.xd fs) := I.hok dd _ hd
    obtain ⟨mA, hns, hr⟩ := hx
    obtain ⟨od, ho, hl⟩ := lookIn_ns hns
    exact ⟨some od, hget, rfl, rfl, ho⟩
def rIsX (K : PySem.W.Frag) (D a : Addr) (cls : Value) (d : Option Addr) : List V → Hp → VK → Prop := fun xs H Q => cls = .ref D ∧ Err H d ∧ ∃ (c : V) (cv : Value) (b : Bool), xs = [.ref a, c] ∧ ClsV c cv ∧ PySem.W.kitOne K (.ref D) cv = some b ∧ Q (.bl b) H
def rIsXT (K : PySem.W.Frag) (D a : Addr) (cls : Value) (d : Option Addr) : List V → Hp → VK → Prop := fun xs H Q => cls = .ref D ∧ Err H d ∧ ∃ (tp : Addr) (cs : List V) (us : List Value) (b : Bool), xs = [.ref a, .ref tp] ∧ H tp = some (.tup cs) ∧ Paired ClsV cs us ∧ PySem.W.kitAny K (.ref D) us = some b ∧ Q (.bl b) H
theorem call_isX {X : Cx} {a D : Addr} {cls : Value} {d : Option Addr} {oe : Obj} {pn : List (Addr × Obj)} (C : ExcC X.K D) (hz : Zc cls d oe) (hf : ∃ vs, oe.data = .fields vs) : CallR (X.suite a ((a, oe) :: pn)) (.builtin "isinstance") (rIsX X.K D a cls d) := by
  intro pins s σ H xs us Q I r h
  obtain ⟨rfl, he, c, cv, b, rfl, hcv, e, q⟩ := h
  obtain ⟨od, J⟩ := exc_inst hz hf I he
  obtain ⟨u1, u2, rfl, r1, r2⟩ := vals2 r
  have ec := hcv.eq r2
  subst ec
  cases (show u1 = Value.ref a from r1)
  exact PySem.W.kia_one (kitx_excX C.hg C.hk C.hs C.hd C.ha C.hn C.ht C.hm) I.kIn J e (fun z => nomatch z) fun tk => ⟨.bl b, H, I.kept (t' := tk) fun _ _ z => z, rfl, q⟩
theorem call_isXT {X : Cx} {a D : Addr} {cls : Value} {d : Option Addr} {oe : Obj} {pn : List (Addr × Obj)} (C : ExcC X.K D) (hz : Zc cls d oe) (hf : ∃ vs, oe.data = .fields vs) : CallR (X.suite a ((a, oe) :: pn)) (.builtin "isinstance") (rIsXT X.K D a cls d) := by
  intro pins s σ H xs us Q I r h
  obtain ⟨rfl, he, tp, cs, ws, b, rfl, hT, k, e, q⟩ := h
  obtain ⟨od, J⟩ := exc_inst hz hf I he
  obtain ⟨u1, u2, rfl, r1, r2⟩ := vals2 r
  cases (show u1 = Value.ref a from r1)
  cases (show u2 = Value.ref tp from r2)
  obtain ⟨_, its, rv, o, h1, h2, n, h3⟩ := (show ObjOk X.prog X.w H s.heap tp (.tup cs) from I.hok tp _ hT)
  have e3 := ClsV.all k rv
  subst e3
  obtain ⟨oc, od', dt, sl⟩ := o
  simp only at h2 h3
  subst h2 h3
  exact PySem.W.kia_tup (kitx_excX C.hg C.hk C.hs C.hd C.ha C.hn C.ht C.hm) I.kIn J h1 e (fun z => nomatch z) fun tk => ⟨.bl b, H, I.kept (t' := tk) fun _ _ z => z, rfl, q⟩
/-! ### making an instance where what is raised is wished for at the caller's slots -/
def tMakeS (C : Addr) (sp : Sp) (dvs : List V) (E : L2.St → XK) (t : TA) : TE := fun σ H Q => t σ H fun vs H1 => ∀ x dx, H1 x = none → H1 dx = none → dx ≠ x →
  sp (.ref x :: (vs ++ dvs)) (upd (upd H1 dx (.own x)) x (.ins C dx [])) (fun v H2 => v = .non ∧ Q (.ref x) H2) (E σ)
section
variable {X : Cx} {CX : CXT} {k : Nat} {f C : Addr} {fd : FuncData} {ps : List Str} {sp : Sp} {dvs : List V} {ds : List Value} {E : L2.St → XK} {x m : Str} {p pos apos : Pos} {e o : Expr} {es : List Expr} {ta : TE} {t : TA}
theorem run_makeS {pins : List (Addr × Obj)} {σ : L2.St} {H : Hp} {s : Shared} {Q : VK} {us : List Value} {vs : List V} (M : Mk X.K C f) (F : FnOk X.prog X.w X.K X.mg X.base CX k f fd ps sp) (hr : Room (k + 1) X.A) (hb : Binds X.K fd ps ds) (hd : Vals dvs ds)
    (hx : PassesAt CX X σ (E σ)) (I : Inv X pins σ H s) (r : Vals vs us)
    (h : ∀ x dx, H x = none → H dx = none → dx ≠ x → sp (.ref x :: (vs ++ dvs)) (upd (upd H dx (.own x)) x (.ins C dx [])) (fun v H2 => v = .non ∧ Q (.ref x) H2) (E σ)) :
    wpAny (model X.prog X.w) X.A (call (.ref C) us) (EP X pins σ Q) X.xe s := by
  have hnew := h (s.heap.objs.size + 1) s.heap.objs.size (I.hok.fresh (Nat.le_succ _)) (I.hok.fresh (Nat.le_refl _)) (Nat.ne_of_lt (Nat.lt_succ_self _))
  have Inew := Inv.made (C := C) I
  have rAll : Vals (V.ref (s.heap.objs.size + 1) :: (vs ++ dvs)) (Value.ref (s.heap.objs.size + 1) :: (us ++ ds)) := .cons rfl (r.append hd)
  have hlen : (Value.ref (s.heap.objs.size + 1) :: us ++ ds).length = ps.length := by
    have e := rAll.length
    rw [F.len _ _ _ _ hnew] at e
    exact e.symm
  refine wpAny_call (make_map (f := f) I.kIn M.makes M.init (beq_iff_eq.mp M.fn) (codeAny_mono (F.run _ X.stack _ _ ⟨Value.ref (s.heap.objs.size + 1) :: us, []⟩ (Value.ref (s.heap.objs.size + 1) :: (us ++ ds)) _ _ (E σ) (hr.make C us [])
    (Inew.env0.make C us []) (hb _ (Value.ref (s.heap.objs.size + 1) :: us) Inew.kIn hlen) rAll hnew) fun r s' hend => ?_))
  cases r with
  | error e => exact hx pins _ _ e s' Inew hend
  | ok fl =>
    cases fl with
    | ret u =>
      obtain ⟨v, H', Iend, rVal, ev, qEnd⟩ := Inew.after hend
      subst ev
      exact ⟨rVal, ⟨V.ref (s.heap.objs.size + 1), H', Iend, rfl, qEnd⟩⟩
    | next => exact False.elim hend
    | brk => exact False.elim hend
    | cont => exact False.elim hend
theorem pe_makeS (M : Mk X.K C f) (F : FnOk X.prog X.w X.K X.mg X.base CX k f fd ps sp) (hr : Room (k + 1) X.A) (hg : Gl X x) (hm : X.mg x = some (.ref C)) (hb : Binds X.K fd ps ds) (hd : Vals dvs ds) (hx : ∀ σ, PassesAt CX X σ (E σ))
    (ha : PA X (e :: es) t) (hdb : (x == ("__debug__" : Str)) = false := by decide) (he : starEach (e :: es) X.env = (false, eval e X.env) :: starEach es X.env := by rfl) (hpl : (backTo pos (starEach es X.env)).any (·.1) = false := by rfl) :
    PE X (.Call (.Name x p) (e :: es) [] pos) (tMakeS C sp dvs E t) := by
  refine ⟨fun pins s σ H Q I h => ?_⟩
  refine wpAny_Call_Name_kw (ld_glob I hg hm ?_ hdb)
  refine PySem.W.callWith_K (h₀ := X.base) I.ok.mod.kin M.kp (thn (ha.run pos pins s σ H _ I h) fun us s1 ⟨vs, H1, I1, r, q⟩ => ⟨I1.kIn, ?_⟩) he hpl
  exact run_makeS M F hr hb hd (hx σ) I1 r q
end
/-- a class that is called: C(..), the promise of its __init__; dvs the defaults that fill up -/
structure CalC (P : Program) (w : World) (K : PySem.W.Frag) (mg : Str → Option Value) (base : Heap) (CX : CXT) (k : Nat) (C : Addr) (x : Str) (ps : List Str) (dvs : List V) (sp : Sp) : Prop where
  ex : ∃ (f : Addr) (fd : FuncData) (ds : List Value), Mk K C f ∧ FnOk P w K mg base CX k f fd ps sp ∧ mg x = some (.ref C) ∧ Binds K fd ps ds ∧ Vals dvs ds
theorem pe_mk {X : Cx} {k : Nat} {C : Addr} {x : Str} {ps : List Str} {dvs : List V} {sp : Sp} {p pos : Pos} {e : Expr} {es : List Expr} {t : TA} (M : CalC X.prog X.w X.K X.mg X.base (L2.CX X.prog X.w) k C x ps dvs sp) (hr : Room (k + 1) X.A) (ha : PA X (e :: es) t) (hg : Gl X x := by rfl)
    (hdb : (x == ("__debug__" : Str)) = false := by decide) (he : starEach (e :: es) X.env = (false, eval e X.env) :: starEach es X.env := by rfl) (hpl : (backTo pos (starEach es X.env)).any (·.1) = false := by rfl) :
    PE X (.Call (.Name x p) (e :: es) [] pos) (tMake C sp dvs E0 t) := by
  obtain ⟨f, fd, ds, M, F, m, b, d⟩ := M.ex
  exact pe_make M F hr hg m b d passL ha hdb he hpl
theorem pe_mkS {X : Cx} {W : WX} {k : Nat} {C : Addr} {x : Str} {ps : List Str} {dvs : List V} {sp : Sp} {p pos : Pos} {e : Expr} {es : List Expr} {t : TA} (M : CalC X.prog X.w X.K X.mg X.base (L2.CX X.prog X.w) k C x ps dvs sp) (tk : Takes X W) (hr : Room (k + 1) X.A) (ha : PA X (e :: es) t) (hg : Gl X x := by rfl)
    (hdb : (x == ("__debug__" : Str)) = false := by decide) (he : starEach (e :: es) X.env = (false, eval e X.env) :: starEach es X.env := by rfl) (hpl : (backTo pos (starEach es X.env)).any (·.1) = false := by rfl) :
    PE X (.Call (.Name x p) (e :: es) [] pos) (tMakeS C sp dvs (WE W) t) := by
  obtain ⟨f, fd, ds, M, F, m, b, d⟩ := M.ex
  exact pe_makeS M F hr hg m b d (fun σ => passAt tk σ) ha hdb he hpl
/-! ### a def that may raise -/
structure CalX (P : Program) (w : World) (K : PySem.W.Frag) (mg : Str → Option Value) (base : Heap) (k : Nat) (x : Str) (ps : List Str) (sp : Sp) : Prop where
  ex : ∃ (f : Addr) (fd : FuncData), FnOk P w K mg base (L2.CX P w) k f fd ps sp ∧ mg x = some (.ref f) ∧ PySem.W.keepIn K (.ref f) = true ∧ Binds K fd ps []
theorem Dfn.calX {P : Program} {w : World} {K : PySem.W.Frag} {mg : Str → Option Value} {base : Heap} {x qual : Str} {st : Stmt} {N ps : List Str} {k : Nat} {sp : Sp} (D : Dfn K mg x qual st ps) (S : FnScope N ps (defScope st)) (len : ∀ vs H Q E, sp vs H Q E → vs.length = ps.length)
    (hbody : ∀ (f : Addr) (cdv : Value) (A : Around) (outer : List Env) (s : Shared) (H : Hp) (vs : List V) (Q : VK) (E : XK), Room k (A.deeper (envOfC qual (defScope st) s.heap.objs.size f cdv)) → sp vs H Q E →
      ∃ t, PSs (cxOf (L2.CX P w) P w K mg base N qual (defScope st) f cdv A outer s H E) (defBody st) t ∧ t { nx := fun _ H' => Q .non H', rt := Q } (start N vs) H) : CalX P w K mg base (k + 1) x ps sp := by
  obtain ⟨f, fd, F, m, b⟩ := D.ex
  exact ⟨f, fd, F.okX S len (hbody f), m, F.kp, b⟩
theorem pe_calX {X : Cx} {k : Nat} {x : Str} {ps : List Str} {sp : Sp} {p pos : Pos} {e : Expr} {es : List Expr} {t : TA} (C : CalX X.prog X.w X.K X.mg X.base k x ps sp) (hr : Room k X.A) (ha : PA X (e :: es) t) (hg : Gl X x := by rfl)
    (hdb : (x == ("__debug__" : Str)) = false := by decide) (he : starEach (e :: es) X.env = (false, eval e X.env) :: starEach es X.env := by rfl) (hpl : (backTo pos (starEach es X.env)).any (·.1) = false := by rfl) :
    PE X (.Call (.Name x p) (e :: es) [] pos) (tCall sp [] E0 t) := by
  obtain ⟨f, fd, F, m, kp, b⟩ := C.ex
  exact pe_call F hr hg m kp b .nil passL ha hdb he hpl
theorem pe_calS {X : Cx} {W : WX} {k : Nat} {x : Str} {ps : List Str} {sp : Sp} {p pos : Pos} {e : Expr} {es : List Expr} {t : TA} (C : CalX X.prog X.w X.K X.mg X.base k x ps sp) (tk : Takes X W) (hr : Room k X.A) (ha : PA X (e :: es) t) (hg : Gl X x := by rfl)
    (hdb : (x == ("__debug__" : Str)) = false := by decide) (he : starEach (e :: es) X.env = (false, eval e X.env) :: starEach es X.env := by rfl) (hpl : (backTo pos (starEach es X.env)).any (·.1) = false := by rfl) :
    PE X (.Call (.Name x p) (e :: es) [] pos) (tCallS sp (WE W) t) := by
  obtain ⟨f, fd, F, m, kp, b⟩ := C.ex
  exact pe_callS F hr hg m kp b (fun σ => passAt tk σ) ha hdb he hpl
theorem exm_self {K : PySem.W.Frag} {S : Addr} (h1 : PySem.W.subIn K (.ref S) (.type "BaseException") = some true) (h2 : PySem.W.hasDictIn K S = true) (h3 : PySem.W.typeIn K (.ref S) = some (.type "type")) (h4 : PySem.W.subIn K (.ref S) (.ref S) = some true) :
    PySem.W.exmOne K (.ref S) (.ref S) = some true := PySem.W.exm_ref h1 h2 h3 h4
end
end Fl

set_option Elab.async false
set_option linter.all false
set_option maxRecDepth 100000
set_option maxHeartbeats 4000000
namespace Fl
open PySem PySem.Spec PyProof.Rows L2
/-! ### lowest terms -/
def sh (t u : Int) : Int := if u < 0 then -(Nat.gcd t.natAbs u.natAbs : Nat) else (Nat.gcd t.natAbs u.natAbs : Nat)
def nT (t u : Int) : Int := t.fdiv (sh t u)
def nU (t u : Int) : Int := u.fdiv (sh t u)
theorem sh_abs (t u : Int) : (sh t u).natAbs = Nat.gcd t.natAbs u.natAbs := by
  unfold sh
  split <;> omega
theorem sh_ne {t u : Int} (h : u ≠ 0) : sh t u ≠ 0 := by
  have h1 : 0 < Nat.gcd t.natAbs u.natAbs := Nat.gcd_pos_of_pos_right _ (by omega)
  have := sh_abs t u
  omega
theorem sh_dvd_t (t u : Int) : sh t u ∣ t := Int.natAbs_dvd_natAbs.mp (by rw [sh_abs]; exact Nat.gcd_dvd_left _ _)
theorem sh_dvd_u (t u : Int) : sh t u ∣ u := Int.natAbs_dvd_natAbs.mp (by rw [sh_abs]; exact Nat.gcd_dvd_right _ _)
theorem nT_mul (t u : Int) : nT t u * sh t u = t := by
  unfold nT
  exact Int.fdiv_mul_cancel (sh_dvd_t t u)
theorem nU_mul (t u : Int) : nU t u * sh t u = u := by
  unfold nU
  exact Int.fdiv_mul_cancel (sh_dvd_u t u)
theorem nU_pos {t u : Int} (h : u ≠ 0) : 0 < nU t u := by
  have h1 : 0 < Nat.gcd t.natAbs u.natAbs := Nat.gcd_pos_of_pos_right _ (by omega)
  have e := nU_mul t u
  by_cases hn : u < 0
  · have hs : sh t u < 0 := by
      unfold sh
      rw [if_pos hn]
      omega
    rcases Int.lt_trichotomy (nU t u) 0 with hc | hc | hc
    · have := Int.mul_pos_of_neg_of_neg hc hs
      omega
    · rw [hc] at e
      omega
    · exact hc
  · have hs : 0 < sh t u := by
      unfold sh
      rw [if_neg hn]
      omega
    rcases Int.lt_trichotomy (nU t u) 0 with hc | hc | hc
    · have := Int.mul_neg_of_neg_of_pos hc hs
      omega
    · rw [hc] at e
      omega
    · exact hc
theorem n_cross (t u : Int) : nT t u * u = t * nU t u := by
  have e1 := nT_mul t u
  have e2 := nU_mul t u
  calc nT t u * u = nT t u * (nU t u * sh t u) := by rw [e2]
    _ = nT t u * sh t u * nU t u := by rw [Int.mul_comm (nU t u), Int.mul_assoc]
    _ = t * nU t u := by rw [e1]
theorem n_gcd {t u : Int} (h : u ≠ 0) : Nat.gcd (nT t u).natAbs (nU t u).natAbs = 1 := by
  have h1 : 0 < Nat.gcd t.natAbs u.natAbs := Nat.gcd_pos_of_pos_right _ (by omega)
  have e1 : (nT t u).natAbs * Nat.gcd t.natAbs u.natAbs = t.natAbs := by rw [← sh_abs, ← Int.natAbs_mul, nT_mul]
  have e2 : (nU t u).natAbs * Nat.gcd t.natAbs u.natAbs = u.natAbs := by rw [← sh_abs, ← Int.natAbs_mul, nU_mul]
  have e3 : Nat.gcd ((nT t u).natAbs * Nat.gcd t.natAbs u.natAbs) ((nU t u).natAbs * Nat.gcd t.natAbs u.natAbs) = Nat.gcd t.natAbs u.natAbs := by
    rw [e1, e2]
  rw [Nat.gcd_mul_right] at e3
  exact Nat.eq_of_mul_eq_mul_right h1 (by rw [e3, Nat.one_mul])
theorem nU_le {t u : Int} (h : u ≠ 0) : (nU t u).natAbs ≤ u.natAbs := by
  have h1 : 0 < Nat.gcd t.natAbs u.natAbs := Nat.gcd_pos_of_pos_right _ (by omega)
  have e2 : (nU t u).natAbs * Nat.gcd t.natAbs u.natAbs = u.natAbs := by rw [← sh_abs, ← Int.natAbs_mul, nU_mul]
  rw [← e2]
  exact Nat.le_mul_of_pos_right _ h1
theorem nT_le {t u : Int} (h : u ≠ 0) : (nT t u).natAbs ≤ t.natAbs := by
  have h1 : 0 < Nat.gcd t.natAbs u.natAbs := Nat.gcd_pos_of_pos_right _ (by omega)
  have e2 : (nT t u).natAbs * Nat.gcd t.natAbs u.natAbs = t.natAbs := by rw [← sh_abs, ← Int.natAbs_mul, nT_mul]
  rw [← e2]
  exact Nat.le_mul_of_pos_right _ h1
/-- a fraction has one form in lowest terms -/
theorem low_one {a b c d : Int} (hb : 0 < b) (hd : 0 < d) (g1 : Nat.gcd a.natAbs b.natAbs = 1) (g2 : Nat.gcd c.natAbs d.natAbs = 1) (e : a * d = c * b) : a = c ∧ b = d := by
  have en : a.natAbs * d.natAbs = c.natAbs * b.natAbs := by rw [← Int.natAbs_mul, ← Int.natAbs_mul, e]
  have d1 : b.natAbs ∣ d.natAbs := (Nat.Coprime.dvd_of_dvd_mul_left (k := b.natAbs) (m := a.natAbs) (n := d.natAbs) (by rw [Nat.Coprime, Nat.gcd_comm]; exact g1) (by rw [en]; exact Nat.dvd_mul_left _ _))
  have d2 : d.natAbs ∣ b.natAbs := (Nat.Coprime.dvd_of_dvd_mul_left (k := d.natAbs) (m := c.natAbs) (n := b.natAbs) (by rw [Nat.Coprime, Nat.gcd_comm]; exact g2) (by rw [← en]; exact Nat.dvd_mul_left _ _))
  have e3 : b.natAbs = d.natAbs := Nat.dvd_antisymm d1 d2
  have e4 : b = d := by omega
  subst e4
  exact ⟨Int.eq_of_mul_eq_mul_right (by omega) e, rfl⟩
theorem n_uniq {a b t u : Int} (hu : u ≠ 0) (hb : 0 < b) (g : Nat.gcd a.natAbs b.natAbs = 1) (e : a * u = t * b) : a = nT t u ∧ b = nU t u := by
  refine low_one hb (nU_pos hu) g (n_gcd hu) ?_
  have e1 := n_cross t u
  refine Int.eq_of_mul_eq_mul_right hu ?_
  calc a * nU t u * u = a * u * nU t u := by rw [Int.mul_assoc, Int.mul_comm (nU t u), ← Int.mul_assoc]
    _ = t * b * nU t u := by rw [e]
    _ = t * nU t u * b := by rw [Int.mul_assoc, Int.mul_comm b, ← Int.mul_assoc]
    _ = nT t u * u * b := by rw [e1]
    _ = nT t u * b * u := by rw [Int.mul_assoc, Int.mul_comm u, ← Int.mul_assoc]
theorem n_self {a b : Int} (hb : 0 < b) (g : Nat.gcd a.natAbs b.natAbs = 1) : nT a b = a ∧ nU a b = b := by
  obtain ⟨h1, h2⟩ := n_uniq (a := a) (b := b) (t := a) (u := b) (by omega) hb g rfl
  exact ⟨h1.symm, h2.symm⟩
theorem n_one (t : Int) : nT t 1 = t ∧ nU t 1 = 1 := n_self (by decide) (by simp)
theorem n_scale {t u f : Int} (hu : u ≠ 0) (hf : f ≠ 0) : nT (t * f) (u * f) = nT t u ∧ nU (t * f) (u * f) = nU t u := by
  have hne : u * f ≠ 0 := Int.mul_ne_zero hu hf
  obtain ⟨h1, h2⟩ := n_uniq (a := nT t u) (b := nU t u) (t := t * f) (u := u * f) hne (nU_pos hu) (n_gcd hu) (by
    have e1 := n_cross t u
    calc nT t u * (u * f) = nT t u * u * f := by rw [Int.mul_assoc]
      _ = t * nU t u * f := by rw [e1]
      _ = t * f * nU t u := by rw [Int.mul_assoc, Int.mul_comm (nU t u), ← Int.mul_assoc])
  exact ⟨h1.symm, h2.symm⟩
/-! ### instances of Ratio -/
def rf (t u : Int) : List (Str × V) := putF "under" (.int u) (putF "top" (.int t) [])
theorem tu : ¬ (("top" : Str) = "under") := by decide +kernel
theorem ut : ¬ (("under" : Str) = "top") := by decide +kernel
theorem rf_top (t u : Int) : (rf t u).lookup ("top" : Str) = some (.int t) := by
  unfold rf
  rw [lookup_putF, if_neg tu, lookup_putF, if_pos rfl]
theorem rf_under (t u : Int) : (rf t u).lookup ("under" : Str) = some (.int u) := by
  unfold rf
  rw [lookup_putF, if_pos rfl]
theorem rf_no (t u : Int) {m : Str} (h1 : ¬ m = "under") (h2 : ¬ m = "top") : (rf t u).lookup m = none := by
  unfold rf
  rw [lookup_putF, if_neg h1, lookup_putF, if_neg h2]
  rfl
/-- a Ratio t / u stands at x -/
def RatAt (C : Addr) (H : Hp) (x : Addr) (t u : Int) : Prop := ∃ dx, H x = some (.ins C dx (rf t u))
theorem RatAt.keep {C p : Addr} {H H' : Hp} {x : Addr} {t u : Int} (h : RatAt C H x t u) (k : Keeps H H' p) (hp : x ≠ p) : RatAt C H' x t u := by
  obtain ⟨dx, h⟩ := h
  exact ⟨dx, k _ _ h hp⟩
theorem RatAt.same {C : Addr} {H H' : Hp} {x : Addr} {t u : Int} (h : RatAt C H x t u) (k : Same H H') : RatAt C H' x t u := by
  obtain ⟨dx, h⟩ := h
  exact ⟨dx, k _ _ h⟩
theorem RatAt.ne_pool {C : Addr} {p : Pla} {H : Hp} {x : Addr} {t u : Int} (h : RatAt C H x t u) (hp : Pool H p) : x ≠ p := by
  obtain ⟨dx, h⟩ := h
  obtain ⟨ns, i, b, c, d, h1, _⟩ := hp
  exact ne_of h h1 (by intro z; cases z)
/-- the class Ratio as the top has left it -/
structure RatC (K : PySem.W.Frag) (mg : Str → Option Value) (C : Addr) : Prop where
  cl : Cls K C
  nT : NoAttr K C "top"
  nU : NoAttr K C "under"
  g : mg "Ratio" = some (.ref C)
  ha : PySem.W.findIn K (.ref C) "__class__" = some (some (.builtin "object.__class__"))
  hn : PySem.W.specialIn K (.builtin "object.__class__") "__get__" = some (some (.builtin "getset_descriptor.__get__"))
  htk : PySem.W.takesIn K (.builtin "object.__class__") = some true
  hm : PySem.W.mroIn K C (.type "object") = some true
  ki : PySem.W.kitOne K (.type "int") (.ref C) = some false
theorem RatC.tyX {K : PySem.W.Frag} {mg : Str → Option Value} {C : Addr} (T : RatC K mg C) {H : Hp} {x dx : Addr} {fs : List (Str × V)} (h : H x = some (.ins C dx fs)) : TyX K H (.ref x) (.ref C) := .base (.ins h T.cl T.ha T.hn T.htk T.hm)
theorem kit_self {K : PySem.W.Frag} (v : Value) : PySem.W.kitOne K v v = some true := by
  unfold PySem.W.kitOne
  rw [if_pos (beq_self_eq_true v)]
/-- an error class of the program without __init__ -/
structure ExC (K : PySem.W.Frag) (mg : Str → Option Value) (nm : Str) (C : Addr) : Prop where
  x : PySem.W.excIn K C [.type "ValueError", .type "Exception", .type "BaseException", .type "object"] "ValueError.__new__" = true
  g : mg nm = some (.ref C)
  k : PySem.W.keepIn K (.ref C) = true
  b : PySem.W.subIn K (.ref C) (.type "BaseException") = some true
  t : PySem.W.typeIn K (.ref C) = some (.type "type")
  s : PySem.W.subIn K (.ref C) (.ref C) = some true
  e : ExcC K C
theorem ExC.exm {K : PySem.W.Frag} {mg : Str → Option Value} {x : Str} {C : Addr} (T : ExC K mg x C) : PySem.W.exmOne K (.ref C) (.ref C) = some true := exm_self T.b T.e.hd T.t T.s
theorem beq_ref_ne {a b : Addr} (h : a ≠ b) : (Value.ref a == Value.ref b) = false := by
  rw [beq_eq_false_iff_ne]
  intro e
  injection e with e
  exact h e
end Fl

set_option Elab.async false
set_option linter.all false
set_option maxRecDepth 100000
set_option maxHeartbeats 4000000
namespace Fl
open PySem PySem.Spec PyProof.Rows L2
/-! ### the error with a name and a value -/
structure BnC (K : PySem.W.Frag) (mg : Str → Option Value) (C : Addr) : Prop where
  o : OexC K C
  g : mg "BadNumber" = some (.ref C)
  nN : PySem.W.findIn K (.ref C) "name" = some none
  nV : PySem.W.findIn K (.ref C) "value" = some none
  e : ExcC K C
  s : PySem.W.subIn K (.ref C) (.ref C) = some true
theorem BnC.exm {K : PySem.W.Frag} {mg : Str → Option Value} {C : Addr} (T : BnC K mg C) : PySem.W.exmOne K (.ref C) (.ref C) = some true := exm_self T.o.exC T.e.hd T.o.tyC T.s
theorem BnC.xf {K : PySem.W.Frag} {mg : Str → Option Value} {C : Addr} (T : BnC K mg C) : XfC K C := ⟨T.e.hg, T.e.hk, T.e.hs, T.e.hd⟩
def bnf (n v : V) : List (Str × V) := [("value", v), ("name", n)]
theorem nv : ¬ (("name" : Str) = "value") := by decide +kernel
theorem look_ne {f g : Str} {v : V} {fs : List (Str × V)} (h : ¬ f = g) : List.lookup f ((g, v) :: fs) = List.lookup f fs := by
  have e : (f == g) = false := by simpa using h
  rw [List.lookup_cons, e]
theorem look_eq {f : Str} {v : V} {fs : List (Str × V)} : List.lookup f ((f, v) :: fs) = some v := by
  rw [List.lookup_cons, beq_self_eq_true]
theorem bnf_name (n v : V) : (bnf n v).lookup ("name" : Str) = some n := by
  unfold bnf
  rw [look_ne nv, look_eq]
theorem bnf_value (n v : V) : (bnf n v).lookup ("value" : Str) = some v := look_eq
def spBN (C : Addr) : Sp := fun vs H Q _ => ∃ (a : Addr) (n v : V), vs = [.ref a, n, v] ∧ H a = some (exo a C none) ∧ ∀ (dx : Addr), H dx = none → dx ≠ a → Q .non (upd (upd (upd H dx (exd dx [("name", n)])) a (exo a C (some dx))) dx (exd dx (bnf n v)))
structure CalE (P : Program) (w : World) (K : PySem.W.Frag) (mg : Str → Option Value) (base : Heap) (k : Nat) (C : Addr) : Prop where
  ex : ∃ (fI : Addr) (fd : FuncData), PySem.W.findIn K (.ref C) "__init__" = some (some (.ref fI)) ∧ PySem.W.typeIn K (.ref fI) = some (.type "function") ∧ FnOk P w K mg base CX0 k fI fd ["self", "name", "value"] (spBN C) ∧ Binds K fd ["self", "name", "value"] []
theorem pmk_bn {X : Cx} {k : Nat} {C : Addr} {p pos : Pos} {e : Expr} {es : List Expr} {ta : TA} (T : BnC X.K X.mg C) (B : CalE X.prog X.w X.K X.mg X.base k C) (hr : Room (k + 1) X.A) (ha : PA X (e :: es) ta) (hg : Gl X "BadNumber" := by rfl)
    (he : starEach (e :: es) X.env = (false, eval e X.env) :: starEach es X.env := by rfl) (hpl : (backTo pos (starEach es X.env)).any (·.1) = false := by rfl) : PMk X (.Call (.Name "BadNumber" p) (e :: es) [] pos) (tMkO C (spBN C) [] ta) := by
  obtain ⟨fI, fd, iC, tI, F, b⟩ := B.ex
  exact pmk_oex T.o iC tI F hr b .nil (fun _ _ _ _ _ _ _ h => h.elim) hg T.g ha (by decide +kernel) he hpl
/-- what is wished where BadNumber(n, v) leaves -/
def Ref (E : XK) (C : Addr) (H : Hp) (n : Str) (v : Int) : Prop := ∀ (d : Addr) (H' : Hp), Same H H' → H d = none → H' d = some (.xd (bnf (.str n) (.int v))) → E (.ref C) (some d) H'
theorem Ref.same {E : XK} {C : Addr} {H H1 : Hp} {n : Str} {v : Int} (h : Ref E C H n v) (s : Same H H1) : Ref E C H1 n v := fun d H' s' hd he => h d H' (s.trans s') (s.free hd) he
theorem bn_made {C : Addr} {n : Str} {v : Int} {H : Hp} {Q : XK} (k : Ref Q C H n v) : [V.str n, V.int v].length ≤ 1000 ∧ ∀ a, H a = none → spBN C (.ref a :: ([V.str n, V.int v] ++ [])) (upd H a (exo a C none))
    (fun z H2 => z = .non ∧ ∃ (d : Addr) (fs : List (Str × V)), H2 a = some (exo a C (some d)) ∧ H2 d = some (exd d fs) ∧ H d = none ∧ Q (.ref C) (some d) (upd (del H2 a) d (.xd fs))) (fun _ _ _ => False) := by
  refine ⟨(show 2 ≤ 1000 by decide), fun a ha => ⟨a, .str n, .int v, rfl, upd_same, fun dx hdx hne => ⟨rfl, dx, bnf (.str n) (.int v), ?_, upd_same, ?_, ?_⟩⟩⟩
  · rw [upd_ne (Ne.symm hne), upd_same]
  · rw [upd_ne hne] at hdx
    exact hdx
  · rw [upd_ne hne] at hdx
    refine k dx _ (fun b o e => ?_) hdx upd_same
    have h1 : b ≠ a := ne_of_none e ha
    have h2 : b ≠ dx := ne_of_none e hdx
    rw [upd_ne h2, del_ne h1, upd_ne h2, upd_ne h1, upd_ne h2, upd_ne h1]
    exact e
end Fl

set_option Elab.async false
set_option linter.all false
set_option maxRecDepth 100000
set_option maxHeartbeats 4000000
namespace Fl
/-! ### the sum of the whole parts of (a i + b) / m, i below n -/
def fs (m a b : Nat) : Nat → Nat
  | 0 => 0
  | n + 1 => fs m a b n + (a * n + b) / m
theorem tri_succ (n : Nat) : (n + 1) * n / 2 = n * (n - 1) / 2 + n := by
  cases n with
  | zero => rfl
  | succ k =>
    have e : (k + 1 + 1) * (k + 1) = (k + 1) * (k + 1 - 1) + 2 * (k + 1) := by
      rw [Nat.add_sub_cancel, show k + 1 + 1 = k + 2 from rfl, Nat.add_mul, Nat.mul_comm k (k + 1)]
    rw [e, Nat.add_mul_div_left _ _ (by decide)]
theorem fs_split {m : Nat} (hm : 0 < m) (a b : Nat) : ∀ n : Nat, fs m a b n = n * (n - 1) / 2 * (a / m) + n * (b / m) + fs m (a % m) (b % m) n
  | 0 => by simp [fs]
  | n + 1 => by
    have ih := fs_split hm a b n
    have e : (a * n + b) / m = n * (a / m) + b / m + ((a % m) * n + b % m) / m := by
      have e1 : a * n + b = (a % m * n + b % m) + m * (n * (a / m) + b / m) := by
        have h1 := Nat.mod_add_div a m
        have h2 := Nat.mod_add_div b m
        calc a * n + b = (a % m + m * (a / m)) * n + (b % m + m * (b / m)) := by rw [h1, h2]
          _ = (a % m * n + b % m) + m * (n * (a / m) + b / m) := by
            rw [Nat.add_mul, Nat.mul_add, Nat.mul_assoc, Nat.mul_comm (a / m) n]
            omega
      rw [e1, Nat.add_mul_div_left _ _ hm]
      omega
    show fs m a b n + (a * n + b) / m = (n + 1) * (n + 1 - 1) / 2 * (a / m) + (n + 1) * (b / m) + (fs m (a % m) (b % m) n + (a % m * n + b % m) / m)
    rw [Nat.add_sub_cancel, tri_succ, ih, e, Nat.add_mul, Nat.add_mul]
    omega
theorem fs_up {a m r : Nat} (ha : 0 < a) : ∀ k : Nat, fs a m (r + a) k = fs a m r k + k
  | 0 => rfl
  | k + 1 => by
    have ih := fs_up (m := m) (r := r) ha k
    show fs a m (r + a) k + (m * k + (r + a)) / a = fs a m r k + (m * k + r) / a + (k + 1)
    rw [ih, ← Nat.add_assoc, Nat.add_div_right _ ha]
    omega
theorem fs_shift {a m r : Nat} : ∀ k : Nat, fs a m r (k + 1) = r / a + fs a m (r + m) k
  | 0 => by
    show 0 + (m * 0 + r) / a = r / a + 0
    rw [Nat.mul_zero, Nat.zero_add, Nat.zero_add, Nat.add_zero]
  | k + 1 => by
    have ih := fs_shift (a := a) (m := m) (r := r) k
    show fs a m r (k + 1) + (m * (k + 1) + r) / a = r / a + (fs a m (r + m) k + (m * k + (r + m)) / a)
    rw [ih, Nat.mul_add, Nat.mul_one, Nat.add_assoc (m * k), Nat.add_comm m r]
    omega
theorem fs_swap {m a b : Nat} (ham : a < m) (hbm : b < m) (ha : 0 < a) : ∀ n : Nat, fs m a b n = fs a m ((a * n + b) % m) ((a * n + b) / m)
  | 0 => by
    have e : (a * 0 + b) / m = 0 := by
      rw [Nat.mul_zero, Nat.zero_add]
      exact Nat.div_eq_of_lt hbm
    rw [e]
    rfl
  | n + 1 => by
    have hm : 0 < m := by omega
    have ih := fs_swap ham hbm ha n
    show fs m a b n + (a * n + b) / m = _
    rw [ih]
    have hr := Nat.mod_lt (a * n + b) hm
    have hd := Nat.mod_add_div (a * n + b) m
    generalize hR : (a * n + b) % m = r at *
    generalize hK : (a * n + b) / m = K at *
    have e : a * (n + 1) + b = m * K + (r + a) := by
      rw [Nat.mul_add, Nat.mul_one]
      omega
    rw [e, Nat.mul_add_mod, Nat.mul_add_div hm]
    by_cases hc : r + a < m
    · rw [Nat.mod_eq_of_lt hc, Nat.div_eq_of_lt hc, Nat.add_zero, fs_up ha]
    · have h1 : (r + a) / m = 1 := by
        rw [Nat.div_eq_sub_div hm (by omega), Nat.div_eq_of_lt (by omega)]
      have h2 : (r + a) % m = r + a - m := by
        rw [Nat.mod_eq_sub_mod (by omega), Nat.mod_eq_of_lt (by omega)]
      rw [h1, h2, fs_shift, Nat.div_eq_of_lt (by omega : r + a - m < a), show r + a - m + m = r + a by omega, fs_up ha]
      omega
theorem fs_zero {m b : Nat} (hbm : b < m) : ∀ n : Nat, fs m 0 b n = 0
  | 0 => rfl
  | n + 1 => by
    show fs m 0 b n + (0 * n + b) / m = 0
    rw [fs_zero hbm n, Nat.zero_mul, Nat.zero_add, Nat.zero_add, Nat.div_eq_of_lt hbm]
/-- one turn of Euclid's rule -/
theorem fs_turn {m : Nat} (hm : 0 < m) (a b n : Nat) : fs m a b n = n * (n - 1) / 2 * (a / m) + n * (b / m) + fs (a % m) m ((a % m * n + b % m) % m) ((a % m * n + b % m) / m) := by
  rw [fs_split hm]
  have h1 := Nat.mod_lt a hm
  have h2 := Nat.mod_lt b hm
  by_cases h0 : a % m = 0
  · rw [h0, Nat.zero_mul, Nat.zero_add, fs_zero h2, Nat.div_eq_of_lt h2]
    rfl
  · rw [fs_swap h1 h2 (by omega)]
theorem fs_tot {n m a b tot : Nat} (hn : 0 < n) : (tot : Int) + (n : Int) * ((n : Int) - 1) / 2 * ((a : Int) / (m : Int)) + (n : Int) * ((b : Int) / (m : Int)) = ((tot + n * (n - 1) / 2 * (a / m) + n * (b / m) : Nat) : Int) := by
  have e : (n : Int) - 1 = ((n - 1 : Nat) : Int) := by omega
  rw [e]
  simp only [Int.natCast_add, Int.natCast_mul, Int.natCast_ediv]
  rfl
theorem fs_many_le {n m a b : Nat} (hm : 0 < m) (hn : 0 < n) : (a % m * n + b % m) / m ≤ n := by
  have h1 := Nat.mod_lt a hm
  have h2 := Nat.mod_lt b hm
  have h3 : a % m * n ≤ (m - 1) * n := Nat.mul_le_mul_right n (by omega)
  have h4 : (m - 1) * n = m * n - n := by rw [Nat.sub_mul, Nat.one_mul]
  have h5 : n ≤ m * n := Nat.le_mul_of_pos_left n hm
  refine Nat.le_of_lt_succ (Nat.div_lt_of_lt_mul ?_)
  rw [Nat.mul_succ]
  omega
end Fl

set_option Elab.async false
set_option linter.all false
set_option maxRecDepth 100000
set_option maxHeartbeats 4000000
namespace Bx
open PySem PySem.Spec PyProof.Rows L2 Fl
theorem int_add_own (a : Int) (t : Tok) (x C dx : Addr) : Meets (Builtin.«int.__add__» ⟨[.int a t, .ref x], []⟩) (fun _ R s => s.heap.get? x = some (PySem.W.instObj C dx) ∧ R (.ok (.ret Value.notImplemented)) s) :=
  .of_wp fun prog w A R s h => by obtain ⟨hp, g, d, tk, os⟩ := s; obtain ⟨hl, h⟩ := h; unfold PySem.W.instObj at hl; wp_walk; exact ⟨_, rfl, h⟩
theorem int_sub_own (a : Int) (t : Tok) (x C dx : Addr) : Meets (Builtin.«int.__sub__» ⟨[.int a t, .ref x], []⟩) (fun _ R s => s.heap.get? x = some (PySem.W.instObj C dx) ∧ R (.ok (.ret Value.notImplemented)) s) :=
  .of_wp fun prog w A R s h => by obtain ⟨hp, g, d, tk, os⟩ := s; obtain ⟨hl, h⟩ := h; unfold PySem.W.instObj at hl; wp_walk; exact ⟨_, rfl, h⟩
theorem int_mul_own (a : Int) (t : Tok) (x C dx : Addr) : Meets (Builtin.«int.__mul__» ⟨[.int a t, .ref x], []⟩) (fun _ R s => s.heap.get? x = some (PySem.W.instObj C dx) ∧ R (.ok (.ret Value.notImplemented)) s) :=
  .of_wp fun prog w A R s h => by obtain ⟨hp, g, d, tk, os⟩ := s; obtain ⟨hl, h⟩ := h; unfold PySem.W.instObj at hl; wp_walk; exact ⟨_, rfl, h⟩
section
open PySem.W PySem.Calls
variable {prog : Program} {w : World} {A : Around} {E : Value → Shared → Prop} {s : Shared} {K : Frag} {x C L f g dx : Addr} {h₀ : Heap} {m : Str → Option Value} {od : Option Obj}
theorem bin_refl {op : Operator} {n : Int} {t : Tok} {id : String} {B : Builtin} {Q : Value → Shared → Prop} (F : Fr h₀ L s.heap m) (X₀ : K.In h₀) (I : PySem.W.InstAt s.heap x (PySem.W.instObj C dx) C od) (hc : selfFirst K C = true)
    (hs : findIn K (.ref C) (PySem.dunder op.info.2) = some (some (.ref f))) (hr : findIn K (.ref C) (dunderR op.info.2) = some (some (.ref g))) (hg : isFn K (.ref g) = true)
    (hsub : subIn K (.ref C) (.type "int") = some false) (fills : fillsNumberSlot (.type "int") op.info.2 = pure true) (slot : Slot "int" (PySem.dunder op.info.2) id) (entry : entryFor table id = some B) (args : argsOk id ⟨[.int n t, .ref x], []⟩)
    (mt : Meets (B ⟨[.int n t, .ref x], []⟩) (fun _ R s => s.heap.get? x = some (PySem.W.instObj C dx) ∧ R (.ok (.ret Value.notImplemented)) s))
    (h : wpAny (model prog w) A (call (.ref g) [.ref x, .int n t]) (PySem.W.CmpBack Q) E s) : wpAny (model prog w) A (binaryOp op (.int n t) (.ref x)) Q E s := by
  have X := X₀.keeps F.keep
  obtain ⟨cd, rest, hcd, hm⟩ := ksp_first hc
  rcases hi : op.info with ⟨sym, nm'⟩
  rw [hi] at hs hr fills slot
  dsimp only at hs hr fills slot
  have one := ksp_try X I hr hg h
  simp only [binaryOp, hi]
  refine wpAny_holding (wpAny_bind ?_)
  simp only [binaryOp1]
  refine wpAny_bind (wpAny_typeOf (typeIs_int s n t) (wpAny_bind (I.type.here (wpAny_bind (wpAny_of_eq fills ?_)))))
  have hne : (Value.type "int" == Value.ref C) = false := Bool.eq_false_iff.mpr fun q => by cases beq_iff_eq.mp q
  simp only [hne, Bool.false_eq_true, if_false]
  refine wpAny_bind ((fills_K X hcd hm hs).here ?_)
  simp only [Bool.and_self, if_true]
  refine wpAny_bind ((looks_subIn X hsub).here ?_)
  have hpy : numberSlotInPython (.type "int") nm' = pure false := rfl
  simp only [Bool.false_eq_true, if_false, pure_bind, Bool.not_false, Bool.and_self, if_true, hpy]
  refine wpAny_bind (wpAny_tryMethod_declines (typeIs_int s n t) slot (call_meets slot (typeIs_int s n t) entry args mt ⟨I.at_, ?_⟩))
  refine ⟨rfl, ?_⟩
  refine wpAny_bind (wpAny_mono one (fun r s' hr' => ?_) fun _ _ e => e)
  obtain ⟨v, rfl, hq⟩ := hr'
  exact wpAny_bind (wpAny_rule (wpAny_pure (wpAny_pure hq)))
end

section
open PySem.W PySem.Calls
variable {prog : Program} {w : World} {A : Around} {E : Value → Shared → Prop} {s : Shared} {K : Frag} {x C f : Addr} {ox : Obj} {od : Option Obj}
theorem call_abs_own {Q : Value → Shared → Prop} (X : K.In s.heap) (I : PySem.W.InstAt s.heap x ox C od) (hs : findIn K (.ref C) "__abs__" = some (some (.ref f))) (hf : isFn K (.ref f) = true)
    (h : wpAny (model prog w) A.in1 (call (.ref f) [.ref x]) Q E s) : wpAny (model prog w) A (call (.builtin "abs") [.ref x]) Q E s := by
  refine call_function_entry kind_abs plain_abs entry_abs (args_abs _) ?_
  unfold Builtin.«abs»
  refine wpAny_bind (wpAny_pure ?_)
  refine wpAny_bind (m := callSpecial? (.ref x) (Str.ofString "__abs__")) (special_fn X I hs (beq_iff_eq.mp hf) (wpAny_mono h (fun v s' hv => ?_) fun _ _ z => ?_))
  · exact wpAny_pure ⟨_, rfl, hv⟩
  · exact z
end
section
/-- the def that an operator's special name of the class C finds -/
structure OpOwn (P : Program) (w : World) (K : PySem.W.Frag) (mg : Str → Option Value) (base : Heap) (k : Nat) (C : Addr) (nm : Str) (ps : List Str) (sp : Sp) : Prop where
  ex : ∃ (f : Addr) (fd : FuncData), PySem.W.findIn K (.ref C) nm = some (some (.ref f)) ∧ PySem.W.isFn K (.ref f) = true ∧ FnOk P w K mg base CX0 k f fd ps sp ∧ Binds K fd ps []
def oR (Q : VK) : VK := fun v H2 => ∃ z, v = .ref z ∧ Q (.ref z) H2
def rOO (C : Addr) (sp : Sp) : R2 := fun x y H Q => ∃ (a dx : Addr) (gs : List (Str × V)) (b dy : Addr) (hs : List (Str × V)), x = .ref a ∧ H a = some (.ins C dx gs) ∧ y = .ref b ∧ H b = some (.ins C dy hs) ∧ sp [.ref a, .ref b] H (oR Q) E0
def rOI (C : Addr) (sp : Sp) : R2 := fun x y H Q => ∃ (a dx : Addr) (gs : List (Str × V)) (n : Int), x = .ref a ∧ H a = some (.ins C dx gs) ∧ y = .int n ∧ sp [.ref a, .int n] H (oR Q) E0
def rIO (C : Addr) (sp : Sp) : R2 := fun x y H Q => ∃ (a dx : Addr) (gs : List (Str × V)) (n : Int), y = .ref a ∧ H a = some (.ins C dx gs) ∧ x = .int n ∧ sp [.ref a, .int n] H (oR Q) E0
variable {X : Cx} {k : Nat} {C : Addr} {ps : List Str} {sp : Sp} {op : Operator}
theorem op_oo (M : OpOwn X.prog X.w X.K X.mg X.base k C (PySem.dunder op.info.2) ps sp) (hc : PySem.W.selfFirst X.K C = true) (hr : Room k X.A) : OpR X (binaryOp op) (rOO C sp) := by
  obtain ⟨f, fd, hs, hf, F, b⟩ := M.ex
  intro pins s σ H x y v u Q I rx ry h
  obtain ⟨a, dx, gs, b', dy, gs', rfl, ea, rfl, eb, q⟩ := h
  cases rx
  cases ry
  obtain ⟨mA, J, _⟩ := ins_get I.hok ea
  obtain ⟨od, J, _⟩ := J.look
  obtain ⟨mB, J', _⟩ := ins_get I.hok eb
  obtain ⟨od', J', _⟩ := J'.look
  obtain ⟨m, hF⟩ := I.fr
  refine PySem.W.binop_K hF I.ok.mod.kin J J'.type hc hs hf (wpAny_mono (run_fn F hr b (dvs := []) .nil pass0 I (.cons (show RelV (.ref a) (.ref a) from rfl) (.cons (show RelV (.ref b') (.ref b') from rfl) .nil)) q) (fun r s' hr => ?_) fun _ _ z => z)
  obtain ⟨z, H2, I2, rz, c, rfl, q2⟩ := hr
  cases rz
  exact ⟨V.ref c, H2, I2, rfl, q2⟩
theorem op_oi {rc : Option Value} {fo ro : Option Value} (M : OpOwn X.prog X.w X.K X.mg X.base k C (PySem.dunder op.info.2) ps sp) (hc : PySem.W.selfFirst X.K C = true) (hR : PySem.W.findIn X.K (.ref C) (dunderR op.info.2) = some rc) (hp : rc = none ∨ ∃ g : Addr, rc = some (.ref g))
    (h1 : PySem.W.findIn X.K (.type "int") (PySem.dunder op.info.2) = some fo) (h2 : PySem.W.findIn X.K (.type "int") (dunderR op.info.2) = some ro) (hsub : PySem.W.subIn X.K (.type "int") (.ref C) = some false) (hr : Room k X.A) : OpR X (binaryOp op) (rOI C sp) := by
  obtain ⟨f, fd, hs, hf, F, b⟩ := M.ex
  intro pins s σ H x y v u Q I rx ry h
  obtain ⟨a, dx, gs, n, rfl, ea, rfl, q⟩ := h
  cases rx
  obtain ⟨t, rfl⟩ := ry
  obtain ⟨mA, J, _⟩ := ins_get I.hok ea
  obtain ⟨od, J, _⟩ := J.look
  obtain ⟨m, hF⟩ := I.fr
  refine PySem.W.ksp_binT hF I.ok.mod.kin J (T := "int") rfl hc hs hf hR hp h1 h2 hsub (wpAny_mono (run_fn F hr b (dvs := []) .nil pass0 I (.cons (show RelV (.ref a) (.ref a) from rfl) (.cons (show RelV (.int n) (.int n t) from ⟨_, rfl⟩) .nil)) q) (fun r s' hr => ?_) fun _ _ z => z)
  obtain ⟨z, H2, I2, rz, c, rfl, q2⟩ := hr
  cases rz
  exact ⟨V.ref c, H2, I2, rfl, q2⟩
theorem op_io {f0 : Addr} {id : String} {B : Builtin} (M : OpOwn X.prog X.w X.K X.mg X.base k C (dunderR op.info.2) ps sp) (hc : PySem.W.selfFirst X.K C = true) (hs0 : PySem.W.findIn X.K (.ref C) (PySem.dunder op.info.2) = some (some (.ref f0))) (hsub : PySem.W.subIn X.K (.ref C) (.type "int") = some false)
    (fills : fillsNumberSlot (.type "int") op.info.2 = pure true) (slot : Slot "int" (PySem.dunder op.info.2) id) (entry : entryFor table id = some B) (args : ∀ a b, argsOk id ⟨[a, b], []⟩)
    (mt : ∀ (n : Int) (t : Tok) (x C dx : Addr), Meets (B ⟨[.int n t, .ref x], []⟩) (fun _ R s => s.heap.get? x = some (PySem.W.instObj C dx) ∧ R (.ok (.ret Value.notImplemented)) s)) (hr : Room k X.A) : OpR X (binaryOp op) (rIO C sp) := by
  obtain ⟨f, fd, hs, hf, F, b⟩ := M.ex
  intro pins s σ H x y v u Q I rx ry h
  obtain ⟨a, dx, gs, n, rfl, ea, rfl, q⟩ := h
  cases ry
  obtain ⟨t, rfl⟩ := rx
  obtain ⟨mA, J, _⟩ := ins_get I.hok ea
  obtain ⟨od, J, _⟩ := J.look
  obtain ⟨m, hF⟩ := I.fr
  refine bin_refl hF I.ok.mod.kin J hc hs0 hs hf hsub fills slot entry (args _ _) (mt n t a C dx) (wpAny_mono (run_fn F hr b (dvs := []) .nil pass0 I (.cons (show RelV (.ref a) (.ref a) from rfl) (.cons (show RelV (.int n) (.int n t) from ⟨_, rfl⟩) .nil)) q) (fun r s' hr => ?_) fun _ _ z => z)
  obtain ⟨z, H2, I2, rz, c, rfl, q2⟩ := hr
  cases rz
  exact ⟨V.ref c, H2, I2, rfl, q2⟩
def rNegO (C : Addr) (sp : Sp) : V → Hp → VK → Prop := fun x H Q => ∃ (a dx : Addr) (gs : List (Str × V)), x = .ref a ∧ H a = some (.ins C dx gs) ∧ sp [.ref a] H Q E0
theorem un_negO (M : OpOwn X.prog X.w X.K X.mg X.base k C "__neg__" ps sp) (hr : Room k X.A) : UnR X (unaryOp .USub) (rNegO C sp) := by
  obtain ⟨f, fd, hs, hf, F, b⟩ := M.ex
  intro pins s σ H x v Q I rx h
  obtain ⟨a, dx, gs, rfl, ea, q⟩ := h
  cases rx
  obtain ⟨mA, J, _⟩ := ins_get I.hok ea
  obtain ⟨od, J, _⟩ := J.look
  obtain ⟨m, hF⟩ := I.fr
  exact PySem.W.ksp_neg hF I.ok.mod.kin J hs hf (run_fn F hr b (dvs := []) .nil pass0 I (.cons (show RelV (.ref a) (.ref a) from rfl) .nil) q)
def rAbsO (C : Addr) (sp : Sp) : List V → Hp → VK → Prop := fun xs H Q => ∃ (a dx : Addr) (gs : List (Str × V)), xs = [.ref a] ∧ H a = some (.ins C dx gs) ∧ sp [.ref a] H Q E0
theorem call_absO (M : OpOwn X.prog X.w X.K X.mg X.base k C "__abs__" ps sp) (hr : Room (k + 1) X.A) : CallR X (.builtin "abs") (rAbsO C sp) := by
  obtain ⟨f, fd, hs, hf, F, b⟩ := M.ex
  intro pins s σ H xs us Q I r h
  obtain ⟨a, dx, gs, rfl, ea, q⟩ := h
  obtain ⟨u, rfl, rx⟩ := vals1 r
  cases rx
  obtain ⟨mA, J, _⟩ := ins_get I.hok ea
  obtain ⟨od, J, _⟩ := J.look
  have hl := F.len _ _ _ _ q
  have r2 : Vals [V.ref a] [Value.ref a] := .cons (show RelV (.ref a) (.ref a) from rfl) .nil
  have bb := b s [.ref a] I.kIn (by simpa using hl)
  rw [List.append_nil] at bb
  refine call_abs_own I.kIn J hs hf (wpAny_call (codeAny_mono (F.run X.A.in1 X.stack s H ⟨[.ref a], []⟩ [.ref a] [.ref a] Q E0 hr.in1 I.env0.in1 bb r2 q) fun r s' hq => ?_))
  cases r with
  | error e => exact (pass0 pins σ H s e s' I hq)
  | ok fl =>
    cases fl with
    | ret z => exact I.after hq
    | next => exact False.elim hq
    | brk => exact False.elim hq
    | cont => exact False.elim hq
end
end Bx

set_option Elab.async false
set_option linter.all false
set_option maxRecDepth 100000
set_option maxHeartbeats 4000000
namespace Bx
open PySem PySem.Spec PyProof.Rows L2 Fl
section
/-- a def of the class that may raise what its spec says -/
structure OwnX (P : Program) (w : World) (K : PySem.W.Frag) (mg : Str → Option Value) (base : Heap) (k : Nat) (C : Addr) (nm : Str) (ps : List Str) (sp : Sp) : Prop where
  ex : ∃ (f : Addr) (fd : FuncData), PySem.W.findIn K (.ref C) nm = some (some (.ref f)) ∧ PySem.W.isFn K (.ref f) = true ∧ PySem.W.keepIn K (.ref f) = true ∧ FnOk P w K mg base (L2.CX P w) k f fd ps sp ∧ Binds K fd ps []
variable {X : Cx} {k : Nat} {C : Addr} {ps : List Str} {sp : Sp} {op : Operator} {E : L2.St → XK}
def tMethX (C : Addr) (m : Str) (sp : Sp) (E : L2.St → XK) (ta : TE) (t : TA) : TE := fun σ H Q => ta σ H fun x H1 => ∃ a dx fs, x = .ref a ∧ H1 a = some (.ins C dx fs) ∧ fs.lookup m = none ∧ t σ H1 fun vs H2 => sp (x :: vs) H2 Q (E σ)
theorem pe_methX {pl : Sem Bool} {m : Str} {o e : Expr} {es : List Expr} {apos pos : Pos} {ta : TE} {t : TA} (M : OwnX X.prog X.w X.K X.mg X.base k C m ps sp) (c : Cls X.K C) (hx : ∀ σ, PassesAt (L2.CX X.prog X.w) X σ (E σ)) (hr : Room k X.A) (he : PE X o ta) (ha : PA X (e :: es) t)
    (hst : starEach (e :: es) X.env = (false, eval e X.env) :: starEach es X.env := by rfl) (hpl : (backTo pos (starEach es X.env)).any (·.1) = false := by rfl)
    (ht : eval (.Call (.Attribute o m apos) (e :: es) [] pos) X.env = (do
      let ov ← eval o X.env
      standAt apos.atName
      let (f, first) ← holding [ov] (getMethod ov m pl)
      callWith pos f first (backTo pos (starEach (e :: es) X.env)) (backToKw pos (keywordEach [] X.env))) := by rfl) :
    PE X (.Call (.Attribute o m apos) (e :: es) [] pos) (tMethX C m sp E ta t) := by
  obtain ⟨f, fd, h1, h2, h3, F, b⟩ := M.ex
  refine ⟨fun pins s σ H Q I h => ?_⟩
  refine PySem.W.methodCall_KW (pl := pl) (thn (he.run pins s σ H _ I h) fun u s1 ⟨x, H1, I1, rx, a, dx, fs, ex, ea, l, q⟩ => ?_) ht
  subst ex
  obtain rfl : u = Value.ref a := rx
  refine getmeth_ok I1 ea c ⟨h1, h2, h3⟩ l ?_
  refine PySem.W.callWith_K (first := [.ref a]) (h₀ := X.base) I.ok.mod.kin h3 (thn (ha.run pos pins s1 σ H1 _ I1 q) fun us s2 ⟨vs, H2, I2, r, q2⟩ => ⟨I2.kIn, ?_⟩) hst hpl
  exact run_fnS (us := .ref a :: us) (vs := .ref a :: vs) (E := E) F hr b (hx σ) I2 (.cons rfl r) q2
/-- what comes back: a reference or a whole number -/
def oA (Q : VK) : VK := fun v H2 => ((∃ z, v = .ref z) ∨ ∃ i, v = .int i) ∧ Q v H2
def rOwnX (C : Addr) (sp : Sp) (E : L2.St → XK) : L2.St → R2 := fun σ x y H Q => ∃ (a dx : Addr) (gs : List (Str × V)), x = .ref a ∧ H a = some (.ins C dx gs) ∧ ((∃ (b dy : Addr) (hs : List (Str × V)), y = .ref b ∧ H b = some (.ins C dy hs)) ∨ ∃ n : Int, y = .int n) ∧ sp [x, y] H (oA Q) (E σ)
def tOpS (R : L2.St → R2) (ta tb : TE) : TE := fun σ H Q => ta σ H fun x H1 => tb σ H1 fun y H2 => R σ x y H2 Q
theorem back {pins : List (Addr × Obj)} {σ : L2.St} {Q : VK} {r : Value} {s' : Shared} (h : EP X pins σ (oA Q) r s') : PySem.W.CmpBack (EP X pins σ Q) r s' := by
  obtain ⟨z, H2, I2, rz, c, q2⟩ := h
  rcases c with ⟨c, rfl⟩ | ⟨i, rfl⟩
  · cases rz
    exact ⟨V.ref c, H2, I2, rfl, q2⟩
  · obtain ⟨t, rfl⟩ := rz
    exact ⟨V.int i, H2, I2, ⟨t, rfl⟩, q2⟩
theorem pe_ownX {rc fo ro : Option Value} {a b : Expr} {ta tb : TE} {pos : Pos} (M : OwnX X.prog X.w X.K X.mg X.base k C (PySem.dunder op.info.2) ps sp) (hx : ∀ σ, PassesAt (L2.CX X.prog X.w) X σ (E σ)) (hc : PySem.W.selfFirst X.K C = true)
    (hR : PySem.W.findIn X.K (.ref C) (dunderR op.info.2) = some rc) (hp : rc = none ∨ ∃ g : Addr, rc = some (.ref g)) (h1 : PySem.W.findIn X.K (.type "int") (PySem.dunder op.info.2) = some fo) (h2 : PySem.W.findIn X.K (.type "int") (dunderR op.info.2) = some ro)
    (hsub : PySem.W.subIn X.K (.type "int") (.ref C) = some false) (hr : Room k X.A) (ha : PE X a ta) (hb : PE X b tb) : PE X (.BinOp a op b pos) (tOpS (rOwnX C sp E) ta tb) := by
  obtain ⟨f, fd, hs, hf, hk, F, bd⟩ := M.ex
  refine ⟨fun pins s σ H Q I h => ?_⟩
  refine wpAny_BinOp (binT ha hb I h fun v u s2 x y H2 I2 rx ry q => ?_)
  obtain ⟨a', dx, gs, rfl, ea, hy, q⟩ := q
  cases rx
  obtain ⟨mA, J, _⟩ := ins_get I2.hok ea
  obtain ⟨od, J, _⟩ := J.look
  obtain ⟨m, hF⟩ := I2.fr
  have run := run_fnS (E := E) F hr bd (hx σ) I2 (.cons (show RelV (.ref a') (.ref a') from rfl) (.cons ry .nil)) q
  rcases hy with ⟨b', dy, gs', rfl, eb⟩ | ⟨n, rfl⟩
  · cases ry
    obtain ⟨mB, J', _⟩ := ins_get I2.hok eb
    obtain ⟨od', J', _⟩ := J'.look
    exact PySem.W.binop_K hF I2.ok.mod.kin J J'.type hc hs hf (wpAny_mono run (fun r s' hr => back hr) fun _ _ z => z)
  · obtain ⟨t, rfl⟩ := ry
    exact PySem.W.ksp_binT hF I2.ok.mod.kin J (T := "int") rfl hc hs hf hR hp h1 h2 hsub (wpAny_mono run (fun r s' hr => back hr) fun _ _ z => z)
theorem op_or {f : Value → Value → Sem Value} {r1 r2 : R2} (h1 : OpR X f r1) (h2 : OpR X f r2) : OpR X f (fun x y H Q => r1 x y H Q ∨ r2 x y H Q) := fun pins s σ H x y v u Q I rx ry h => h.elim (h1 pins s σ H x y v u Q I rx ry) (h2 pins s σ H x y v u Q I rx ry)
end
end Bx

set_option Elab.async false
set_option linter.all false
set_option maxRecDepth 100000
set_option maxHeartbeats 4000000
set_option pp.maxSteps 160
set_option pp.deepTerms false
namespace L
open PySem PySem.Spec PyProof.Rows L2 Fl
local macro_rules | `(tactic| walk_at "side") => `(tactic| first | (exact .inl ⟨by omega, by omega⟩) | (exact .inr ⟨by omega, by omega⟩) | (exact .inr ⟨by decide, by decide⟩) | (show (_ : Int) ≠ _; omega) | (exact ⟨by omega, by decide⟩) | (exact ⟨by decide, by decide, by decide⟩))
local macro_rules | `(tactic| walk_at "go") => `(tactic| repeat (first | refine ⟨_, rfl, ?_⟩ | refine ⟨_, _, rfl, rfl, ?_⟩ | refine .inl ⟨_, rfl, ?_⟩ | refine ⟨rfl, ?_⟩ | refine ⟨(by walk_at "side"), ?_⟩))
local macro_rules | `(tactic| walk_at "see") => `(tactic| (set_option pp.maxSteps 110 in set_option pp.deepTerms false in trace_state))
local macro_rules | `(tactic| walk_at "if") => `(tactic| first | refine ifE ?_ ?_ | refine ifNE ?_ ?_ | refine ifD ?_ ?_ | refine ifN ?_ ?_ | refine ifB ?_ ?_)
def topS (i : Nat) : Stmt := PySem.Challenge.pw_fieldlots_k03_ratio_quotients.main.body.getD i (.Pass ⟨0, 0, 0, 0⟩)
abbrev s_BadNumber_init : Stmt := inClass (topS 4) 0
theorem sc_BadNumber_init : FnScope ["self", "name", "value"] ["self", "name", "value"] (defScope s_BadNumber_init) := ⟨rfl, rfl, rfl, by decide +kernel, rfl, by decide +kernel, by decide +kernel⟩
abbrev s_is_number : Stmt := topS 7
theorem sc_is_number : FnScope ["value"] ["value"] (defScope s_is_number) := ⟨rfl, rfl, rfl, by decide +kernel, rfl, by decide +kernel, by decide +kernel⟩
abbrev s_as_ratio : Stmt := topS 8
theorem sc_as_ratio : FnScope ["number"] ["number"] (defScope s_as_ratio) := ⟨rfl, rfl, rfl, by decide +kernel, rfl, by decide +kernel, by decide +kernel⟩
abbrev s_top_of : Stmt := topS 9
theorem sc_top_of : FnScope ["number"] ["number"] (defScope s_top_of) := ⟨rfl, rfl, rfl, by decide +kernel, rfl, by decide +kernel, by decide +kernel⟩
abbrev s_under_of : Stmt := topS 10
theorem sc_under_of : FnScope ["number"] ["number"] (defScope s_under_of) := ⟨rfl, rfl, rfl, by decide +kernel, rfl, by decide +kernel, by decide +kernel⟩
abbrev s_rounded_quotient : Stmt := topS 11
theorem sc_rounded_quotient : FnScope ["number", "divisor", "under"] ["number", "divisor"] (defScope s_rounded_quotient) := ⟨rfl, rfl, rfl, by decide +kernel, rfl, by decide +kernel, by decide +kernel⟩
abbrev s_remainder : Stmt := topS 12
theorem sc_remainder : FnScope ["number", "divisor"] ["number", "divisor"] (defScope s_remainder) := ⟨rfl, rfl, rfl, by decide +kernel, rfl, by decide +kernel, by decide +kernel⟩
abbrev s_Ratio_init : Stmt := inClass (topS 13) 0
theorem sc_Ratio_init : FnScope ["self", "top", "under", "shared"] ["self", "top", "under"] (defScope s_Ratio_init) := ⟨rfl, rfl, rfl, by decide +kernel, rfl, by decide +kernel, by decide +kernel⟩
abbrev s_Ratio_whole : Stmt := inClass (topS 13) 1
theorem sc_Ratio_whole : FnScope ["self"] ["self"] (defScope s_Ratio_whole) := ⟨rfl, rfl, rfl, by decide +kernel, rfl, by decide +kernel, by decide +kernel⟩
abbrev s_Ratio_floor : Stmt := inClass (topS 13) 2
theorem sc_Ratio_floor : FnScope ["self"] ["self"] (defScope s_Ratio_floor) := ⟨rfl, rfl, rfl, by decide +kernel, rfl, by decide +kernel, by decide +kernel⟩
abbrev s_Ratio_ceiling : Stmt := inClass (topS 13) 3
theorem sc_Ratio_ceiling : FnScope ["self"] ["self"] (defScope s_Ratio_ceiling) := ⟨rfl, rfl, rfl, by decide +kernel, rfl, by decide +kernel, by decide +kernel⟩
abbrev s_Ratio_over : Stmt := inClass (topS 13) 4
theorem sc_Ratio_over : FnScope ["self", "number"] ["self", "number"] (defScope s_Ratio_over) := ⟨rfl, rfl, rfl, by decide +kernel, rfl, by decide +kernel, by decide +kernel⟩
abbrev s_Ratio_power : Stmt := inClass (topS 13) 5
theorem sc_Ratio_power : FnScope ["self", "n", "top", "under", "_"] ["self", "n"] (defScope s_Ratio_power) := ⟨rfl, rfl, rfl, by decide +kernel, rfl, by decide +kernel, by decide +kernel⟩
abbrev s_Ratio_str : Stmt := inClass (topS 13) 6
theorem sc_Ratio_str : FnScope ["self"] ["self"] (defScope s_Ratio_str) := ⟨rfl, rfl, rfl, by decide +kernel, rfl, by decide +kernel, by decide +kernel⟩
abbrev s_Ratio_bool : Stmt := inClass (topS 13) 7
theorem sc_Ratio_bool : FnScope ["self"] ["self"] (defScope s_Ratio_bool) := ⟨rfl, rfl, rfl, by decide +kernel, rfl, by decide +kernel, by decide +kernel⟩
abbrev s_Ratio_neg : Stmt := inClass (topS 13) 8
theorem sc_Ratio_neg : FnScope ["self"] ["self"] (defScope s_Ratio_neg) := ⟨rfl, rfl, rfl, by decide +kernel, rfl, by decide +kernel, by decide +kernel⟩
abbrev s_Ratio_abs : Stmt := inClass (topS 13) 9
theorem sc_Ratio_abs : FnScope ["self"] ["self"] (defScope s_Ratio_abs) := ⟨rfl, rfl, rfl, by decide +kernel, rfl, by decide +kernel, by decide +kernel⟩
abbrev s_Ratio_add : Stmt := inClass (topS 13) 10
theorem sc_Ratio_add : FnScope ["self", "other", "top"] ["self", "other"] (defScope s_Ratio_add) := ⟨rfl, rfl, rfl, by decide +kernel, rfl, by decide +kernel, by decide +kernel⟩
abbrev s_Ratio_radd : Stmt := inClass (topS 13) 11
theorem sc_Ratio_radd : FnScope ["self", "other"] ["self", "other"] (defScope s_Ratio_radd) := ⟨rfl, rfl, rfl, by decide +kernel, rfl, by decide +kernel, by decide +kernel⟩
abbrev s_Ratio_sub : Stmt := inClass (topS 13) 12
theorem sc_Ratio_sub : FnScope ["self", "other", "top"] ["self", "other"] (defScope s_Ratio_sub) := ⟨rfl, rfl, rfl, by decide +kernel, rfl, by decide +kernel, by decide +kernel⟩
abbrev s_Ratio_rsub : Stmt := inClass (topS 13) 13
theorem sc_Ratio_rsub : FnScope ["self", "other"] ["self", "other"] (defScope s_Ratio_rsub) := ⟨rfl, rfl, rfl, by decide +kernel, rfl, by decide +kernel, by decide +kernel⟩
abbrev s_Ratio_mul : Stmt := inClass (topS 13) 14
theorem sc_Ratio_mul : FnScope ["self", "other"] ["self", "other"] (defScope s_Ratio_mul) := ⟨rfl, rfl, rfl, by decide +kernel, rfl, by decide +kernel, by decide +kernel⟩
abbrev s_Ratio_rmul : Stmt := inClass (topS 13) 15
theorem sc_Ratio_rmul : FnScope ["self", "other"] ["self", "other"] (defScope s_Ratio_rmul) := ⟨rfl, rfl, rfl, by decide +kernel, rfl, by decide +kernel, by decide +kernel⟩
abbrev s_Ratio_floordiv : Stmt := inClass (topS 13) 16
theorem sc_Ratio_floordiv : FnScope ["self", "other"] ["self", "other"] (defScope s_Ratio_floordiv) := ⟨rfl, rfl, rfl, by decide +kernel, rfl, by decide +kernel, by decide +kernel⟩
abbrev s_Ratio_rfloordiv : Stmt := inClass (topS 13) 17
theorem sc_Ratio_rfloordiv : FnScope ["self", "other"] ["self", "other"] (defScope s_Ratio_rfloordiv) := ⟨rfl, rfl, rfl, by decide +kernel, rfl, by decide +kernel, by decide +kernel⟩
abbrev s_Ratio_mod : Stmt := inClass (topS 13) 18
theorem sc_Ratio_mod : FnScope ["self", "other"] ["self", "other"] (defScope s_Ratio_mod) := ⟨rfl, rfl, rfl, by decide +kernel, rfl, by decide +kernel, by decide +kernel⟩
abbrev s_Ratio_rmod : Stmt := inClass (topS 13) 19
theorem sc_Ratio_rmod : FnScope ["self", "other"] ["self", "other"] (defScope s_Ratio_rmod) := ⟨rfl, rfl, rfl, by decide +kernel, rfl, by decide +kernel, by decide +kernel⟩
abbrev s_Ratio_pow : Stmt := inClass (topS 13) 20
theorem sc_Ratio_pow : FnScope ["self", "other"] ["self", "other"] (defScope s_Ratio_pow) := ⟨rfl, rfl, rfl, by decide +kernel, rfl, by decide +kernel, by decide +kernel⟩
abbrev s_Ratio_eq : Stmt := inClass (topS 13) 21
theorem sc_Ratio_eq : FnScope ["self", "other"] ["self", "other"] (defScope s_Ratio_eq) := ⟨rfl, rfl, rfl, by decide +kernel, rfl, by decide +kernel, by decide +kernel⟩
abbrev s_Ratio_lt : Stmt := inClass (topS 13) 22
theorem sc_Ratio_lt : FnScope ["self", "other"] ["self", "other"] (defScope s_Ratio_lt) := ⟨rfl, rfl, rfl, by decide +kernel, rfl, by decide +kernel, by decide +kernel⟩
abbrev s_Ratio_le : Stmt := inClass (topS 13) 23
theorem sc_Ratio_le : FnScope ["self", "other"] ["self", "other"] (defScope s_Ratio_le) := ⟨rfl, rfl, rfl, by decide +kernel, rfl, by decide +kernel, by decide +kernel⟩
abbrev s_Ratio_gt : Stmt := inClass (topS 13) 24
theorem sc_Ratio_gt : FnScope ["self", "other"] ["self", "other"] (defScope s_Ratio_gt) := ⟨rfl, rfl, rfl, by decide +kernel, rfl, by decide +kernel, by decide +kernel⟩
abbrev s_Ratio_ge : Stmt := inClass (topS 13) 25
theorem sc_Ratio_ge : FnScope ["self", "other"] ["self", "other"] (defScope s_Ratio_ge) := ⟨rfl, rfl, rfl, by decide +kernel, rfl, by decide +kernel, by decide +kernel⟩
abbrev s_pool : Stmt := topS 15
theorem sc_pool : FnScope ["_law_script", "_law_cell"] ["_law_script"] (defScope s_pool) := ⟨rfl, rfl, rfl, by decide +kernel, rfl, by decide +kernel, by decide +kernel⟩
abbrev s_mix : Stmt := topS 16
theorem sc_mix : FnScope ["_law_state", "_law_turn", "_law_many", "_law_first", "_law_second"] ["_law_state", "_law_turn", "_law_many"] (defScope s_mix) := ⟨rfl, rfl, rfl, by decide +kernel, rfl, by decide +kernel, by decide +kernel⟩
abbrev s_draw : Stmt := topS 17
theorem sc_draw : FnScope ["_law_pool_here", "_law_many", "_law_spare", "_law_found", "_law_cell"] ["_law_pool_here", "_law_many"] (defScope s_draw) := ⟨rfl, rfl, rfl, by decide +kernel, rfl, by decide +kernel, by decide +kernel⟩
abbrev s_wide : Stmt := topS 18
theorem sc_wide : FnScope ["_law_pool_here", "_law_size", "_law_many", "_law_found", "_law_spare"] ["_law_pool_here"] (defScope s_wide) := ⟨rfl, rfl, rfl, by decide +kernel, rfl, by decide +kernel, by decide +kernel⟩
abbrev s_signed : Stmt := topS 19
theorem sc_signed : FnScope ["_law_pool_here", "_law_found"] ["_law_pool_here"] (defScope s_signed) := ⟨rfl, rfl, rfl, by decide +kernel, rfl, by decide +kernel, by decide +kernel⟩
abbrev s_any : Stmt := topS 20
theorem sc_any : FnScope ["_law_pool_here", "_law_cell"] ["_law_pool_here"] (defScope s_any) := ⟨rfl, rfl, rfl, by decide +kernel, rfl, by decide +kernel, by decide +kernel⟩
abbrev s_either : Stmt := topS 21
theorem sc_either : FnScope ["_law_pool_here", "_law_found"] ["_law_pool_here"] (defScope s_either) := ⟨rfl, rfl, rfl, by decide +kernel, rfl, by decide +kernel, by decide +kernel⟩
abbrev s_gcd : Stmt := topS 22
theorem sc_gcd : FnScope ["_law_one", "_law_other", "_law_spare"] ["_law_one", "_law_other"] (defScope s_gcd) := ⟨rfl, rfl, rfl, by decide +kernel, rfl, by decide +kernel, by decide +kernel⟩
abbrev s_whole : Stmt := topS 23
theorem sc_whole : FnScope ["_law_actual"] ["_law_actual"] (defScope s_whole) := ⟨rfl, rfl, rfl, by decide +kernel, rfl, by decide +kernel, by decide +kernel⟩
abbrev s_ratio : Stmt := topS 24
theorem sc_ratio : FnScope ["_law_actual"] ["_law_actual"] (defScope s_ratio) := ⟨rfl, rfl, rfl, by decide +kernel, rfl, by decide +kernel, by decide +kernel⟩
abbrev s_exact : Stmt := topS 25
theorem sc_exact : FnScope ["_law_actual", "_law_top", "_law_under"] ["_law_actual", "_law_top", "_law_under"] (defScope s_exact) := ⟨rfl, rfl, rfl, by decide +kernel, rfl, by decide +kernel, by decide +kernel⟩
abbrev s_refused : Stmt := topS 26
theorem sc_refused : FnScope ["_law_a", "_law_b", "_law_way", "_law_found", "_law_got", "e"] ["_law_a", "_law_b", "_law_way"] (defScope s_refused) := ⟨rfl, rfl, rfl, by decide +kernel, rfl, by decide +kernel, by decide +kernel⟩
abbrev s_between : Stmt := topS 27
theorem sc_between : FnScope ["_law_found", "_law_top", "_law_under"] ["_law_found", "_law_top", "_law_under"] (defScope s_between) := ⟨rfl, rfl, rfl, by decide +kernel, rfl, by decide +kernel, by decide +kernel⟩
abbrev s_divided : Stmt := topS 28
theorem sc_divided : FnScope ["_law_a", "_law_b", "_law_at", "_law_au", "_law_bt", "_law_bu", "_law_top", "_law_under", "_law_quotient", "_law_whole_here"] ["_law_a", "_law_b", "_law_at", "_law_au", "_law_bt", "_law_bu"] (defScope s_divided) := ⟨rfl, rfl, rfl, by decide +kernel, rfl, by decide +kernel, by decide +kernel⟩
abbrev s_zero : Stmt := topS 29
theorem sc_zero : FnScope ["_law_pool_here", "_law_at", "_law_au", "_law_a", "_law_zero_here", "_law_way"] ["_law_pool_here"] (defScope s_zero) := ⟨rfl, rfl, rfl, by decide +kernel, rfl, by decide +kernel, by decide +kernel⟩
abbrev s_law : Stmt := topS 30
theorem sc_law : FnScope ["_law_script", "_law_pool_here", "_law_bt", "_law_bu", "_law_b", "_law_way", "_law_at", "_law_au", "_law_a", "_law_low", "_law_high"] ["_law_script"] (defScope s_law) := ⟨rfl, rfl, rfl, by decide +kernel, rfl, by decide +kernel, by decide +kernel⟩
section
variable {P : Program} {w : World} {K : PySem.W.Frag} {mg : Str → Option Value} {base : Heap}

def spMix : Sp := fun vs H Q _ => ∃ (s t m : Int), vs = [.int s, .int t, .int m] ∧ 2 ≤ m ∧ m < 1073741824 ∧ ∀ r : Int, 0 ≤ r → r < m → Q (.int r) H
abbrev CalMix (P : Program) (w : World) (K : PySem.W.Frag) (mg : Str → Option Value) (base : Heap) := Cal P w K mg base 1 "_law_mix" ["_law_state", "_law_turn", "_law_many"] spMix
theorem ok_mix (B : Blt mg) (D : Dfn K mg "_law_mix" "_law_mix" s_mix ["_law_state", "_law_turn", "_law_many"]) : CalMix P w K mg base := by
  refine D.cal sc_mix (fun vs H Q E h => ?_) (fun f cdv A outer st H vs Q E hr h => ?_)
  · obtain ⟨s, t, m, rfl, _⟩ := h
    rfl
  · obtain ⟨s, t, m, rfl, h2, h3, q⟩ := h
    refine ⟨_, (pss_cons (ps_set (i := 3) sc_mix.nd rfl (Or.inl rfl) (pe_op op_modN (pe_callTy call_int1 (by rfl) B.int (by decide +kernel) (pa_cons (pe_op op_add (pe_op op_add (pe_op op_mul (pv 0) (pe_int)) (pe_op op_mul (pv 1) (pe_int))) (pe_int)) pa_nil)) (pe_int)))
      (pss_cons (ps_set (i := 4) sc_mix.nd rfl (Or.inl rfl) (pe_op op_modN (pe_callTy call_int1 (by rfl) B.int (by decide +kernel) (pa_cons (pe_op op_add (pe_op op_add (pe_op op_mul (pv 3) (pv 3)) (pe_op op_mul (pv 1) (pe_int))) (pv 0)) pa_nil)) (pe_int)))
      (pss_one (ps_ret (pe_op op_modN (pe_callTy call_int1 (by rfl) B.int (by decide +kernel) (pa_cons (pe_op op_fdivA (pv 4) (pe_int)) pa_nil)) (pv 2)))))), ?_⟩
    walk_at "go"
    have b1 := fm (s * 16807 + t * 7919 + 101) (show (0 : Int) < 2147483629 by decide)
    refine ⟨.inl ⟨by omega, by omega⟩, ?_⟩
    walk_at "go"
    have b2 := fm (((((s * 16807 + t * 7919 + 101).fmod 2147483629 * (s * 16807 + t * 7919 + 101).fmod 2147483629) + t * 104729 + s).fmod 2147483587).fdiv 11) (show (0 : Int) < m by omega)
    exact q _ b2.1 b2.2
def spDraw : Sp := fun vs H Q _ => ∃ (p : Pla) (m : Int), vs = [.ref p, .int m] ∧ Pool H p ∧ 2 ≤ m ∧ m < 1073741824 ∧ ∀ (r : Int) (H' : Hp), 0 ≤ r → r < m → Pool H' p → Keeps H H' p → Q (.int r) H'
abbrev CalDraw (P : Program) (w : World) (K : PySem.W.Frag) (mg : Str → Option Value) (base : Heap) := Cal P w K mg base 2 "_law_draw" ["_law_pool_here", "_law_many"] spDraw
theorem ok_draw (B : Blt mg) (D : Dfn K mg "_law_draw" "_law_draw" s_draw ["_law_pool_here", "_law_many"]) (C_mix : CalMix P w K mg base) : CalDraw P w K mg base := by
  refine D.cal sc_draw (fun vs H Q E h => ?_) (fun f cdv A outer st H vs Q E hr h => ?_)
  · obtain ⟨p, m, rfl, _⟩ := h
    rfl
  · obtain ⟨p, m, rfl, ⟨ns, i, b, c, d, hp, hq, hi, hqp⟩, h2, h3, k⟩ := h
    refine ⟨_, (pss_cons (ps_if (PW.pt (pw_or (pt_cmpR op_lt (pv 1) (pe_int) (nomark _)) (pw_or1 (pt_cmpR op_eq (pe_callB call_len_seq (by rfl) B.len PySem.boot_len (pa_cons (pe_ix ix_list (pv 0) (pe_int) (fun _ _ => rfl)) pa_nil)) (pe_int) (nomark _))))) (pss_one (ps_ret (pe_int))) pss_nil)
      (pss_cons (ps_asg (pe_op op_add (pe_ix ix_list (pv 0) (pe_int) (fun _ _ => rfl)) (pe_int)) (pg_sub (pv 0) (pe_int) set_list))
      (pss_cons (ps_for PassesOwn.never rfl (pi_range1 (by rfl) B.range (pa_cons (pe_int) pa_nil)) (pg_name (i := 2) sc_draw.nd rfl (Or.inl rfl)) (pss_cons (ps_if (pt_cmpR op_gt (pe_ix ix_list (pv 0) (pe_int) (fun _ _ => rfl)) (pe_int) (nomark _)) (pss_cons (ps_set (i := 3) sc_draw.nd rfl (Or.inl rfl) (pe_op op_modN (pe_callTy call_int1 (by rfl) B.int (by decide +kernel) (pa_cons (pe_ix ix_list (pv 0) (pe_int) (fun _ _ => rfl)) pa_nil)) (pv 1)))
      (pss_cons (ps_asg (pe_op op_fdivA (pe_ix ix_list (pv 0) (pe_int) (fun _ _ => rfl)) (pv 1)) (pg_sub (pv 0) (pe_int) set_list))
      (pss_one (ps_ret (pv 3))))) pss_nil)
      (pss_cons (ps_if (pt_cmpR op_ge (pe_ix ix_list (pv 0) (pe_int) (fun _ _ => rfl)) (pe_callB call_len_seq (by rfl) B.len PySem.boot_len (pa_cons (pe_ix ix_list (pv 0) (pe_int) (fun _ _ => rfl)) pa_nil)) (nomark _)) (pss_one (ps_ret (pe_cal C_mix (hr.mono (by decide)) (pa_cons (pe_ix ix_list (pv 0) (pe_int) (fun _ _ => rfl)) (pa_cons (pe_ix ix_list (pv 0) (pe_int) (fun _ _ => rfl)) (pa_cons (pv 1) pa_nil)))))) pss_nil)
      (pss_cons (ps_set (i := 4) sc_draw.nd rfl (Or.inl rfl) (pe_ix ix_list (pe_ix ix_list (pv 0) (pe_int) (fun _ _ => rfl)) (pe_ix ix_list (pv 0) (pe_int) (fun _ _ => rfl)) (fun _ _ => rfl)))
      (pss_cons (ps_asg (pe_op op_add (pe_ix ix_list (pv 0) (pe_int) (fun _ _ => rfl)) (pe_int)) (pg_sub (pv 0) (pe_int) set_list))
      (pss_cons (ps_asg (pe_op op_modN (pe_callTy call_int1 (by rfl) B.int (by decide +kernel) (pa_cons (pe_op op_add (pe_op op_add (pe_op op_mul (pe_ix ix_list (pv 0) (pe_int) (fun _ _ => rfl)) (pe_int)) (pe_op op_mul (pv 4) (pe_int))) (pe_int)) pa_nil)) (pe_int)) (pg_sub (pv 0) (pe_int) set_list))
      (pss_cons (ps_if (pt_cmpR op_lt (pv 4) (pe_op op_pow (pe_int) (pe_int)) (nomark _)) (pss_one (ps_ret (pe_cal C_mix (hr.mono (by decide)) (pa_cons (pe_ix ix_list (pv 0) (pe_int) (fun _ _ => rfl)) (pa_cons (pe_ix ix_list (pv 0) (pe_int) (fun _ _ => rfl)) (pa_cons (pv 1) pa_nil)))))) pss_nil)
      (pss_one (ps_asg (pe_op op_sub (pv 4) (pe_op op_pow (pe_int) (pe_int))) (pg_sub (pv 0) (pe_int) set_list))))))))))
      (pss_one (ps_ret (pe_cal C_mix (hr.mono (by decide)) (pa_cons (pe_ix ix_list (pv 0) (pe_int) (fun _ _ => rfl)) (pa_cons (pe_ix ix_list (pv 0) (pe_int) (fun _ _ => rfl)) (pa_cons (pv 1) pa_nil))))))))), ?_⟩
    walk_at "go"
    rw [decide_eq_false (by omega)]
    refine iteF ?_
    walk_at "go"
    refine ⟨_, _, _, _, rfl, rfl, SqL.of hp, rfl, ?_⟩
    refine ⟨_, _, rfl, .inl (SqL.of hq), ?_⟩
    walk_at "go"
    walk_at "if"
    · intro _
      walk_at "go"
      exact k 0 H (by omega) (by omega) ⟨ns, i, b, c, d, hp, hq, hi, hqp⟩ (Keeps.refl _ _)
    intro hlen
    refine ⟨_, rfl, _, _, _, _, rfl, rfl, SqL.of hp, rfl, ?_⟩
    walk_at "go"
    refine ⟨_, _, _, _, rfl, rfl, hp, rfl, ?_⟩
    refine ⟨64, rfl, by decide, by decide, for_range (n := 64) (fun _ σ H' => ∃ v2 v3 v4 : Option V, σ = [some (.ref (p : Addr)), some (.int m), v2, v3, v4] ∧ ∃ i b c d : Int, H' p = some (.lst [.ref p.q, .int i, .int b, .int c, .int d]) ∧ H' p.q = some (.lst (ns.map V.int)) ∧ 0 ≤ i ∧ Keeps H H' p)
      ⟨none, none, none, rfl, i, b, c, d + 1, upd_same, by rw [upd_ne hqp]; exact hq, hi, Keeps.upd⟩ ?_ ?_⟩
    · rintro j σ H1 hj ⟨v2, v3, v4, rfl, i, b, c, d, hp, hq, hi, hk⟩
      refine ⟨_, rfl, _, _, _, _, rfl, rfl, SqL.of hp, rfl, ?_⟩
      walk_at "go"
      walk_at "if"
      · intro hb
        refine ⟨_, rfl, _, _, _, _, rfl, rfl, SqL.of hp, rfl, ?_⟩
        walk_at "go"
        refine ⟨_, _, _, _, rfl, rfl, SqL.of hp, rfl, ?_⟩
        walk_at "go"
        refine ⟨divA (b := 30) (by omega) (by omega) (by decide) (by decide), ?_⟩
        walk_at "go"
        refine ⟨_, _, _, _, rfl, rfl, hp, rfl, ?_⟩
        walk_at "go"
        have b2 := fm b (show (0 : Int) < m by omega)
        exact k _ _ b2.1 b2.2 ⟨ns, i, _, c, d, upd_same, by rw [upd_ne hqp]; exact hq, hi, hqp⟩ (hk.trans Keeps.upd)
      · intro hb
        refine ⟨_, rfl, _, _, _, _, rfl, rfl, SqL.of hp, rfl, ?_⟩
        walk_at "go"
        refine ⟨_, _, _, _, rfl, rfl, SqL.of hp, rfl, ?_⟩
        refine ⟨_, _, rfl, .inl (SqL.of hq), ?_⟩
        walk_at "go"
        walk_at "if"
        · intro hl
          refine ⟨_, rfl, _, _, _, _, rfl, rfl, SqL.of hp, rfl, ?_⟩
          refine ⟨_, rfl, _, _, _, _, rfl, rfl, SqL.of hp, rfl, ?_⟩
          walk_at "go"
          refine ⟨_, _, _, rfl, h2, h3, fun r r0 r1 => ?_⟩
          exact k _ _ r0 r1 ⟨ns, i, b, c, d, hp, hq, hi, hqp⟩ hk
        · intro hl
          have hl2 : i < (ns.length : Int) := by
            have hl' : ¬ ((ns.map V.int).length : Int) ≤ i := hl
            rw [List.length_map] at hl'
            omega
          obtain ⟨n, rfl⟩ : ∃ n : Nat, i = (n : Int) := ⟨i.toNat, by omega⟩
          have hn : n < ns.length := by omega
          refine ⟨_, rfl, _, _, _, _, rfl, rfl, SqL.of hp, rfl, ?_⟩
          refine ⟨_, rfl, _, _, _, _, rfl, rfl, SqL.of hp, rfl, ?_⟩
          refine ⟨_, _, _, _, rfl, rfl, SqL.of hq, atI_nat (ints_at hn), ?_⟩
          refine ⟨_, rfl, _, _, _, _, rfl, rfl, SqL.of hp, rfl, ?_⟩
          walk_at "go"
          refine ⟨_, _, _, _, rfl, rfl, hp, rfl, ?_⟩
          refine ⟨_, rfl, _, _, _, _, rfl, rfl, SqL.of upd_same, rfl, ?_⟩
          walk_at "go"
          refine ⟨_, _, _, _, rfl, rfl, upd_same, rfl, ?_⟩
          walk_at "go"
          walk_at "if"
          · intro hcell
            refine ⟨_, rfl, _, _, _, _, rfl, rfl, SqL.of upd_same, rfl, ?_⟩
            refine ⟨_, rfl, _, _, _, _, rfl, rfl, SqL.of upd_same, rfl, ?_⟩
            walk_at "go"
            refine ⟨_, _, _, rfl, h2, h3, fun r r0 r1 => ?_⟩
            exact k _ _ r0 r1 ⟨ns, _, b, _, d, upd_same, by rw [upd_ne hqp, upd_ne hqp]; exact hq, by omega, hqp⟩ ((hk.trans Keeps.upd).trans Keeps.upd)
          · intro hcell
            walk_at "go"
            refine ⟨_, _, _, _, rfl, rfl, upd_same, rfl, ?_⟩
            exact ⟨_, _, _, rfl, _, _, _, d, upd_same, by rw [upd_ne hqp, upd_ne hqp, upd_ne hqp]; exact hq, by omega, ((hk.trans Keeps.upd).trans Keeps.upd).trans Keeps.upd⟩
    · rintro σ H1 ⟨v2, v3, v4, rfl, i, b, c, d, hp, hq, hi, hk⟩
      refine ⟨_, rfl, _, _, _, _, rfl, rfl, SqL.of hp, rfl, ?_⟩
      refine ⟨_, rfl, _, _, _, _, rfl, rfl, SqL.of hp, rfl, ?_⟩
      walk_at "go"
      refine ⟨_, _, _, rfl, h2, h3, fun r r0 r1 => ?_⟩
      exact k _ _ r0 r1 ⟨ns, i, b, c, d, hp, hq, hi, hqp⟩ hk

theorem wide_ix {s : Int} (h0 : 3 ≤ s) (h1 : s < 6) : ∃ M : Int, atI [V.int 1, V.int 2, V.int 5] (s - 3) = some (V.int M) ∧ (M = 1 ∨ M = 2 ∨ M = 5) := by
  have : s = 3 ∨ s = 4 ∨ s = 5 := by omega
  rcases this with rfl | rfl | rfl
  · exact ⟨1, rfl, by omega⟩
  · exact ⟨2, rfl, by omega⟩
  · exact ⟨5, rfl, by omega⟩
def spWide : Sp := fun vs H Q _ => ∃ (p : Pla), vs = [.ref p] ∧ Pool H p ∧ ∀ (r : Int) (H' : Hp), 0 ≤ r → r < 10 ^ 30 → Pool H' p → Keeps H H' p → Q (.int r) H'
abbrev CalWide (P : Program) (w : World) (K : PySem.W.Frag) (mg : Str → Option Value) (base : Heap) := Cal P w K mg base 3 "_law_wide" ["_law_pool_here"] spWide
theorem ok_wide (B : Blt mg) (D : Dfn K mg "_law_wide" "_law_wide" s_wide ["_law_pool_here"]) (C_draw : CalDraw P w K mg base) : CalWide P w K mg base := by
  refine D.cal sc_wide (fun vs H Q E h => ?_) (fun f cdv A outer st H vs Q E hr h => ?_)
  · obtain ⟨p, rfl, _⟩ := h
    rfl
  · obtain ⟨p, rfl, hP, k⟩ := h
    refine ⟨_, (pss_cons (ps_set (i := 1) sc_wide.nd rfl (Or.inl rfl) (pe_cal C_draw (hr.mono (by decide)) (pa_cons (pv 0) (pa_cons (pe_int) pa_nil))))
      (pss_cons (ps_if (pt_cmpR op_eq (pv 1) (pe_int) (nomark _)) (pss_one (ps_ret (pe_cal C_draw (hr.mono (by decide)) (pa_cons (pv 0) (pa_cons (pe_int) pa_nil))))) pss_nil)
      (pss_cons (ps_if (pt_cmpR op_lt (pv 1) (pe_int) (nomark _)) (pss_one (ps_ret (pe_cal C_draw (hr.mono (by decide)) (pa_cons (pv 0) (pa_cons (pe_int) pa_nil))))) pss_nil)
      (pss_cons (ps_set (i := 2) sc_wide.nd rfl (Or.inl rfl) (pe_ix ix_tup (pe_tup (pa_cons (pe_int) (pa_cons (pe_int) (pa_cons (pe_int) pa_nil)))) (pe_op op_sub (pv 1) (pe_int)) (fun _ _ => rfl)))
      (pss_cons (ps_set (i := 3) sc_wide.nd rfl (Or.inl rfl) (pe_int))
      (pss_cons (ps_for PassesOwn.never rfl (pi_range1 (by rfl) B.range (pa_cons (pv 2) pa_nil)) (pg_name (i := 4) sc_wide.nd rfl (Or.inl rfl)) (pss_one (ps_set (i := 3) sc_wide.nd rfl (Or.inl rfl) (pe_op op_add (pe_op op_mul (pv 3) (pe_op op_pow (pe_int) (pe_int))) (pe_cal C_draw (hr.mono (by decide)) (pa_cons (pv 0) (pa_cons (pe_op op_pow (pe_int) (pe_int)) pa_nil)))))))
      (pss_one (ps_ret (pv 3))))))))), ?_⟩
    refine ⟨_, rfl, p, 6, rfl, hP, by decide, by decide, fun s H1 s0 s1 hP1 hk1 => ?_⟩
    walk_at "go"
    walk_at "if"
    · intro _
      refine ⟨_, rfl, p, 4, rfl, hP1, by decide, by decide, fun r H2 r0 r1 hP2 hk2 => ?_⟩
      exact k r H2 r0 (by omega) hP2 (hk1.trans hk2)
    intro n0
    walk_at "go"
    walk_at "if"
    · intro _
      refine ⟨_, rfl, p, 30, rfl, hP1, by decide, by decide, fun r H2 r0 r1 hP2 hk2 => ?_⟩
      exact k r H2 r0 (by omega) hP2 (hk1.trans hk2)
    intro n3
    obtain ⟨M, eM, hM⟩ := wide_ix (s := s) (by omega) s1
    refine ⟨(by show 3 ≤ sizeLine; decide), fun t ht => ?_⟩
    walk_at "go"
    refine ⟨_, _, _, _, rfl, rfl, SqT.of upd_same, eM, ?_⟩
    refine ⟨_, rfl, _, rfl, (by omega), (by omega), for_range (n := M.toNat) (fun i σ H' => ∃ (f : Int) (v4 : Option V), σ = [some (.ref (p : Addr)), some (.int s), some (.int M), some (.int f), v4] ∧ 0 ≤ f ∧ f < 1000000 ^ i ∧ Pool H' p ∧ Keeps H H' p)
      ⟨0, none, rfl, by omega, by decide, hP1.upd ht, hk1.trans (same_keeps (same_upd ht))⟩ ?_ ?_⟩
    · rintro i σ H2 hi ⟨f, v4, rfl, f0, f1, hP2, hk2⟩
      walk_at "go"
      refine ⟨_, _, rfl, hP2, by decide, by decide, fun r H3 r0 r1 hP3 hk3 => ?_⟩
      walk_at "go"
      have r1' : r < 1000000 := r1
      refine ⟨f * 1000000 + r, _, rfl, by omega, ?_, hP3, hk2.trans hk3⟩
      rw [Int.pow_succ]
      omega
    · rintro σ H2 ⟨f, v4, rfl, f0, f1, hP2, hk2⟩
      refine ⟨_, rfl, k f H2 f0 ?_ hP2 hk2⟩
      rcases hM with rfl | rfl | rfl
      · exact Int.lt_of_lt_of_le f1 (by decide)
      · exact Int.lt_of_lt_of_le f1 (by decide)
      · exact Int.lt_of_lt_of_le f1 (by decide)

def spAny : Sp := fun vs H Q _ => ∃ (p : Pla), vs = [.ref p] ∧ Pool H p ∧ ∀ (r : Int) (H' : Hp), 0 ≤ r → r < 10 ^ 60 → Pool H' p → Keeps H H' p → Q (.int r) H'
abbrev CalAny (P : Program) (w : World) (K : PySem.W.Frag) (mg : Str → Option Value) (base : Heap) := Cal P w K mg base 4 "_law_any" ["_law_pool_here"] spAny
theorem ok_any (B : Blt mg) (D : Dfn K mg "_law_any" "_law_any" s_any ["_law_pool_here"]) (C_draw : CalDraw P w K mg base) (C_wide : CalWide P w K mg base) : CalAny P w K mg base := by
  refine D.cal sc_any (fun vs H Q E h => ?_) (fun f cdv A outer st H vs Q E hr h => ?_)
  · obtain ⟨p, rfl, _⟩ := h
    rfl
  · obtain ⟨p, rfl, hP, k⟩ := h
    have last : ∀ H1, Pool H1 p → Keeps H H1 p → spWide ([V.ref p] ++ []) H1 Q E0 := fun H1 hP1 hk1 =>
      ⟨p, rfl, hP1, fun r H2 r0 r1 hP2 hk2 => k r H2 r0 (Int.lt_of_lt_of_le r1 (by decide)) hP2 (hk1.trans hk2)⟩
    refine ⟨_, (pss_cons (ps_if (PW.pt (pw_and (pt_cmpR op_eq (pe_cal C_draw (hr.mono (by decide)) (pa_cons (pv 0) (pa_cons (pe_int) pa_nil))) (pe_int) (nomark _)) (pw_and1 (pt_cmpR op_lt (pe_ix ix_list (pv 0) (pe_int) (fun _ _ => rfl)) (pe_callB call_len_seq (by rfl) B.len PySem.boot_len (pa_cons (pe_ix ix_list (pv 0) (pe_int) (fun _ _ => rfl)) pa_nil)) (nomark _))))) (pss_cons (ps_set (i := 1) sc_any.nd rfl (Or.inl rfl) (pe_ix ix_list (pe_ix ix_list (pv 0) (pe_int) (fun _ _ => rfl)) (pe_ix ix_list (pv 0) (pe_int) (fun _ _ => rfl)) (fun _ _ => rfl)))
      (pss_cons (ps_asg (pe_op op_add (pe_ix ix_list (pv 0) (pe_int) (fun _ _ => rfl)) (pe_int)) (pg_sub (pv 0) (pe_int) set_list))
      (pss_one (ps_ret (pe_op op_modN (pe_callTy call_int1 (by rfl) B.int (by decide +kernel) (pa_cons (pe_callB call_abs (by rfl) B.abs (by decide +kernel) (pa_cons (pv 1) pa_nil)) pa_nil)) (pe_op op_pow (pe_int) (pe_int))))))) pss_nil)
      (pss_one (ps_ret (pe_cal C_wide (hr.mono (by decide)) (pa_cons (pv 0) pa_nil))))), ?_⟩
    refine ⟨_, rfl, p, 8, rfl, hP, by decide, by decide, fun s H1 s0 s1 hP1 hk1 => ?_⟩
    walk_at "go"
    obtain ⟨ns, i, b, c, d, hp, hq, hi, hqp⟩ := id hP1
    walk_at "if"
    · intro _
      refine ⟨_, rfl, _, _, _, _, rfl, rfl, SqL.of hp, rfl, ?_⟩
      refine ⟨_, rfl, _, _, _, _, rfl, rfl, SqL.of hp, rfl, ?_⟩
      refine ⟨_, _, rfl, .inl (SqL.of hq), ?_⟩
      walk_at "go"
      walk_at "if"
      · intro hl
        have hl' : i < ((ns.map V.int).length : Int) := hl
        rw [List.length_map] at hl'
        obtain ⟨n, rfl⟩ : ∃ n : Nat, i = (n : Int) := ⟨i.toNat, by omega⟩
        have hn : n < ns.length := by omega
        refine ⟨_, rfl, _, _, _, _, rfl, rfl, SqL.of hp, rfl, ?_⟩
        refine ⟨_, rfl, _, _, _, _, rfl, rfl, SqL.of hp, rfl, ?_⟩
        refine ⟨_, _, _, _, rfl, rfl, SqL.of hq, atI_nat (ints_at hn), ?_⟩
        refine ⟨_, rfl, _, _, _, _, rfl, rfl, SqL.of hp, rfl, ?_⟩
        walk_at "go"
        refine ⟨_, _, _, _, rfl, rfl, hp, rfl, ?_⟩
        walk_at "go"
        refine ⟨(by show (10 : Int) ^ (60 : Int).toNat ≠ 0; decide), ?_⟩
        have b2 := fm (if ns[n] < 0 then -ns[n] else ns[n]) (show (0 : Int) < 10 ^ 60 by decide)
        exact k _ _ b2.1 b2.2 ⟨ns, _, b, c, d, upd_same, by rw [upd_ne hqp]; exact hq, by omega, hqp⟩ (hk1.trans Keeps.upd)
      · intro _
        exact ⟨_, rfl, last _ hP1 hk1⟩
    · intro _
      exact ⟨_, rfl, last _ hP1 hk1⟩

def spSigned : Sp := fun vs H Q _ => ∃ (p : Pla), vs = [.ref p] ∧ Pool H p ∧ ∀ (r : Int) (H' : Hp), -(10 ^ 30) < r → r < 10 ^ 30 → Pool H' p → Keeps H H' p → Q (.int r) H'
abbrev CalSigned (P : Program) (w : World) (K : PySem.W.Frag) (mg : Str → Option Value) (base : Heap) := Cal P w K mg base 4 "_law_signed" ["_law_pool_here"] spSigned
theorem ok_signed (B : Blt mg) (D : Dfn K mg "_law_signed" "_law_signed" s_signed ["_law_pool_here"]) (C_draw : CalDraw P w K mg base) (C_wide : CalWide P w K mg base) : CalSigned P w K mg base := by
  refine D.cal sc_signed (fun vs H Q E h => ?_) (fun f cdv A outer st H vs Q E hr h => ?_)
  · obtain ⟨p, rfl, _⟩ := h
    rfl
  · obtain ⟨p, rfl, hP, k⟩ := h
    refine ⟨_, (pss_cons (ps_set (i := 1) sc_signed.nd rfl (Or.inl rfl) (pe_cal C_wide (hr.mono (by decide)) (pa_cons (pv 0) pa_nil)))
      (pss_cons (ps_if (pt_cmpR op_eq (pe_cal C_draw (hr.mono (by decide)) (pa_cons (pv 0) (pa_cons (pe_int) pa_nil))) (pe_int) (nomark _)) (pss_one (ps_ret (pe_un un_neg (pv 1)))) pss_nil)
      (pss_one (ps_ret (pv 1))))), ?_⟩
    refine ⟨_, rfl, p, rfl, hP, fun r H1 r0 r1 hP1 hk1 => ?_⟩
    refine ⟨_, rfl, p, 2, rfl, hP1, by decide, by decide, fun s H2 s0 s1 hP2 hk2 => ?_⟩
    walk_at "go"
    walk_at "if"
    · intro _
      exact ⟨_, rfl, _, rfl, k _ _ (by omega) (by omega) hP2 (hk1.trans hk2)⟩
    · intro _
      exact ⟨_, rfl, k _ _ (by omega) (by omega) hP2 (hk1.trans hk2)⟩

def spEither : Sp := fun vs H Q _ => ∃ (p : Pla), vs = [.ref p] ∧ Pool H p ∧ ∀ (r : Int) (H' : Hp), -(10 ^ 60) < r → r < 10 ^ 60 → Pool H' p → Keeps H H' p → Q (.int r) H'
abbrev CalEither (P : Program) (w : World) (K : PySem.W.Frag) (mg : Str → Option Value) (base : Heap) := Cal P w K mg base 5 "_law_either" ["_law_pool_here"] spEither
theorem ok_either (B : Blt mg) (D : Dfn K mg "_law_either" "_law_either" s_either ["_law_pool_here"]) (C_draw : CalDraw P w K mg base) (C_any : CalAny P w K mg base) : CalEither P w K mg base := by
  refine D.cal sc_either (fun vs H Q E h => ?_) (fun f cdv A outer st H vs Q E hr h => ?_)
  · obtain ⟨p, rfl, _⟩ := h
    rfl
  · obtain ⟨p, rfl, hP, k⟩ := h
    refine ⟨_, (pss_cons (ps_set (i := 1) sc_either.nd rfl (Or.inl rfl) (pe_cal C_any (hr.mono (by decide)) (pa_cons (pv 0) pa_nil)))
      (pss_cons (ps_if (pt_cmpR op_eq (pe_cal C_draw (hr.mono (by decide)) (pa_cons (pv 0) (pa_cons (pe_int) pa_nil))) (pe_int) (nomark _)) (pss_one (ps_ret (pe_un un_neg (pv 1)))) pss_nil)
      (pss_one (ps_ret (pv 1))))), ?_⟩
    refine ⟨_, rfl, p, rfl, hP, fun r H1 r0 r1 hP1 hk1 => ?_⟩
    refine ⟨_, rfl, p, 2, rfl, hP1, by decide, by decide, fun s H2 s0 s1 hP2 hk2 => ?_⟩
    walk_at "go"
    walk_at "if"
    · intro _
      exact ⟨_, rfl, _, rfl, k _ _ (by omega) (by omega) hP2 (hk1.trans hk2)⟩
    · intro _
      exact ⟨_, rfl, k _ _ (by omega) (by omega) hP2 (hk1.trans hk2)⟩

def spGcd : Sp := fun vs H Q _ => ∃ (a b : Int), vs = [.int a, .int b] ∧ b.natAbs < 10 ^ 124 ∧ Q (.int ((max 1 (Nat.gcd a.natAbs b.natAbs) : Nat) : Int)) H
abbrev CalGcd (P : Program) (w : World) (K : PySem.W.Frag) (mg : Str → Option Value) (base : Heap) := Cal P w K mg base 1 "_law_gcd" ["_law_one", "_law_other"] spGcd
theorem abs_if (a : Int) : (if a < 0 then -a else a) = (a.natAbs : Int) := by split <;> omega
theorem ok_gcd (B : Blt mg) (D : Dfn K mg "_law_gcd" "_law_gcd" s_gcd ["_law_one", "_law_other"]) : CalGcd P w K mg base := by
  refine D.cal sc_gcd (fun vs H Q E h => ?_) (fun f cdv A outer st H vs Q E hr h => ?_)
  · obtain ⟨a, b, rfl, _⟩ := h
    rfl
  · obtain ⟨a, b, rfl, hb, q⟩ := h
    refine ⟨_, (pss_cons (ps_set (i := 0) sc_gcd.nd rfl (Or.inl rfl) (pe_callB call_abs (by rfl) B.abs (by decide +kernel) (pa_cons (pv 0) pa_nil)))
      (pss_cons (ps_set (i := 1) sc_gcd.nd rfl (Or.inl rfl) (pe_callB call_abs (by rfl) B.abs (by decide +kernel) (pa_cons (pv 1) pa_nil)))
      (pss_cons (ps_for PassesOwn.never rfl (pi_range1 (by rfl) B.range (pa_cons (pe_int) pa_nil)) (pg_name (i := 2) sc_gcd.nd rfl (Or.inl rfl)) (pss_cons (ps_if (pt_cmpR op_eq (pv 1) (pe_int) (nomark _)) (pss_one (ps_ret (pe_callB (call_max2 rfl) (by rfl) B.max (by decide +kernel) (pa_cons (pe_int) (pa_cons (pv 0) pa_nil))))) pss_nil)
      (pss_one (ps_par (i := 0) (j := 1) (by rfl) sc_gcd.nd rfl rfl (by decide) rfl rfl (pa_cons (pv 1) (pa_cons (pe_op op_modN (pe_callTy call_int1 (by rfl) B.int (by decide +kernel) (pa_cons (pv 0) pa_nil)) (pv 1)) pa_nil)) (by rfl)))))
      (pss_one (ps_ret (pe_int)))))), ?_⟩
    walk_at "go"
    refine ⟨by decide, by decide, for_range (n := 600) (fun i σ H' => ∃ (n x y : Nat) (v : Option V), σ = [some (.int x), some (.int y), v] ∧ n + i = 599 ∧ Eu n x y ∧ Nat.gcd x y = Nat.gcd a.natAbs b.natAbs ∧ H' = H)
      ⟨599, a.natAbs, b.natAbs, none, ?_, rfl, eu_all hb, rfl, rfl⟩ ?_ ?_⟩
    · rw [← abs_if, ← abs_if]
      rfl
    · rintro i σ H1 hi ⟨n, x, y, v, rfl, hn, hE, hg, rfl⟩
      walk_at "go"
      walk_at "if"
      · intro hy
        have hy' : y = 0 := by omega
        subst hy'
        walk_at "go"
        rw [Nat.gcd_zero_right] at hg
        rw [← hg] at q
        have e : (if (x : Int) > 1 then (x : Int) else 1) = ((max 1 x : Nat) : Int) := by
          rw [Nat.max_def]
          split <;> split <;> omega
        rw [← e] at q
        exact ⟨_, _, rfl, q⟩
      · intro hy
        have hy' : 0 < y := by omega
        cases n with
        | zero => exact absurd (show y = 0 from hE) (by omega)
        | succ n =>
          rcases hE with h | hE
          · omega
          walk_at "go"
          refine ⟨_, _, rfl, n, y, x % y, some (V.int (0 + (i : Int))), ?_, by omega, hE, ?_, rfl⟩
          · have e : (x : Int).fmod (y : Int) = ((x % y : Nat) : Int) := by
              rw [Int.fmod_eq_emod_of_nonneg _ (by omega)]
              rfl
            rw [← e]
            rfl
          · rw [← hg, Nat.gcd_comm x y, Nat.gcd_rec y x, Nat.gcd_comm]
    · rintro σ H1 ⟨n, x, y, v, rfl, hn, _⟩
      omega

def spPool (K : PySem.W.Frag) : Sp := fun vs H Q _ => ∃ (a : Addr) (ns : List Int), vs = [.ref a] ∧ SqL K H a (ns.map V.int) ∧ ns.length ≤ 63 ∧ ∀ (p : Pla) (H' : Hp), Same H H' → H p = none → H p.q = none → Pool H' p → Q (.ref p) H'
abbrev CalPool (P : Program) (w : World) (K : PySem.W.Frag) (mg : Str → Option Value) (base : Heap) := Cal P w K mg base 1 "_law_pool" ["_law_script"] (spPool K)
theorem ok_pool (B : Blt mg) (D : Dfn K mg "_law_pool" "_law_pool" s_pool ["_law_script"]) : CalPool P w K mg base := by
  refine D.cal sc_pool (fun vs H Q E h => ?_) (fun f cdv A outer st H vs Q E hr h => ?_)
  · obtain ⟨a, ns, rfl, _⟩ := h
    rfl
  · obtain ⟨a, ns, rfl, hS, hl, k⟩ := h
    refine ⟨_, (pss_one (ps_ret (pe_lst (pa_cons (pe_lc (own := [("_law_cell", 1)]) (g := gName 1) rfl sc_pool.nd (pi_list (pv 0)) (blkOk_by (N := ["_law_script", "_law_cell"]) (sc := defScope s_pool) (by decide +kernel)) (fun _ _ _ _ _ => pg_name (i := 1) sc_pool.nd rfl (Or.inl rfl)) (fun _ _ _ _ _ => pts_nil) (fun _ _ _ _ _ => (pe_callTy call_int1 (by rfl) B.int (by decide +kernel) (pa_cons (pv 1) pa_nil)))) (pa_cons (pe_int) (pa_cons (pe_int) (pa_cons (pe_int) (pa_cons (pe_int) pa_nil)))))))), ?_⟩
    refine ⟨_, rfl, a, rfl, ⟨_, hS⟩, fun D hD => lc_list (K := K) (a := a) (xs := ns.map V.int) (fun i H' => H' = upd H D (.lst ((ns.take i).map V.int))) rfl (fun i H' _ e => by rw [e]; exact (same_upd hD).seq hS) ?_ ?_⟩
    · rintro i x H' hx rfl
      obtain ⟨z, hz, rfl⟩ := int_of_map hx
      refine ⟨rfl, ?_⟩
      refine ⟨_, rfl, .inl ⟨_, rfl, _, upd_same, ?_, ?_⟩⟩
      · rw [List.length_map, List.length_take]
        exact small1000 (by omega)
      · rw [upd_upd, List.take_add_one, hz, List.map_append]
        rfl
    · rintro H' rfl
      refine ⟨(by show 5 ≤ sizeLine; decide), fun p hp => ?_⟩
      have hne : D ≠ p := ne_of_none upd_same hp
      have hp0 : H p = none := by rw [upd_ne hne.symm] at hp; exact hp
      refine k ⟨p, D⟩ _ ((same_upd hD).trans (same_upd hp)) hp0 hD ⟨ns, 0, 0, 1, 0, upd_same, ?_, by decide, hne⟩
      show upd _ p _ D = _
      rw [upd_ne hne, upd_same, List.length_map, List.take_length]
end
end L

set_option Elab.async false
set_option linter.all false
set_option maxRecDepth 100000
set_option maxHeartbeats 4000000
set_option pp.maxSteps 160
set_option pp.deepTerms false
namespace L
open PySem PySem.Spec PyProof.Rows L2 Fl
local macro_rules | `(tactic| walk_at "side") => `(tactic| first | (exact .inl ⟨by omega, by omega⟩) | (exact .inr ⟨by omega, by omega⟩) | (exact .inr ⟨by decide, by decide⟩) | (show (_ : Int) ≠ _; omega) | (exact ⟨by omega, by decide⟩) | (exact ⟨by decide, by decide, by decide⟩))
local macro_rules | `(tactic| walk_at "go") => `(tactic| repeat (first | refine ⟨_, rfl, ?_⟩ | refine ⟨_, _, rfl, rfl, ?_⟩ | refine .inl ⟨_, rfl, ?_⟩ | refine ⟨rfl, ?_⟩ | refine ⟨(by walk_at "side"), ?_⟩))
local macro_rules | `(tactic| walk_at "see") => `(tactic| (set_option pp.maxSteps 110 in set_option pp.deepTerms false in trace_state))
local macro_rules | `(tactic| walk_at "if") => `(tactic| first | refine ifE ?_ ?_ | refine ifNE ?_ ?_ | refine ifD ?_ ?_ | refine ifN ?_ ?_ | refine ifB ?_ ?_)
section
variable {P : Program} {w : World} {K : PySem.W.Frag} {mg : Str → Option Value} {base : Heap}

def spInit (C ZU : Addr) : Sp := fun vs H Q E => ∃ (x dx : Addr) (t u : Int), vs = [.ref x, .int t, .int u] ∧ H x = some (.ins C dx []) ∧ u.natAbs < 2 ^ 8000 ∧
  (u ≠ 0 → ∀ H' : Hp, H' x = some (.ins C dx (rf (nT t u) (nU t u))) → Keeps H H' x → Q .non H') ∧ (u = 0 → E (.ref ZU) none H)
abbrev CalRatio (P : Program) (w : World) (K : PySem.W.Frag) (mg : Str → Option Value) (base : Heap) (C ZU : Addr) (dvs : List V) := CalC P w K mg base (L2.CX P w) 1 C "Ratio" ["self", "top", "under"] dvs (spInit C ZU)
theorem ok_init {C ZU f : Addr} {fd : FuncData} (B : Blt mg) (hgcd : mg "gcd" = some (.builtin "math.gcd")) (T : RatC K mg C) (TZ : ExC K mg "ZeroUnder" ZU)
    (F : FunD K "__init__" "Ratio.__init__" (defArgs s_Ratio_init) (defBody s_Ratio_init) (defScope s_Ratio_init) [.int 1] [] f fd) : FnOk P w K mg base (L2.CX P w) 1 f fd ["self", "top", "under"] (spInit C ZU) := by
  refine F.ok sc_Ratio_init (fun vs H Q E h => ?_) (fun cdv A outer st H vs Q E hr h => ?_)
  · obtain ⟨x, dx, t, u, rfl, _⟩ := h
    rfl
  · obtain ⟨x, dx, t, u, rfl, hx, hu, k, k0⟩ := h
    refine ⟨_, (pss_cons (ps_if (pt_cmpR op_eq (pv 2) (pe_int) (nomark _)) (pss_one (ps_raise rfl (takes_of rfl rfl rfl rfl) (pmk_own PySem.F.excBase_ValueError TZ.x TZ.g TZ.k (raises_own TZ.b TZ.t) rfl))) pss_nil)
      (pss_cons (ps_set (i := 3) sc_Ratio_init.nd rfl (Or.inl rfl) (pe_callBfun cr_gcd (by rfl) hgcd (pa_cons (pv 1) (pa_cons (pv 2) pa_nil))))
      (pss_cons (ps_if (pt_cmpR op_lt (pv 2) (pe_int) (nomark _)) (pss_one (ps_set (i := 3) sc_Ratio_init.nd rfl (Or.inl rfl) (pe_un un_neg (pv 3)))) pss_nil)
      (pss_cons (ps_fld (pv 0) (pe_op op_fdivA (pv 1) (pv 3)) rfl)
      (pss_one (ps_fld (pv 0) (pe_op op_fdivA (pv 2) (pv 3)) rfl)))))), ?_⟩
    walk_at "go"
    walk_at "if"
    · intro h0
      exact k0 h0
    intro h0
    refine ⟨_, rfl, _, rfl, _, _, rfl, ?_⟩
    walk_at "go"
    have hsn : sh t u ≠ 0 := sh_ne h0
    have hsb : (sh t u).natAbs < 2 ^ 8000 := by
      rw [sh_abs]
      exact Nat.lt_of_le_of_lt (Nat.le_of_dvd (by omega) (Nat.gcd_dvd_right _ _)) hu
    walk_at "if"
    · intro hn
      have es : sh t u = -((Nat.gcd t.natAbs u.natAbs : Nat) : Int) := if_pos hn
      have hd : CDivA t (-((Nat.gcd t.natAbs u.natAbs : Nat) : Int)) := es ▸ divA (b := 8000) hsn hsb (by decide) (by decide)
      walk_at "go"
      refine ⟨hd, ?_⟩
      refine ⟨_, rfl, x, C, dx, [], rfl, hx, T.cl, T.nT, (by show 0 < 1000; decide), ?_⟩
      refine ⟨_, rfl, _, rfl, _, _, rfl, rfl, hd, ?_⟩
      refine ⟨_, rfl, x, C, dx, _, rfl, upd_same, T.cl, T.nU, (by show 1 < 1000; decide), ?_⟩
      refine k h0 _ ?_ (Keeps.upd.trans Keeps.upd)
      rw [upd_same]
      unfold rf nT nU
      rw [es]
    · intro hn
      have es : sh t u = ((Nat.gcd t.natAbs u.natAbs : Nat) : Int) := if_neg hn
      have hd : CDivA t ((Nat.gcd t.natAbs u.natAbs : Nat) : Int) := es ▸ divA (b := 8000) hsn hsb (by decide) (by decide)
      walk_at "go"
      refine ⟨hd, ?_⟩
      refine ⟨_, rfl, x, C, dx, [], rfl, hx, T.cl, T.nT, (by show 0 < 1000; decide), ?_⟩
      refine ⟨_, rfl, _, rfl, _, _, rfl, rfl, hd, ?_⟩
      refine ⟨_, rfl, x, C, dx, _, rfl, upd_same, T.cl, T.nU, (by show 1 < 1000; decide), ?_⟩
      refine k h0 _ ?_ (Keeps.upd.trans Keeps.upd)
      rw [upd_same]
      unfold rf nT nU
      rw [es]
theorem mk_ratio {C ZU f : Addr} {fd : FuncData} (B : Blt mg) (hgcd : mg "gcd" = some (.builtin "math.gcd")) (T : RatC K mg C) (TZ : ExC K mg "ZeroUnder" ZU) (M : Mk K C f)
    (F : FunD K "__init__" "Ratio.__init__" (defArgs s_Ratio_init) (defBody s_Ratio_init) (defScope s_Ratio_init) [.int 1] [] f fd) : CalRatio P w K mg base C ZU [] ∧ CalRatio P w K mg base C ZU [.int 1] := by
  obtain ⟨d2, r2, b2⟩ := F.binds1 (ps := ["self", "top", "under"]) 3 1 (by intro e; cases e) rfl (fun T kV doc pm an cdv ct us its h1 h2 => match us, its, h1, h2 with | [_, _, _], [_], _, _ => ⟨_, rfl, rfl⟩)
  obtain ⟨d1, r1, b1⟩ := F.binds1 (ps := ["self", "top", "under"]) 2 0 (by intro e; cases e) rfl (fun T kV doc pm an cdv ct us its h1 h2 => match us, its, h1, h2 with | [_, _], [_], _, _ => ⟨_, rfl, rfl⟩)
  exact ⟨⟨f, fd, d2, M, ok_init B hgcd T TZ F, T.g, b2, r2⟩, ⟨f, fd, d1, M, ok_init B hgcd T TZ F, T.g, b1, r1⟩⟩

def spAsRatio (C : Addr) : Sp := fun vs H Q _ => (∃ (x : Addr) (t u : Int), vs = [.ref x] ∧ RatAt C H x t u ∧ Q (.ref x) H) ∨ (∃ i : Int, vs = [.int i] ∧ ∀ (x : Addr) (H' : Hp), H x = none → Same H H' → RatAt C H' x i 1 → Q (.ref x) H')
abbrev CalAsRatio (P : Program) (w : World) (K : PySem.W.Frag) (mg : Str → Option Value) (base : Heap) (C : Addr) := Cal P w K mg base 3 "as_ratio" ["number"] (spAsRatio C)
theorem made {C x dx : Addr} {fs : List (Str × V)} {H H' : Hp} (nx : H x = none) (ndx : H dx = none) (hk : Keeps (upd (upd H dx (.own x)) x (.ins C dx fs)) H' x) : Same H H' := fun b o e =>
  hk b o (by rw [upd_ne (ne_of_none e nx), upd_ne (ne_of_none e ndx)]; exact e) (ne_of_none e nx)
theorem ok_as_ratio {C ZU : Addr} (B : Blt mg) (T : RatC K mg C) (D : Dfn K mg "as_ratio" "as_ratio" s_as_ratio ["number"]) (M1 : CalRatio P w K mg base C ZU [.int 1]) : CalAsRatio P w K mg base C := by
  refine D.cal sc_as_ratio (fun vs H Q E h => ?_) (fun f cdv A outer st H vs Q E hr h => ?_)
  · rcases h with ⟨x, t, u, rfl, _⟩ | ⟨i, rfl, _⟩ <;> rfl
  · have hr0 : Room 2 _ := hr
    refine ⟨_, (pss_cons (ps_if (pt_val (pe_callB call_isi (by rfl) B.isinstance (by decide +kernel) (pa_cons (pv 0) (pa_cons (pe_glob (v := .ref _) (by rfl) T.g rfl) pa_nil)))) (pss_one (ps_ret (pv 0))) pss_nil)
      (pss_one (ps_ret (pe_mk M1 (hr0.mono (by decide)) (pa_cons (pv 0) pa_nil))))), ?_⟩
    rcases h with ⟨x, t, u, rfl, ⟨dx, hx⟩, q⟩ | ⟨i, rfl, k⟩
    · refine ⟨_, rfl, _, _, _, _, true, rfl, .own _, T.tyX hx, kit_self _, _, rfl, iteT ?_⟩
      exact ⟨_, rfl, q⟩
    · refine ⟨_, rfl, _, _, _, _, false, rfl, .own _, .base (.int _), T.ki, _, rfl, iteF ?_⟩
      refine ⟨_, rfl, fun x dx nx ndx ne => ?_⟩
      refine ⟨x, dx, i, 1, rfl, upd_same, by decide, fun _ H' hx hk => ⟨rfl, ?_⟩, fun h => absurd h (by decide)⟩
      refine k x H' nx (made nx ndx hk) ⟨dx, ?_⟩
      rw [(n_one i).1, (n_one i).2] at hx
      exact hx

theorem kit_own {K : PySem.W.Frag} {t : Value} {C : Addr} {b : Bool} (hd : PySem.W.hasDictIn K C = true) (ht : PySem.W.typeIn K (.ref C) = some (.type "type")) (hs : PySem.W.subIn K t (.ref C) = some b) (hself : PySem.W.subIn K t t = some true) : PySem.W.kitOne K t (.ref C) = some b := by
  unfold PySem.W.kitOne
  by_cases h : (t == Value.ref C) = true
  · rw [if_pos h]
    have e := beq_iff_eq.mp h
    subst e
    rw [hs] at hself
    exact hself.symm
  · rw [if_neg h]
    obtain ⟨cd, hc, _⟩ := PySem.W.any_some hd
    have e2 : ((PySem.W.clsIn K C).isSome && PySem.W.typeIn K (.ref C) == some (.type "type")) = true := by rw [hc, ht] <;> rfl
    show (if ((PySem.W.clsIn K C).isSome && PySem.W.typeIn K (.ref C) == some (.type "type")) = true then PySem.W.subIn K t (.ref C) else none) = some b
    rw [if_pos e2]
    exact hs
theorem kit_int {K : PySem.W.Frag} {C : Addr} {b : Bool} (hd : PySem.W.hasDictIn K C = true) (ht : PySem.W.typeIn K (.ref C) = some (.type "type")) (hs : PySem.W.subIn K (.type "int") (.ref C) = some b) : PySem.W.kitOne K (.type "int") (.ref C) = some b := by
  unfold PySem.W.kitOne
  rw [if_neg (by intro h; cases beq_iff_eq.mp h)]
  obtain ⟨cd, hc, _⟩ := PySem.W.any_some hd
  have e2 : ((PySem.W.clsIn K C).isSome && PySem.W.typeIn K (.ref C) == some (.type "type")) = true := by rw [hc, ht] <;> rfl
  show (if ((PySem.W.clsIn K C).isSome && PySem.W.typeIn K (.ref C) == some (.type "type")) = true then PySem.W.subIn K (.type "int") (.ref C) else none) = some b
  rw [if_pos e2]
  exact hs
def spWhole : Sp := fun vs H Q _ => ∃ (i : Int), vs = [.int i] ∧ Q (.bl true) H
abbrev CalWhole (P : Program) (w : World) (K : PySem.W.Frag) (mg : Str → Option Value) (base : Heap) := Cal P w K mg base 1 "_law_whole" ["_law_actual"] spWhole
theorem ok_whole (B : Blt mg) (D : Dfn K mg "_law_whole" "_law_whole" s_whole ["_law_actual"]) : CalWhole P w K mg base := by
  refine D.cal sc_whole (fun vs H Q E h => ?_) (fun f cdv A outer st H vs Q E hr h => ?_)
  · obtain ⟨i, rfl, _⟩ := h
    rfl
  · obtain ⟨i, rfl, q⟩ := h
    refine ⟨_, (pss_one (ps_ret ((pe_and (pe_callB call_isi (by rfl) B.isinstance (by decide +kernel) (pa_cons (pv 0) (pa_cons (pe_bltn (v := .ty "int") (by rfl) B.int (by decide +kernel) rfl) pa_nil))) (pe_one (pe_not (pe_callB call_isi (by rfl) B.isinstance (by decide +kernel) (pa_cons (pv 0) (pa_cons (pe_bltn (v := .ty "bool") (by rfl) B.bool (by decide +kernel) rfl) pa_nil))))))))), ?_⟩
    refine ⟨_, rfl, _, _, _, _, true, rfl, .ty _, .base (.int _), kit_ty (by decide +kernel), _, rfl, iteT ?_⟩
    refine ⟨_, rfl, _, _, _, _, false, rfl, .ty _, .base (.int _), kit_ty (by decide +kernel), _, rfl, ?_⟩
    exact q
def spRatio (C : Addr) : Sp := fun vs H Q _ => ∃ (x : Addr) (t u : Int), vs = [.ref x] ∧ RatAt C H x t u ∧ Q (.bl (decide (u > 0))) H
abbrev CalRatioQ (P : Program) (w : World) (K : PySem.W.Frag) (mg : Str → Option Value) (base : Heap) (C : Addr) := Cal P w K mg base 2 "_law_ratio" ["_law_actual"] (spRatio C)
theorem ok_ratio {C : Addr} (B : Blt mg) (T : RatC K mg C) (D : Dfn K mg "_law_ratio" "_law_ratio" s_ratio ["_law_actual"]) (C_whole : CalWhole P w K mg base) : CalRatioQ P w K mg base C := by
  refine D.cal sc_ratio (fun vs H Q E h => ?_) (fun f cdv A outer st H vs Q E hr h => ?_)
  · obtain ⟨x, t, u, rfl, _⟩ := h
    rfl
  · obtain ⟨x, t, u, rfl, ⟨dx, hx⟩, q⟩ := h
    refine ⟨_, (pss_cons (ps_if (pt_not (pt_val (pe_callB call_isi (by rfl) B.isinstance (by decide +kernel) (pa_cons (pv 0) (pa_cons (pe_glob (v := .ref _) (by rfl) T.g rfl) pa_nil))))) (pss_one (ps_ret (pe_bl))) pss_nil)
      (pss_one (ps_ret ((pe_and (pe_cal C_whole (hr.mono (by decide)) (pa_cons (pe_fld (pv 0) rfl) pa_nil)) (pe_and (pe_cal C_whole (hr.mono (by decide)) (pa_cons (pe_fld (pv 0) rfl) pa_nil)) (pe_one (pe_cmpR op_gt (pe_fld (pv 0) rfl) (pe_int) (nomark _))))))))), ?_⟩
    refine ⟨_, rfl, _, _, _, _, true, rfl, .own _, T.tyX hx, kit_self _, _, rfl, iteF ?_⟩
    refine ⟨_, rfl, x, C, dx, _, _, rfl, hx, T.cl, T.nT, rf_top _ _, t, rfl, _, rfl, iteT ?_⟩
    refine ⟨_, rfl, x, C, dx, _, _, rfl, hx, T.cl, T.nU, rf_under _ _, u, rfl, _, rfl, iteT ?_⟩
    refine ⟨_, rfl, x, C, dx, _, _, rfl, hx, T.cl, T.nU, rf_under _ _, _, _, rfl, rfl, ?_⟩
    exact q
end
theorem wide4 {n : Int} {m : Nat} (h : n.natAbs < 2 ^ m) (hm : m ≤ 4000) : n.natAbs < 2 ^ 4000 := Nat.lt_of_lt_of_le h (Nat.pow_le_pow_right (by decide) hm)
theorem wide8 {n : Int} {m : Nat} (h : n.natAbs < 2 ^ m) (hm : m ≤ 8000) : n.natAbs < 2 ^ 8000 := Nat.lt_of_lt_of_le h (Nat.pow_le_pow_right (by decide) hm)
open Bx
section
variable {P : Program} {w : World} {K : PySem.W.Frag} {mg : Str → Option Value} {base : Heap}

def Num (C : Addr) (H : Hp) (v : V) (t u : Int) : Prop := (v = .int t ∧ u = 1) ∨ ∃ x, v = .ref x ∧ RatAt C H x t u
theorem Num.same {C : Addr} {H H' : Hp} {v : V} {t u : Int} (h : Num C H v t u) (k : Same H H') : Num C H' v t u := by
  rcases h with h | ⟨x, e, h⟩
  · exact .inl h
  · exact .inr ⟨x, e, h.same k⟩
def spIsNum (C : Addr) : Sp := fun vs H Q _ => ∃ (v : V) (t u : Int), vs = [v] ∧ Num C H v t u ∧ Q (.bl true) H
abbrev CalIsNum (P : Program) (w : World) (K : PySem.W.Frag) (mg : Str → Option Value) (base : Heap) (C : Addr) := Cal P w K mg base 1 "is_number" ["value"] (spIsNum C)
theorem ok_is_number {C : Addr} (B : Blt mg) (T : RatC K mg C) (kci : PySem.W.kitOne K (.ref C) (.type "int") = some false) (D : Dfn K mg "is_number" "is_number" s_is_number ["value"]) : CalIsNum P w K mg base C := by
  refine D.cal sc_is_number (fun vs H Q E h => ?_) (fun fA cdv A outer st H vs Q E hr h => ?_)
  · obtain ⟨v, t, u, rfl, _⟩ := h
    rfl
  · obtain ⟨v, t, u, rfl, hv, q⟩ := h
    refine ⟨_, (pss_one (ps_ret ((pe_or (pe_callB call_isi (by rfl) B.isinstance (by decide +kernel) (pa_cons (pv 0) (pa_cons (pe_bltn (v := .ty "int") (by rfl) B.int (by decide +kernel) rfl) pa_nil))) (pe_one (pe_callB call_isi (by rfl) B.isinstance (by decide +kernel) (pa_cons (pv 0) (pa_cons (pe_glob (v := .ref _) (by rfl) T.g rfl) pa_nil)))))))), ?_⟩
    rcases hv with ⟨rfl, _⟩ | ⟨x, rfl, dx, hx⟩
    · refine ⟨_, rfl, _, _, _, _, true, rfl, .ty _, .base (.int _), kit_ty (by decide +kernel), _, rfl, iteT q⟩
    · refine ⟨_, rfl, _, _, _, _, false, rfl, .ty _, T.tyX hx, kci, _, rfl, iteF ?_⟩
      exact ⟨_, rfl, _, _, _, _, true, rfl, .own _, T.tyX hx, kit_self _, q⟩

def spTopOf (C : Addr) : Sp := fun vs H Q _ => ∃ (v : V) (t u : Int), vs = [v] ∧ Num C H v t u ∧ Q (.int t) H
abbrev CalTopOf (P : Program) (w : World) (K : PySem.W.Frag) (mg : Str → Option Value) (base : Heap) (C : Addr) := Cal P w K mg base 1 "_top_of" ["number"] (spTopOf C)
theorem ok_top_of {C : Addr} (B : Blt mg) (T : RatC K mg C) (D : Dfn K mg "_top_of" "_top_of" s_top_of ["number"]) : CalTopOf P w K mg base C := by
  refine D.cal sc_top_of (fun vs H Q E h => ?_) (fun fA cdv A outer st H vs Q E hr h => ?_)
  · obtain ⟨v, t, u, rfl, _⟩ := h
    rfl
  · obtain ⟨v, t, u, rfl, hv, q⟩ := h
    refine ⟨_, (pss_one (ps_ret (pe_ifExp (pt_val (pe_callB call_isi (by rfl) B.isinstance (by decide +kernel) (pa_cons (pv 0) (pa_cons (pe_glob (v := .ref _) (by rfl) T.g rfl) pa_nil)))) (pe_fld (pv 0) rfl) (pv 0)))), ?_⟩
    rcases hv with ⟨rfl, rfl⟩ | ⟨x, rfl, dx, hx⟩
    · refine ⟨_, rfl, _, _, _, _, false, rfl, .own _, .base (.int _), T.ki, _, rfl, iteF ?_⟩
      exact ⟨_, rfl, q⟩
    · refine ⟨_, rfl, _, _, _, _, true, rfl, .own _, T.tyX hx, kit_self _, _, rfl, iteT ?_⟩
      exact ⟨_, rfl, x, C, dx, _, _, rfl, hx, T.cl, T.nT, rf_top _ _, q⟩

def spUnderOf (C : Addr) : Sp := fun vs H Q _ => ∃ (v : V) (t u : Int), vs = [v] ∧ Num C H v t u ∧ Q (.int u) H
abbrev CalUnderOf (P : Program) (w : World) (K : PySem.W.Frag) (mg : Str → Option Value) (base : Heap) (C : Addr) := Cal P w K mg base 1 "_under_of" ["number"] (spUnderOf C)
theorem ok_under_of {C : Addr} (B : Blt mg) (T : RatC K mg C) (D : Dfn K mg "_under_of" "_under_of" s_under_of ["number"]) : CalUnderOf P w K mg base C := by
  refine D.cal sc_under_of (fun vs H Q E h => ?_) (fun fA cdv A outer st H vs Q E hr h => ?_)
  · obtain ⟨v, t, u, rfl, _⟩ := h
    rfl
  · obtain ⟨v, t, u, rfl, hv, q⟩ := h
    refine ⟨_, (pss_one (ps_ret (pe_ifExp (pt_val (pe_callB call_isi (by rfl) B.isinstance (by decide +kernel) (pa_cons (pv 0) (pa_cons (pe_glob (v := .ref _) (by rfl) T.g rfl) pa_nil)))) (pe_fld (pv 0) rfl) (pe_int)))), ?_⟩
    rcases hv with ⟨rfl, rfl⟩ | ⟨x, rfl, dx, hx⟩
    · refine ⟨_, rfl, _, _, _, _, false, rfl, .own _, .base (.int _), T.ki, _, rfl, iteF ?_⟩
      exact q
    · refine ⟨_, rfl, _, _, _, _, true, rfl, .own _, T.tyX hx, kit_self _, _, rfl, iteT ?_⟩
      exact ⟨_, rfl, x, C, dx, _, _, rfl, hx, T.cl, T.nU, rf_under _ _, q⟩

theorem wm {i j : Int} (h1 : i.natAbs < 2 ^ 3000) (h2 : j.natAbs < 2 ^ 3000) : CMulW i j := wide_mul h1 h2 (by decide) (by decide) (by decide)
theorem wu {i j : Int} (h1 : i.natAbs < 2 ^ 3000) (h2 : j.natAbs < 2 ^ 3000) : (i * j).natAbs < 2 ^ 8000 := Nat.lt_of_lt_of_le (wide_lt h1 h2) (Nat.pow_le_pow_right (by decide) (by decide))
structure Sm (a b t u : Int) : Prop where
  sa : a.natAbs < 2 ^ 3000
  sb : b.natAbs < 2 ^ 3000
  st : t.natAbs < 2 ^ 3000
  su : u.natAbs < 2 ^ 3000
  bp : 0 < b
  up : 0 < u
def spAr (C : Addr) (f g : Int → Int → Int → Int → Int) : Sp := fun vs H Q _ => ∃ (x : Addr) (v : V) (a b t u : Int), vs = [.ref x, v] ∧ RatAt C H x a b ∧ Num C H v t u ∧ Sm a b t u ∧ ∀ (z : Addr) (H' : Hp), Same H H' → RatAt C H' z (nT (f a b t u) (g a b t u)) (nU (f a b t u) (g a b t u)) → Q (.ref z) H'
def spArR (C : Addr) (f g : Int → Int → Int → Int) : Sp := fun vs H Q _ => ∃ (x : Addr) (n a b : Int), vs = [.ref x, .int n] ∧ RatAt C H x a b ∧ Sm a b n 1 ∧ ∀ (z : Addr) (H' : Hp), Same H H' → RatAt C H' z (nT (f a b n) (g a b n)) (nU (f a b n) (g a b n)) → Q (.ref z) H'

theorem ok_add {C ZU fA : Addr} {fd : FuncData} (T : RatC K mg C) (C_is_number : CalIsNum P w K mg base C) (C_top_of : CalTopOf P w K mg base C) (C_under_of : CalUnderOf P w K mg base C) (M2 : CalRatio P w K mg base C ZU []) (F : Fun K "__add__" "Ratio.__add__" s_Ratio_add fA fd) : FnOk P w K mg base CX0 3 fA fd ["self", "other"] (spAr C (fun a b t u => a * u + t * b) (fun a b t u => b * u)) := by
  refine F.ok sc_Ratio_add (fun vs H Q E h => ?_) (fun cdv A outer st H vs Q E hr h => ?_)
  · obtain ⟨x, v, a, b, t, u, rfl, _⟩ := h
    rfl
  · obtain ⟨x, v, a, b, t, u, rfl, ⟨dx, hx⟩, hv, sm, k⟩ := h
    have bu : b * u ≠ 0 := Int.ne_of_gt (Int.mul_pos sm.bp sm.up)
    refine ⟨_, (pss_cons (ps_if (pt_not (pt_val (pe_cal C_is_number (hr.mono (by decide)) (pa_cons (pv 1) pa_nil)))) (pss_one (ps_never)) pss_nil)
      (pss_cons (ps_set (i := 2) sc_Ratio_add.nd rfl (Or.inl rfl) (pe_op op_add (pe_op op_mulW (pe_fld (pv 0) rfl) (pe_cal C_under_of (hr.mono (by decide)) (pa_cons (pv 1) pa_nil))) (pe_op op_mulW (pe_cal C_top_of (hr.mono (by decide)) (pa_cons (pv 1) pa_nil)) (pe_fld (pv 0) rfl))))
      (pss_one (ps_ret (pe_mk M2 (hr.mono (by decide)) (pa_cons (pv 2) (pa_cons (pe_op op_mulW (pe_fld (pv 0) rfl) (pe_cal C_under_of (hr.mono (by decide)) (pa_cons (pv 1) pa_nil))) pa_nil))))))), ?_⟩
    refine ⟨_, rfl, v, t, u, rfl, hv, _, rfl, iteF ?_⟩
    refine ⟨_, rfl, x, C, dx, _, _, rfl, hx, T.cl, T.nT, rf_top _ _, ?_⟩
    refine ⟨_, rfl, v, t, u, rfl, hv, _, _, rfl, rfl, wm sm.sa sm.su, ?_⟩
    refine ⟨_, rfl, v, t, u, rfl, hv, ?_⟩
    refine ⟨_, rfl, x, C, dx, _, _, rfl, hx, T.cl, T.nU, rf_under _ _, _, _, rfl, rfl, wm sm.st sm.sb, _, _, rfl, rfl, ?_⟩
    refine ⟨_, rfl, _, rfl, x, C, dx, _, _, rfl, hx, T.cl, T.nU, rf_under _ _, ?_⟩
    refine ⟨_, rfl, v, t, u, rfl, hv, _, _, rfl, rfl, wm sm.sb sm.su, ?_⟩
    refine fun z dz nz ndz ne => ?_
    exact ⟨z, dz, _, b * u, rfl, upd_same, wu sm.sb sm.su, fun _ H' hz hk => ⟨rfl, k z H' (made nz ndz hk) ⟨dz, hz⟩⟩, fun h => absurd h bu⟩

theorem ok_sub {C ZU fA : Addr} {fd : FuncData} (T : RatC K mg C) (C_is_number : CalIsNum P w K mg base C) (C_top_of : CalTopOf P w K mg base C) (C_under_of : CalUnderOf P w K mg base C) (M2 : CalRatio P w K mg base C ZU []) (F : Fun K "__sub__" "Ratio.__sub__" s_Ratio_sub fA fd) : FnOk P w K mg base CX0 3 fA fd ["self", "other"] (spAr C (fun a b t u => a * u - t * b) (fun a b t u => b * u)) := by
  refine F.ok sc_Ratio_sub (fun vs H Q E h => ?_) (fun cdv A outer st H vs Q E hr h => ?_)
  · obtain ⟨x, v, a, b, t, u, rfl, _⟩ := h
    rfl
  · obtain ⟨x, v, a, b, t, u, rfl, ⟨dx, hx⟩, hv, sm, k⟩ := h
    have bu : b * u ≠ 0 := Int.ne_of_gt (Int.mul_pos sm.bp sm.up)
    refine ⟨_, (pss_cons (ps_if (pt_not (pt_val (pe_cal C_is_number (hr.mono (by decide)) (pa_cons (pv 1) pa_nil)))) (pss_one (ps_never)) pss_nil)
      (pss_cons (ps_set (i := 2) sc_Ratio_sub.nd rfl (Or.inl rfl) (pe_op op_sub (pe_op op_mulW (pe_fld (pv 0) rfl) (pe_cal C_under_of (hr.mono (by decide)) (pa_cons (pv 1) pa_nil))) (pe_op op_mulW (pe_cal C_top_of (hr.mono (by decide)) (pa_cons (pv 1) pa_nil)) (pe_fld (pv 0) rfl))))
      (pss_one (ps_ret (pe_mk M2 (hr.mono (by decide)) (pa_cons (pv 2) (pa_cons (pe_op op_mulW (pe_fld (pv 0) rfl) (pe_cal C_under_of (hr.mono (by decide)) (pa_cons (pv 1) pa_nil))) pa_nil))))))), ?_⟩
    refine ⟨_, rfl, v, t, u, rfl, hv, _, rfl, iteF ?_⟩
    refine ⟨_, rfl, x, C, dx, _, _, rfl, hx, T.cl, T.nT, rf_top _ _, ?_⟩
    refine ⟨_, rfl, v, t, u, rfl, hv, _, _, rfl, rfl, wm sm.sa sm.su, ?_⟩
    refine ⟨_, rfl, v, t, u, rfl, hv, ?_⟩
    refine ⟨_, rfl, x, C, dx, _, _, rfl, hx, T.cl, T.nU, rf_under _ _, _, _, rfl, rfl, wm sm.st sm.sb, _, _, rfl, rfl, ?_⟩
    refine ⟨_, rfl, _, rfl, x, C, dx, _, _, rfl, hx, T.cl, T.nU, rf_under _ _, ?_⟩
    refine ⟨_, rfl, v, t, u, rfl, hv, _, _, rfl, rfl, wm sm.sb sm.su, ?_⟩
    refine fun z dz nz ndz ne => ?_
    exact ⟨z, dz, _, b * u, rfl, upd_same, wu sm.sb sm.su, fun _ H' hz hk => ⟨rfl, k z H' (made nz ndz hk) ⟨dz, hz⟩⟩, fun h => absurd h bu⟩

theorem ok_mul {C ZU fA : Addr} {fd : FuncData} (T : RatC K mg C) (C_is_number : CalIsNum P w K mg base C) (C_top_of : CalTopOf P w K mg base C) (C_under_of : CalUnderOf P w K mg base C) (M2 : CalRatio P w K mg base C ZU []) (F : Fun K "__mul__" "Ratio.__mul__" s_Ratio_mul fA fd) : FnOk P w K mg base CX0 3 fA fd ["self", "other"] (spAr C (fun a b t u => a * t) (fun a b t u => b * u)) := by
  refine F.ok sc_Ratio_mul (fun vs H Q E h => ?_) (fun cdv A outer st H vs Q E hr h => ?_)
  · obtain ⟨x, v, a, b, t, u, rfl, _⟩ := h
    rfl
  · obtain ⟨x, v, a, b, t, u, rfl, ⟨dx, hx⟩, hv, sm, k⟩ := h
    have bu : b * u ≠ 0 := Int.ne_of_gt (Int.mul_pos sm.bp sm.up)
    refine ⟨_, (pss_cons (ps_if (pt_not (pt_val (pe_cal C_is_number (hr.mono (by decide)) (pa_cons (pv 1) pa_nil)))) (pss_one (ps_never)) pss_nil)
      (pss_one (ps_ret (pe_mk M2 (hr.mono (by decide)) (pa_cons (pe_op op_mulW (pe_fld (pv 0) rfl) (pe_cal C_top_of (hr.mono (by decide)) (pa_cons (pv 1) pa_nil))) (pa_cons (pe_op op_mulW (pe_fld (pv 0) rfl) (pe_cal C_under_of (hr.mono (by decide)) (pa_cons (pv 1) pa_nil))) pa_nil)))))), ?_⟩
    refine ⟨_, rfl, v, t, u, rfl, hv, _, rfl, iteF ?_⟩
    refine ⟨_, rfl, x, C, dx, _, _, rfl, hx, T.cl, T.nT, rf_top _ _, ?_⟩
    refine ⟨_, rfl, v, t, u, rfl, hv, _, _, rfl, rfl, wm sm.sa sm.st, ?_⟩
    refine ⟨_, rfl, x, C, dx, _, _, rfl, hx, T.cl, T.nU, rf_under _ _, ?_⟩
    refine ⟨_, rfl, v, t, u, rfl, hv, _, _, rfl, rfl, wm sm.sb sm.su, ?_⟩
    refine fun z dz nz ndz ne => ?_
    exact ⟨z, dz, _, b * u, rfl, upd_same, wu sm.sb sm.su, fun _ H' hz hk => ⟨rfl, k z H' (made nz ndz hk) ⟨dz, hz⟩⟩, fun h => absurd h bu⟩

theorem ok_radd {C fA : Addr} {fd : FuncData} (T : RatC K mg C) (hSF : PySem.W.selfFirst K C = true) (C_is_number : CalIsNum P w K mg base C) (C_as_ratio : CalAsRatio P w K mg base C) (OP : OpOwn P w K mg base 3 C (PySem.dunder (Operator.info .Add).2) ["self", "other"] (spAr C (fun a b t u => a * u + t * b) (fun a b t u => b * u))) (F : Fun K "__radd__" "Ratio.__radd__" s_Ratio_radd fA fd) : FnOk P w K mg base CX0 4 fA fd ["self", "other"] (spArR C (fun a b n => n * b + a * 1) (fun a b n => 1 * b)) := by
  refine F.ok sc_Ratio_radd (fun vs H Q E h => ?_) (fun cdv A outer st H vs Q E hr h => ?_)
  · obtain ⟨x, n, a, b, rfl, _⟩ := h
    rfl
  · obtain ⟨x, n, a, b, rfl, ⟨dx, hx⟩, sm, k⟩ := h
    refine ⟨_, (pss_cons (ps_if (pt_not (pt_val (pe_cal C_is_number (hr.mono (by decide)) (pa_cons (pv 1) pa_nil)))) (pss_one (ps_never)) pss_nil)
      (pss_one (ps_ret (pe_op (op_oo (op := .Add) OP hSF (hr.mono (by decide))) (pe_cal C_as_ratio (hr.mono (by decide)) (pa_cons (pv 1) pa_nil)) (pv 0))))), ?_⟩
    refine ⟨_, rfl, .int n, n, 1, rfl, .inl ⟨rfl, rfl⟩, _, rfl, iteF ?_⟩
    refine ⟨_, rfl, .inr ⟨n, rfl, fun y H1 ny s1 hy => ?_⟩⟩
    obtain ⟨dy, hy⟩ := hy
    refine ⟨_, rfl, y, dy, _, x, dx, _, rfl, hy, rfl, s1 _ _ hx, ?_⟩
    exact ⟨y, .ref x, n, 1, a, b, rfl, ⟨dy, hy⟩, .inr ⟨x, rfl, dx, s1 _ _ hx⟩, ⟨sm.st, by decide, sm.sa, sm.sb, by decide, sm.bp⟩, fun z H2 s2 hz => ⟨z, rfl, k z H2 (s1.trans s2) hz⟩⟩

theorem ok_rsub {C fA : Addr} {fd : FuncData} (T : RatC K mg C) (hSF : PySem.W.selfFirst K C = true) (C_is_number : CalIsNum P w K mg base C) (C_as_ratio : CalAsRatio P w K mg base C) (OP : OpOwn P w K mg base 3 C (PySem.dunder (Operator.info .Sub).2) ["self", "other"] (spAr C (fun a b t u => a * u - t * b) (fun a b t u => b * u))) (F : Fun K "__rsub__" "Ratio.__rsub__" s_Ratio_rsub fA fd) : FnOk P w K mg base CX0 4 fA fd ["self", "other"] (spArR C (fun a b n => n * b - a * 1) (fun a b n => 1 * b)) := by
  refine F.ok sc_Ratio_rsub (fun vs H Q E h => ?_) (fun cdv A outer st H vs Q E hr h => ?_)
  · obtain ⟨x, n, a, b, rfl, _⟩ := h
    rfl
  · obtain ⟨x, n, a, b, rfl, ⟨dx, hx⟩, sm, k⟩ := h
    refine ⟨_, (pss_cons (ps_if (pt_not (pt_val (pe_cal C_is_number (hr.mono (by decide)) (pa_cons (pv 1) pa_nil)))) (pss_one (ps_never)) pss_nil)
      (pss_one (ps_ret (pe_op (op_oo (op := .Sub) OP hSF (hr.mono (by decide))) (pe_cal C_as_ratio (hr.mono (by decide)) (pa_cons (pv 1) pa_nil)) (pv 0))))), ?_⟩
    refine ⟨_, rfl, .int n, n, 1, rfl, .inl ⟨rfl, rfl⟩, _, rfl, iteF ?_⟩
    refine ⟨_, rfl, .inr ⟨n, rfl, fun y H1 ny s1 hy => ?_⟩⟩
    obtain ⟨dy, hy⟩ := hy
    refine ⟨_, rfl, y, dy, _, x, dx, _, rfl, hy, rfl, s1 _ _ hx, ?_⟩
    exact ⟨y, .ref x, n, 1, a, b, rfl, ⟨dy, hy⟩, .inr ⟨x, rfl, dx, s1 _ _ hx⟩, ⟨sm.st, by decide, sm.sa, sm.sb, by decide, sm.bp⟩, fun z H2 s2 hz => ⟨z, rfl, k z H2 (s1.trans s2) hz⟩⟩

theorem ok_rmul {C fA : Addr} {fd : FuncData} (T : RatC K mg C) (hSF : PySem.W.selfFirst K C = true) (C_is_number : CalIsNum P w K mg base C) (C_as_ratio : CalAsRatio P w K mg base C) (OP : OpOwn P w K mg base 3 C (PySem.dunder (Operator.info .Mult).2) ["self", "other"] (spAr C (fun a b t u => a * t) (fun a b t u => b * u))) (F : Fun K "__rmul__" "Ratio.__rmul__" s_Ratio_rmul fA fd) : FnOk P w K mg base CX0 4 fA fd ["self", "other"] (spArR C (fun a b n => n * a) (fun a b n => 1 * b)) := by
  refine F.ok sc_Ratio_rmul (fun vs H Q E h => ?_) (fun cdv A outer st H vs Q E hr h => ?_)
  · obtain ⟨x, n, a, b, rfl, _⟩ := h
    rfl
  · obtain ⟨x, n, a, b, rfl, ⟨dx, hx⟩, sm, k⟩ := h
    refine ⟨_, (pss_cons (ps_if (pt_not (pt_val (pe_cal C_is_number (hr.mono (by decide)) (pa_cons (pv 1) pa_nil)))) (pss_one (ps_never)) pss_nil)
      (pss_one (ps_ret (pe_op (op_oo (op := .Mult) OP hSF (hr.mono (by decide))) (pe_cal C_as_ratio (hr.mono (by decide)) (pa_cons (pv 1) pa_nil)) (pv 0))))), ?_⟩
    refine ⟨_, rfl, .int n, n, 1, rfl, .inl ⟨rfl, rfl⟩, _, rfl, iteF ?_⟩
    refine ⟨_, rfl, .inr ⟨n, rfl, fun y H1 ny s1 hy => ?_⟩⟩
    obtain ⟨dy, hy⟩ := hy
    refine ⟨_, rfl, y, dy, _, x, dx, _, rfl, hy, rfl, s1 _ _ hx, ?_⟩
    exact ⟨y, .ref x, n, 1, a, b, rfl, ⟨dy, hy⟩, .inr ⟨x, rfl, dx, s1 _ _ hx⟩, ⟨sm.st, by decide, sm.sa, sm.sb, by decide, sm.bp⟩, fun z H2 s2 hz => ⟨z, rfl, k z H2 (s1.trans s2) hz⟩⟩

def spNeg (C : Addr) : Sp := fun vs H Q _ => ∃ (x : Addr) (a b : Int), vs = [.ref x] ∧ RatAt C H x a b ∧ 0 < b ∧ b.natAbs < 2 ^ 3000 ∧ ∀ (z : Addr) (H' : Hp), Same H H' → RatAt C H' z (nT (-a) b) (nU (-a) b) → Q (.ref z) H'
theorem ok_neg {C ZU fA : Addr} {fd : FuncData} (B : Blt mg) (T : RatC K mg C) (M2 : CalRatio P w K mg base C ZU []) (F : Fun K "__neg__" "Ratio.__neg__" s_Ratio_neg fA fd) : FnOk P w K mg base CX0 3 fA fd ["self"] (spNeg C) := by
  refine F.ok sc_Ratio_neg (fun vs H Q E h => ?_) (fun cdv A outer st H vs Q E hr h => ?_)
  · obtain ⟨x, a, b, rfl, _⟩ := h
    rfl
  · obtain ⟨x, a, b, rfl, ⟨dx, hx⟩, bp, hb, k⟩ := h
    refine ⟨_, (pss_one (ps_ret (pe_mk M2 (hr.mono (by decide)) (pa_cons (pe_un un_neg (pe_fld (pv 0) rfl)) (pa_cons (pe_fld (pv 0) rfl) pa_nil))))), ?_⟩
    refine ⟨_, rfl, x, C, dx, _, _, rfl, hx, T.cl, T.nT, rf_top _ _, _, rfl, ?_⟩
    refine ⟨_, rfl, x, C, dx, _, _, rfl, hx, T.cl, T.nU, rf_under _ _, ?_⟩
    refine fun z dz nz ndz ne => ?_
    exact ⟨z, dz, _, b, rfl, upd_same, wide8 hb (by decide), fun _ H' hz hk => ⟨rfl, k z H' (made nz ndz hk) ⟨dz, hz⟩⟩, fun h => absurd h (by omega)⟩

def spAbs (C : Addr) : Sp := fun vs H Q _ => ∃ (x : Addr) (a b : Int), vs = [.ref x] ∧ RatAt C H x a b ∧ 0 < b ∧ b.natAbs < 2 ^ 3000 ∧ ∀ (z : Addr) (H' : Hp), Same H H' → RatAt C H' z (nT (if a < 0 then -a else a) b) (nU (if a < 0 then -a else a) b) → Q (.ref z) H'
theorem ok_abs {C ZU fA : Addr} {fd : FuncData} (B : Blt mg) (T : RatC K mg C) (M2 : CalRatio P w K mg base C ZU []) (F : Fun K "__abs__" "Ratio.__abs__" s_Ratio_abs fA fd) : FnOk P w K mg base CX0 3 fA fd ["self"] (spAbs C) := by
  refine F.ok sc_Ratio_abs (fun vs H Q E h => ?_) (fun cdv A outer st H vs Q E hr h => ?_)
  · obtain ⟨x, a, b, rfl, _⟩ := h
    rfl
  · obtain ⟨x, a, b, rfl, ⟨dx, hx⟩, bp, hb, k⟩ := h
    refine ⟨_, (pss_one (ps_ret (pe_mk M2 (hr.mono (by decide)) (pa_cons (pe_callB call_abs (by rfl) B.abs (by decide +kernel) (pa_cons (pe_fld (pv 0) rfl) pa_nil)) (pa_cons (pe_fld (pv 0) rfl) pa_nil))))), ?_⟩
    refine ⟨_, rfl, x, C, dx, _, _, rfl, hx, T.cl, T.nT, rf_top _ _, _, rfl, ?_⟩
    refine ⟨_, rfl, x, C, dx, _, _, rfl, hx, T.cl, T.nU, rf_under _ _, ?_⟩
    refine fun z dz nz ndz ne => ?_
    exact ⟨z, dz, _, b, rfl, upd_same, wide8 hb (by decide), fun _ H' hz hk => ⟨rfl, k z H' (made nz ndz hk) ⟨dz, hz⟩⟩, fun h => absurd h (by omega)⟩
end
end L

set_option Elab.async false
set_option linter.all false
set_option maxRecDepth 100000
set_option maxHeartbeats 4000000
set_option pp.maxSteps 160
set_option pp.deepTerms false
namespace L
open PySem PySem.Spec PyProof.Rows L2 Fl
local macro_rules | `(tactic| walk_at "side") => `(tactic| first | (exact .inl ⟨by omega, by omega⟩) | (exact .inr ⟨by omega, by omega⟩) | (exact .inr ⟨by decide, by decide⟩) | (show (_ : Int) ≠ _; omega) | (exact ⟨by omega, by decide⟩) | (exact ⟨by decide, by decide, by decide⟩))
local macro_rules | `(tactic| walk_at "go") => `(tactic| repeat (first | refine ⟨_, rfl, ?_⟩ | refine ⟨_, _, rfl, rfl, ?_⟩ | refine .inl ⟨_, rfl, ?_⟩ | refine ⟨rfl, ?_⟩ | refine ⟨(by walk_at "side"), ?_⟩))
local macro_rules | `(tactic| walk_at "see") => `(tactic| (set_option pp.maxSteps 110 in set_option pp.deepTerms false in trace_state))
local macro_rules | `(tactic| walk_at "if") => `(tactic| first | refine ifE ?_ ?_ | refine ifNE ?_ ?_ | refine ifD ?_ ?_ | refine ifN ?_ ?_ | refine ifB ?_ ?_)
open Bx
section
variable {P : Program} {w : World} {K : PySem.W.Frag} {mg : Str → Option Value} {base : Heap}

theorem d8 {i j : Int} (h1 : i.natAbs < 2 ^ 3000) (h2 : j.natAbs < 2 ^ 3000) {x : Int} (hn : i * j ≠ 0) : CDivA x (i * j) := divA (b := 8000) hn (wu h1 h2) (by decide) (by decide)
def spRQ (C ZU : Addr) : Sp := fun vs H Q E => ∃ (v1 v2 : V) (a b t u : Int), vs = [v1, v2] ∧ Num C H v1 a b ∧ Num C H v2 t u ∧ Sm a b t u ∧ (t = 0 → E (.ref ZU) none H) ∧ (t ≠ 0 → Q (.int ((a * u).fdiv (b * t))) H)
abbrev CalRQ (P : Program) (w : World) (K : PySem.W.Frag) (mg : Str → Option Value) (base : Heap) (C ZU : Addr) := CalX P w K mg base 2 "_rounded_quotient" ["number", "divisor"] (spRQ C ZU)
theorem ok_rq {C ZU : Addr} (TZ : ExC K mg "ZeroUnder" ZU) (C_top_of : CalTopOf P w K mg base C) (C_under_of : CalUnderOf P w K mg base C) (D : Dfn K mg "_rounded_quotient" "_rounded_quotient" s_rounded_quotient ["number", "divisor"]) : CalRQ P w K mg base C ZU := by
  refine D.calX sc_rounded_quotient (fun vs H Q E h => ?_) (fun fA cdv A outer st H vs Q E hr h => ?_)
  · obtain ⟨v1, v2, a, b, t, u, rfl, _⟩ := h
    rfl
  · obtain ⟨v1, v2, a, b, t, u, rfl, n1, n2, sm, k0, k⟩ := h
    refine ⟨_, (pss_cons (ps_set (i := 2) sc_rounded_quotient.nd rfl (Or.inl rfl) (pe_op op_mulW (pe_cal C_under_of (hr.mono (by decide)) (pa_cons (pv 0) pa_nil)) (pe_cal C_top_of (hr.mono (by decide)) (pa_cons (pv 1) pa_nil))))
      (pss_cons (ps_if (pt_cmpR op_eq (pv 2) (pe_int) (nomark _)) (pss_one ((ps_raise rfl (takes_of rfl rfl rfl rfl) (pmk_own PySem.F.excBase_ValueError TZ.x TZ.g TZ.k (raises_own TZ.b TZ.t) rfl)))) pss_nil)
      (pss_one (ps_ret (pe_op op_fdivA (pe_op op_mulW (pe_cal C_top_of (hr.mono (by decide)) (pa_cons (pv 0) pa_nil)) (pe_cal C_under_of (hr.mono (by decide)) (pa_cons (pv 1) pa_nil))) (pv 2)))))), ?_⟩
    refine ⟨_, rfl, v1, a, b, rfl, n1, _, rfl, v2, t, u, rfl, n2, _, _, rfl, rfl, wm sm.sb sm.st, ?_⟩
    walk_at "go"
    walk_at "if"
    · intro h0
      refine k0 ?_
      rcases Int.mul_eq_zero.mp h0 with h | h
      · have := sm.bp
        omega
      · exact h
    intro h0
    have t0 : t ≠ 0 := fun e => h0 (by rw [e, Int.mul_zero])
    refine ⟨_, rfl, v1, a, b, rfl, n1, _, rfl, v2, t, u, rfl, n2, _, _, rfl, rfl, wm sm.sa sm.su, ?_⟩
    exact ⟨_, rfl, _, _, rfl, rfl, d8 sm.sb sm.st h0, k t0⟩
def spFD (C ZU : Addr) : Sp := fun vs H Q E => ∃ (x : Addr) (v2 : V) (a b t u : Int), vs = [.ref x, v2] ∧ RatAt C H x a b ∧ Num C H v2 t u ∧ Sm a b t u ∧ (t = 0 → E (.ref ZU) none H) ∧ (t ≠ 0 → Q (.int ((a * u).fdiv (b * t))) H)
theorem ok_floordiv {C ZU fA : Addr} {fd : FuncData} (C_is_number : CalIsNum P w K mg base C) (C_rq : CalRQ P w K mg base C ZU) (F : Fun K "__floordiv__" "Ratio.__floordiv__" s_Ratio_floordiv fA fd) : FnOk P w K mg base (L2.CX P w) 3 fA fd ["self", "other"] (spFD C ZU) := by
  refine F.okX sc_Ratio_floordiv (fun vs H Q E h => ?_) (fun cdv A outer st H vs Q E hr h => ?_)
  · obtain ⟨x, v, a, b, t, u, rfl, _⟩ := h
    rfl
  · obtain ⟨x, v, a, b, t, u, rfl, hx, hv, sm, k0, k⟩ := h
    refine ⟨_, (pss_cons (ps_if (pt_not (pt_val (pe_cal C_is_number (hr.mono (by decide)) (pa_cons (pv 1) pa_nil)))) (pss_one (ps_never)) pss_nil)
      (pss_one (ps_ret (pe_calS C_rq (takes_of rfl rfl rfl rfl) (hr.mono (by decide)) (pa_cons (pv 0) (pa_cons (pv 1) pa_nil)))))), ?_⟩
    refine ⟨_, rfl, v, t, u, rfl, hv, _, rfl, iteF ?_⟩
    exact ⟨_, rfl, _, rfl, .ref x, v, a, b, t, u, rfl, .inr ⟨x, rfl, hx⟩, hv, sm, k0, k⟩
theorem fdiv_bd {x d : Int} (hd : d ≠ 0) : (x.fdiv d).natAbs ≤ x.natAbs := by
  have key : ∀ e : Int, 0 < e → (x.fdiv e).natAbs ≤ x.natAbs ∧ ((-x).fdiv e).natAbs ≤ x.natAbs := by
    have one : ∀ y e : Int, 0 < e → (y.fdiv e).natAbs ≤ y.natAbs := fun y e he => by
      rw [Int.fdiv_eq_ediv_of_nonneg _ (by omega)]
      have h1 := Int.ediv_mul_le y (show e ≠ 0 by omega)
      have h2 := Int.lt_ediv_add_one_mul_self y he
      generalize y / e = k at *
      rcases (by omega : 0 ≤ k ∨ k < 0) with hk | hk
      · have : k * 1 ≤ k * e := Int.mul_le_mul_of_nonneg_left (by omega) hk
        omega
      · have : (k + 1) * e ≤ (k + 1) * 1 := Int.mul_le_mul_of_nonpos_left (by omega) (by omega)
        omega
    exact fun e he => ⟨one x e he, by have := one (-x) e he; rwa [Int.natAbs_neg] at this⟩
  rcases (by omega : 0 < d ∨ d < 0) with h | h
  · exact (key d h).1
  · have := (key (-d) (by omega)).2
    rwa [Int.neg_fdiv_neg] at this
structure Sk (a b t u : Int) : Prop where
  sa : a.natAbs < 2 ^ 700
  sb : b.natAbs < 2 ^ 700
  st : t.natAbs < 2 ^ 700
  su : u.natAbs < 2 ^ 700
  bp : 0 < b
  up : 0 < u
theorem ub {n : Int} {a b : Nat} (h : n.natAbs < 2 ^ a) (k : a ≤ b) : n.natAbs < 2 ^ b := Nat.lt_of_lt_of_le h (Nat.pow_le_pow_right (by decide) k)
theorem Sk.sm {a b t u : Int} (h : Sk a b t u) : Sm a b t u := ⟨ub h.sa (by decide), ub h.sb (by decide), ub h.st (by decide), ub h.su (by decide), h.bp, h.up⟩
def kq (a b t u : Int) : Int := (a * u).fdiv (b * t)
def spRem (C ZU : Addr) : Sp := fun vs H Q E => ∃ (x : Addr) (v2 : V) (a b t u : Int), vs = [.ref x, v2] ∧ RatAt C H x a b ∧ Num C H v2 t u ∧ Sk a b t u ∧ (t = 0 → E (.ref ZU) none H) ∧
  (t ≠ 0 → ∀ (z : Addr) (H' : Hp), Same H H' → RatAt C H' z (nT (a * nU (t * kq a b t u) (u * 1) - nT (t * kq a b t u) (u * 1) * b) (b * nU (t * kq a b t u) (u * 1))) (nU (a * nU (t * kq a b t u) (u * 1) - nT (t * kq a b t u) (u * 1) * b) (b * nU (t * kq a b t u) (u * 1))) → Q (.ref z) H')
abbrev CalRem (P : Program) (w : World) (K : PySem.W.Frag) (mg : Str → Option Value) (base : Heap) (C ZU : Addr) := CalX P w K mg base 5 "_remainder" ["number", "divisor"] (spRem C ZU)

theorem ok_rem {C ZU : Addr} (hSF : PySem.W.selfFirst K C = true) (scI : PySem.W.subIn K (.ref C) (.type "int") = some false) (C_rq : CalRQ P w K mg base C ZU) (C_as_ratio : CalAsRatio P w K mg base C) (OMult : OpOwn P w K mg base 3 C (PySem.dunder (Operator.info .Mult).2) ["self", "other"] (spAr C (fun a b t u => a * t) (fun a b t u => b * u))) (OSub : OpOwn P w K mg base 3 C (PySem.dunder (Operator.info .Sub).2) ["self", "other"] (spAr C (fun a b t u => a * u - t * b) (fun a b t u => b * u))) (RMult : OpOwn P w K mg base 4 C (dunderR (Operator.info .Mult).2) ["self", "other"] (spArR C (fun a b n => n * a) (fun a b n => 1 * b)))
    (D : Dfn K mg "_remainder" "_remainder" s_remainder ["number", "divisor"]) : CalRem P w K mg base C ZU := by
  obtain ⟨_, _, hOMult, _⟩ := id OMult.ex
  refine D.calX sc_remainder (fun vs H Q E h => ?_) (fun fA cdv A outer st H vs Q E hr h => ?_)
  · obtain ⟨x, v, a, b, t, u, rfl, _⟩ := h
    rfl
  · obtain ⟨x, v, a, b, t, u, rfl, hx, hv, sk, k0, k⟩ := h
    refine ⟨_, (pss_one (ps_ret (pe_op (op_oo (op := .Sub) OSub hSF (hr.mono (by decide))) (pv 0) (pe_op (op_or (op_oo (op := .Mult) OMult hSF (hr.mono (by decide))) (op_io (op := .Mult) RMult hSF hOMult scI PySem.F.fills_int_mul PySem.F.slot_int_mul PySem.F.entry_int_mul PySem.F.args_int_mul_2 int_mul_own (hr.mono (by decide)))) (pv 1) (pe_cal C_as_ratio (hr.mono (by decide)) (pa_cons (pe_calS C_rq (takes_of rfl rfl rfl rfl) (hr.mono (by decide)) (pa_cons (pv 0) (pa_cons (pv 1) pa_nil))) pa_nil)))))), ?_⟩
    obtain ⟨dx, hx⟩ := hx
    have kb : (kq a b t u).natAbs < 2 ^ 1400 ∨ t = 0 := by
      rcases (by omega : t = 0 ∨ t ≠ 0) with h | h
      · exact .inr h
      · have b0 := sk.bp
        exact .inl (Nat.lt_of_le_of_lt (fdiv_bd (by
          intro e
          rcases Int.mul_eq_zero.mp e with e | e
          · omega
          · exact h e)) (wide_lt sk.sa sk.su))
    have up := sk.up
    have un : u * 1 ≠ 0 := by omega
    have ub1 : (u * 1).natAbs < 2 ^ 700 := by rw [Int.mul_one]; exact sk.su
    refine ⟨_, rfl, _, rfl, _, rfl, _, rfl, .ref x, v, a, b, t, u, rfl, .inr ⟨x, rfl, dx, hx⟩, hv, sk.sm, k0, fun t0 => .inr ⟨_, rfl, fun y H1 ny s1 hy => ?_⟩⟩
    have kb := kb.resolve_right t0
    have k := k t0
    show _
    obtain ⟨dy, hy⟩ := hy
    have sm3 : Sm a b (nT (t * kq a b t u) (u * 1)) (nU (t * kq a b t u) (u * 1)) := ⟨ub sk.sa (by decide), ub sk.sb (by decide), ub (Nat.lt_of_le_of_lt (nT_le un) (wide_lt sk.st kb)) (by decide), ub (Nat.lt_of_le_of_lt (nU_le un) ub1) (by decide), sk.bp, nU_pos un⟩
    have hx1 := s1 _ _ hx
    rcases hv with ⟨rfl, rfl⟩ | ⟨d, rfl, dd, hd⟩
    · refine .inr ⟨y, dy, _, t, rfl, hy, rfl, y, t, kq a b t 1, 1, rfl, ⟨dy, hy⟩, ⟨ub kb (by decide), (show (1 : Int).natAbs < 2 ^ 3000 by decide +kernel), ub sk.st (by decide), (show (1 : Int).natAbs < 2 ^ 3000 by decide +kernel), by decide, by decide⟩, fun z H2 s2 hz => ⟨z, rfl, ?_⟩⟩
      obtain ⟨dz, hz⟩ := hz
      exact ⟨x, dx, _, z, dz, _, rfl, s2 _ _ hx1, rfl, hz, x, .ref z, a, b, _, _, rfl, ⟨dx, s2 _ _ hx1⟩, .inr ⟨z, rfl, dz, hz⟩, sm3, fun z2 H3 s3 hz2 => ⟨z2, rfl, k z2 H3 ((s1.trans s2).trans s3) hz2⟩⟩
    · refine .inl ⟨d, dd, _, y, dy, _, rfl, s1 _ _ hd, rfl, hy, d, .ref y, t, u, kq a b t u, 1, rfl, ⟨dd, s1 _ _ hd⟩, .inr ⟨y, rfl, dy, hy⟩, ⟨ub sk.st (by decide), ub sk.su (by decide), ub kb (by decide), (show (1 : Int).natAbs < 2 ^ 3000 by decide +kernel), sk.up, by decide⟩, fun z H2 s2 hz => ⟨z, rfl, ?_⟩⟩
      obtain ⟨dz, hz⟩ := hz
      exact ⟨x, dx, _, z, dz, _, rfl, s2 _ _ hx1, rfl, hz, x, .ref z, a, b, _, _, rfl, ⟨dx, s2 _ _ hx1⟩, .inr ⟨z, rfl, dz, hz⟩, sm3, fun z2 H3 s3 hz2 => ⟨z2, rfl, k z2 H3 ((s1.trans s2).trans s3) hz2⟩⟩
theorem ok_mod {C ZU fA : Addr} {fd : FuncData} (C_is_number : CalIsNum P w K mg base C) (C_rem : CalRem P w K mg base C ZU) (F : Fun K "__mod__" "Ratio.__mod__" s_Ratio_mod fA fd) : FnOk P w K mg base (L2.CX P w) 6 fA fd ["self", "other"] (spRem C ZU) := by
  refine F.okX sc_Ratio_mod (fun vs H Q E h => ?_) (fun cdv A outer st H vs Q E hr h => ?_)
  · obtain ⟨x, v, a, b, t, u, rfl, _⟩ := h
    rfl
  · obtain ⟨x, v, a, b, t, u, rfl, hx, hv, sk, k0, k⟩ := h
    refine ⟨_, (pss_cons (ps_if (pt_not (pt_val (pe_cal C_is_number (hr.mono (by decide)) (pa_cons (pv 1) pa_nil)))) (pss_one (ps_never)) pss_nil)
      (pss_one (ps_ret (pe_calS C_rem (takes_of rfl rfl rfl rfl) (hr.mono (by decide)) (pa_cons (pv 0) (pa_cons (pv 1) pa_nil)))))), ?_⟩
    refine ⟨_, rfl, v, t, u, rfl, hv, _, rfl, iteF ?_⟩
    exact ⟨_, rfl, _, rfl, x, v, a, b, t, u, rfl, hx, hv, sk, k0, k⟩
def spOver (C ZU : Addr) : Sp := fun vs H Q E => ∃ (x : Addr) (v2 : V) (a b t u : Int), vs = [.ref x, v2] ∧ RatAt C H x a b ∧ Num C H v2 t u ∧ Sm a b t u ∧ (t = 0 → ∀ H', Same H H' → E (.ref ZU) none H') ∧
  (t ≠ 0 → ∀ (z : Addr) (H' : Hp), Same H H' → RatAt C H' z (nT (a * u) (b * t)) (nU (a * u) (b * t)) → Q (.ref z) H')
theorem ok_over {C ZU fA : Addr} {fd : FuncData} (T : RatC K mg C) (C_top_of : CalTopOf P w K mg base C) (C_under_of : CalUnderOf P w K mg base C) (M2 : CalRatio P w K mg base C ZU []) (F : Fun K "over" "Ratio.over" s_Ratio_over fA fd) : FnOk P w K mg base (L2.CX P w) 3 fA fd ["self", "number"] (spOver C ZU) := by
  refine F.okX sc_Ratio_over (fun vs H Q E h => ?_) (fun cdv A outer st H vs Q E hr h => ?_)
  · obtain ⟨x, v, a, b, t, u, rfl, _⟩ := h
    rfl
  · obtain ⟨x, v, a, b, t, u, rfl, ⟨dx, hx⟩, hv, sm, k0, k⟩ := h
    refine ⟨_, (pss_one (ps_ret (pe_mkS M2 (takes_of rfl rfl rfl rfl) (hr.mono (by decide)) (pa_cons (pe_op op_mulW (pe_fld (pv 0) rfl) (pe_cal C_under_of (hr.mono (by decide)) (pa_cons (pv 1) pa_nil))) (pa_cons (pe_op op_mulW (pe_fld (pv 0) rfl) (pe_cal C_top_of (hr.mono (by decide)) (pa_cons (pv 1) pa_nil))) pa_nil))))), ?_⟩
    refine ⟨_, rfl, x, C, dx, _, _, rfl, hx, T.cl, T.nT, rf_top _ _, ?_⟩
    refine ⟨_, rfl, v, t, u, rfl, hv, _, _, rfl, rfl, wm sm.sa sm.su, ?_⟩
    refine ⟨_, rfl, x, C, dx, _, _, rfl, hx, T.cl, T.nU, rf_under _ _, ?_⟩
    refine ⟨_, rfl, v, t, u, rfl, hv, _, _, rfl, rfl, wm sm.sb sm.st, ?_⟩
    refine fun z dz nz ndz ne => ?_
    have s0 : Same H (upd (upd H dz (.own z)) z (.ins C dz [])) := made (H' := upd (upd H dz (.own z)) z (.ins C dz [])) nz ndz (Keeps.refl _ _)
    have b0 := sm.bp
    refine ⟨z, dz, _, b * t, rfl, upd_same, wu sm.sb sm.st, fun h H' hz hk => ⟨rfl, k (fun e => h (by rw [e, Int.mul_zero])) z H' (made nz ndz hk) ⟨dz, hz⟩⟩, fun h => k0 ?_ _ s0⟩
    rcases Int.mul_eq_zero.mp h with h | h
    · omega
    · exact h
def spFloor (C : Addr) : Sp := fun vs H Q _ => ∃ (x : Addr) (a b : Int), vs = [.ref x] ∧ RatAt C H x a b ∧ 0 < b ∧ b.natAbs < 2 ^ 3000 ∧ Q (.int (a.fdiv b)) H
theorem ok_floor {C fA : Addr} {fd : FuncData} (T : RatC K mg C) (F : Fun K "floor" "Ratio.floor" s_Ratio_floor fA fd) : FnOk P w K mg base CX0 1 fA fd ["self"] (spFloor C) := by
  refine F.ok sc_Ratio_floor (fun vs H Q E h => ?_) (fun cdv A outer st H vs Q E hr h => ?_)
  · obtain ⟨x, a, b, rfl, _⟩ := h
    rfl
  · obtain ⟨x, a, b, rfl, ⟨dx, hx⟩, b0, hb, q⟩ := h
    refine ⟨_, (pss_one (ps_ret (pe_op op_fdivA (pe_fld (pv 0) rfl) (pe_fld (pv 0) rfl)))), ?_⟩
    refine ⟨_, rfl, x, C, dx, _, _, rfl, hx, T.cl, T.nT, rf_top _ _, ?_⟩
    exact ⟨_, rfl, x, C, dx, _, _, rfl, hx, T.cl, T.nU, rf_under _ _, _, _, rfl, rfl, divA (b := 8000) (by omega) (ub hb (by decide)) (by decide) (by decide), q⟩
def spCeil (C : Addr) : Sp := fun vs H Q _ => ∃ (x : Addr) (a b : Int), vs = [.ref x] ∧ RatAt C H x a b ∧ 0 < b ∧ b.natAbs < 2 ^ 3000 ∧ Q (.int (-((-a).fdiv b))) H
theorem ok_ceiling {C fA : Addr} {fd : FuncData} (T : RatC K mg C) (F : Fun K "ceiling" "Ratio.ceiling" s_Ratio_ceiling fA fd) : FnOk P w K mg base CX0 1 fA fd ["self"] (spCeil C) := by
  refine F.ok sc_Ratio_ceiling (fun vs H Q E h => ?_) (fun cdv A outer st H vs Q E hr h => ?_)
  · obtain ⟨x, a, b, rfl, _⟩ := h
    rfl
  · obtain ⟨x, a, b, rfl, ⟨dx, hx⟩, b0, hb, q⟩ := h
    refine ⟨_, (pss_one (ps_ret (pe_un un_neg (pe_op op_fdivA (pe_un un_neg (pe_fld (pv 0) rfl)) (pe_fld (pv 0) rfl))))), ?_⟩
    refine ⟨_, rfl, x, C, dx, _, _, rfl, hx, T.cl, T.nT, rf_top _ _, _, rfl, ?_⟩
    exact ⟨_, rfl, x, C, dx, _, _, rfl, hx, T.cl, T.nU, rf_under _ _, _, _, rfl, rfl, divA (b := 8000) (by omega) (ub hb (by decide)) (by decide) (by decide), _, rfl, q⟩
end
end L

set_option Elab.async false
set_option linter.all false
set_option maxRecDepth 100000
set_option maxHeartbeats 4000000
set_option pp.maxSteps 160
set_option pp.deepTerms false
namespace L
open PySem PySem.Spec PyProof.Rows L2 Fl
local macro_rules | `(tactic| walk_at "side") => `(tactic| first | (exact .inl ⟨by omega, by omega⟩) | (exact .inr ⟨by omega, by omega⟩) | (exact .inr ⟨by decide, by decide⟩) | (show (_ : Int) ≠ _; omega) | (exact ⟨by omega, by decide⟩) | (exact ⟨by decide, by decide, by decide⟩))
local macro_rules | `(tactic| walk_at "go") => `(tactic| repeat (first | refine ⟨_, rfl, ?_⟩ | refine ⟨_, _, rfl, rfl, ?_⟩ | refine .inl ⟨_, rfl, ?_⟩ | refine ⟨rfl, ?_⟩ | refine ⟨(by walk_at "side"), ?_⟩))
local macro_rules | `(tactic| walk_at "see") => `(tactic| (set_option pp.maxSteps 110 in set_option pp.deepTerms false in trace_state))
local macro_rules | `(tactic| walk_at "if") => `(tactic| first | refine ifE ?_ ?_ | refine ifNE ?_ ?_ | refine ifD ?_ ?_ | refine ifN ?_ ?_ | refine ifB ?_ ?_)
open Bx

theorem n_eq {t u n m : Int} (hu : u ≠ 0) (hm : m ≠ 0) (e : t * m = n * u) : nT t u = nT n m ∧ nU t u = nU n m := by
  have c := n_cross t u
  refine n_uniq hm (nU_pos hu) (n_gcd hu) (Int.eq_of_mul_eq_mul_right hu ?_)
  grind
theorem nU_bd {n m n' m' : Int} {b : Nat} (hm : m ≠ 0) (hm' : m' ≠ 0) (e : n * m' = n' * m) (h : m'.natAbs < b) : (nU n m).natAbs < b := by
  rw [(n_eq hm hm' e).2]
  exact Nat.lt_of_le_of_lt (nU_le hm') h
section
variable {P : Program} {w : World} {K : PySem.W.Frag} {mg : Str → Option Value} {base : Heap}

def spExact (C : Addr) : Sp := fun vs H Q _ => ∃ (x : Addr) (n m : Int), vs = [.ref x, .int n, .int m] ∧ RatAt C H x (nT n m) (nU n m) ∧ 0 < m ∧ (nU n m).natAbs < 10 ^ 124 ∧ n.natAbs < 2 ^ 3000 ∧ m.natAbs < 2 ^ 3000 ∧ Q (.bl true) H
abbrev CalExact (P : Program) (w : World) (K : PySem.W.Frag) (mg : Str → Option Value) (base : Heap) (C : Addr) := Cal P w K mg base 3 "_law_exact" ["_law_actual", "_law_top", "_law_under"] (spExact C)
theorem ok_exact {C : Addr} (B : Blt mg) (T : RatC K mg C) (D : Dfn K mg "_law_exact" "_law_exact" s_exact ["_law_actual", "_law_top", "_law_under"]) (C_ratio : CalRatioQ P w K mg base C) (C_gcd : CalGcd P w K mg base) : CalExact P w K mg base C := by
  refine D.cal sc_exact (fun vs H Q E h => ?_) (fun fA cdv A outer st H vs Q E hr h => ?_)
  · obtain ⟨x, n, m, rfl, _⟩ := h
    rfl
  · obtain ⟨x, n, m, rfl, ⟨dx, hx⟩, m0, hu, hn, h2, q⟩ := h
    have mn : m ≠ 0 := by omega
    have h1 : (nT n m).natAbs < 2 ^ 3000 := Nat.lt_of_le_of_lt (nT_le mn) hn
    have h3 : (nU n m).natAbs < 2 ^ 3000 := Nat.lt_of_le_of_lt (nU_le mn) h2
    refine ⟨_, (pss_cons (ps_if (PW.pt (pw_or (pt_not (pt_val (pe_cal C_ratio (hr.mono (by decide)) (pa_cons (pv 0) pa_nil)))) (pw_or1 (pt_cmpR op_ne (pe_op op_mulW (pe_fld (pv 0) rfl) (pv 2)) (pe_op op_mulW (pv 1) (pe_fld (pv 0) rfl)) (nomark _))))) (pss_one (ps_ret (pe_bl))) pss_nil)
      (pss_one (ps_ret (pe_cmpR op_eq (pe_cal C_gcd (hr.mono (by decide)) (pa_cons (pe_fld (pv 0) rfl) (pa_cons (pe_fld (pv 0) rfl) pa_nil))) (pe_int) (nomark _))))), ?_⟩
    refine ⟨_, rfl, x, _, _, rfl, ⟨dx, hx⟩, _, rfl, ?_⟩
    rw [decide_eq_true (nU_pos (t := n) mn)]
    refine iteF ?_
    refine ⟨_, rfl, x, C, dx, _, _, rfl, hx, T.cl, T.nT, rf_top _ _, _, rfl, _, _, rfl, rfl, wm h1 h2, ?_⟩
    refine ⟨_, rfl, _, rfl, x, C, dx, _, _, rfl, hx, T.cl, T.nU, rf_under _ _, _, _, rfl, rfl, wm hn h3, rfl, _, rfl, ?_⟩
    rw [decide_eq_true (show V.int (nT n m * m) = V.int (n * nU n m) by rw [n_cross])]
    refine iteF ?_
    refine ⟨_, rfl, x, C, dx, _, _, rfl, hx, T.cl, T.nT, rf_top _ _, ?_⟩
    refine ⟨_, rfl, x, C, dx, _, _, rfl, hx, T.cl, T.nU, rf_under _ _, _, _, rfl, hu, ?_⟩
    rw [n_gcd mn]
    exact ⟨rfl, q⟩
def spRefused (C : Addr) : Sp := fun vs H Q _ => ∃ (x : Addr) (v : V) (a b u way : Int), vs = [.ref x, v, .int way] ∧ RatAt C H x a b ∧ Num C H v 0 u ∧ Sk a b 0 u ∧ ∀ (tp : Addr) (H' : Hp), Same H H' → H' tp = some (.tup [.bl true, .bl true, .bl false]) → Q (.ref tp) H'
abbrev CalRefused (P : Program) (w : World) (K : PySem.W.Frag) (mg : Str → Option Value) (base : Heap) (C : Addr) := Cal P w K mg base 7 "_law_refused" ["_law_a", "_law_b", "_law_way"] (spRefused C)
theorem ok_refused {C ZU LE BN : Addr} (B : Blt mg) (T : RatC K mg C) (TZ : ExC K mg "ZeroUnder" ZU) (gLotError : mg "LotError" = some (.ref LE)) (gBadNumber : mg "BadNumber" = some (.ref BN)) (k1 : PySem.W.kitOne K (.ref ZU) (.ref LE) = some true) (k2 : PySem.W.kitOne K (.ref ZU) (.type "ValueError") = some true) (k3 : PySem.W.kitOne K (.ref ZU) (.ref BN) = some false)
    (OVER : OwnX P w K mg base 3 C "over" ["self", "number"] (spOver C ZU)) (FD : OwnX P w K mg base 3 C (PySem.dunder (Operator.info .FloorDiv).2) ["self", "other"] (spFD C ZU)) (MOD : OwnX P w K mg base 6 C (PySem.dunder (Operator.info .Mod).2) ["self", "other"] (spRem C ZU))
    {gFD gMOD : Addr} {fiF riF fiM riM : Option Value} (rFD : PySem.W.findIn K (.ref C) (dunderR (Operator.info .FloorDiv).2) = some (some (.ref gFD))) (rMOD : PySem.W.findIn K (.ref C) (dunderR (Operator.info .Mod).2) = some (some (.ref gMOD)))
    (iFD : PySem.W.findIn K (.type "int") (PySem.dunder (Operator.info .FloorDiv).2) = some fiF) (jFD : PySem.W.findIn K (.type "int") (dunderR (Operator.info .FloorDiv).2) = some riF) (iMOD : PySem.W.findIn K (.type "int") (PySem.dunder (Operator.info .Mod).2) = some fiM) (jMOD : PySem.W.findIn K (.type "int") (dunderR (Operator.info .Mod).2) = some riM)
    (hSF : PySem.W.selfFirst K C = true) (siC : PySem.W.subIn K (.type "int") (.ref C) = some false)
    (D : Dfn K mg "_law_refused" "_law_refused" s_refused ["_law_a", "_law_b", "_law_way"]) : CalRefused P w K mg base C := by
  refine D.cal sc_refused (fun vs H Q E h => ?_) (fun fA cdv A outer st H vs Q E hr h => ?_)
  · obtain ⟨x, v, a, b, u, way, rfl, _⟩ := h
    rfl
  · obtain ⟨x, v, a, b, u, way, rfl, ⟨dx, hx⟩, hv, sk, k⟩ := h
    have hy : (∃ (b' dy : Addr) (hs : List (Str × V)), v = .ref b' ∧ H b' = some (.ins C dy hs)) ∨ ∃ n : Int, v = .int n := by
      rcases hv with ⟨e, _⟩ | ⟨y, e, dy, hy⟩
      · exact .inr ⟨_, e⟩
      · exact .inl ⟨y, dy, _, e, hy⟩
    refine ⟨_, (pss_cons (ps_set (i := 3) sc_refused.nd rfl (Or.inl rfl) (pe_non))
      (pss_cons (ps_set (i := 4) sc_refused.nd rfl (Or.inl rfl) (pe_int))
      (pss_cons (ps_try_as (i := 5) rfl rfl sc_refused.nd rfl rfl ⟨rfl, by decide, Or.inl TZ.g⟩ takes0 (fun W pn xe tk _ => (pss_one (ps_if (pt_cmpR op_eq (pv 2) (pe_int) (nomark _)) (pss_one (ps_set (i := 4) sc_refused.nd rfl (Or.inl rfl) (pe_methX OVER T.cl (fun σ => passAt tk σ) (hr.mono (by decide)) (pv 0) (pa_cons (pv 1) pa_nil)))) (pss_one (ps_if (pt_cmpR op_eq (pv 2) (pe_int) (nomark _)) (pss_one (ps_set (i := 4) sc_refused.nd rfl (Or.inl rfl) (pe_ownX (op := .FloorDiv) FD (fun σ => passAt tk σ) hSF rFD (.inr ⟨_, rfl⟩) iFD jFD siC (hr.mono (by decide)) (pv 0) (pv 1)))) (pss_one (ps_set (i := 4) sc_refused.nd rfl (Or.inl rfl) (pe_ownX (op := .Mod) MOD (fun σ => passAt tk σ) hSF rMOD (.inr ⟨_, rfl⟩) iMOD jMOD siC (hr.mono (by decide)) (pv 0) (pv 1))))))))) (fun a oe cls d pn hz hf => (pss_one (ps_set (i := 3) sc_refused.nd rfl (Or.inl rfl) (pe_tup (pa_cons (pe_callB (call_isX TZ.e hz hf) (by rfl) B.isinstance (by decide +kernel) (pa_cons (pv 5) (pa_cons (pe_glob (v := .ref _) (by rfl) gLotError rfl) pa_nil))) (pa_cons (pe_callB (call_isX TZ.e hz hf) (by rfl) B.isinstance (by decide +kernel) (pa_cons (pv 5) (pa_cons (pe_bltn (v := .ty "ValueError") (by rfl) B.ve (by decide +kernel) rfl) pa_nil))) (pa_cons (pe_callB (call_isX TZ.e hz hf) (by rfl) B.isinstance (by decide +kernel) (pa_cons (pv 5) (pa_cons (pe_glob (v := .ref _) (by rfl) gBadNumber rfl) pa_nil))) pa_nil))))))))
      (pss_one (ps_ret (pv 3)))))), ?_⟩
    walk_at "go"
    walk_at "if"
    · intro _
      refine ⟨_, rfl, x, dx, _, rfl, hx, rf_no _ _ (by decide +kernel) (by decide +kernel), _, rfl, x, v, a, b, 0, u, rfl, ⟨dx, hx⟩, hv, sk.sm, fun _ H' sH => ?_, fun h => absurd rfl h⟩
      refine ⟨true, TZ.exm, fun _ e0 he0 => ?_, fun q => Bool.noConfusion q⟩
      refine ⟨_, rfl, rfl, .inl rfl, _, _, true, rfl, .own _, k1, ?_⟩
      refine ⟨_, rfl, rfl, .inl rfl, _, _, true, rfl, .ty _, k2, ?_⟩
      refine ⟨_, rfl, rfl, .inl rfl, _, _, false, rfl, .own _, k3, ?_⟩
      exact ⟨(by show 3 ≤ sizeLine; decide), fun tp htp => ⟨_, rfl, k _ _ (sH.trans (same_upd htp)) upd_same⟩⟩
    intro _
    walk_at "go"
    walk_at "if"
    · intro _
      refine ⟨_, rfl, _, rfl, x, dx, _, rfl, hx, hy, x, v, a, b, 0, u, rfl, ⟨dx, hx⟩, hv, sk.sm, fun _ => ?_, fun h => absurd rfl h⟩
      refine ⟨true, TZ.exm, fun _ e0 he0 => ?_, fun q => Bool.noConfusion q⟩
      refine ⟨_, rfl, rfl, .inl rfl, _, _, true, rfl, .own _, k1, ?_⟩
      refine ⟨_, rfl, rfl, .inl rfl, _, _, true, rfl, .ty _, k2, ?_⟩
      refine ⟨_, rfl, rfl, .inl rfl, _, _, false, rfl, .own _, k3, ?_⟩
      exact ⟨(by show 3 ≤ sizeLine; decide), fun tp htp => ⟨_, rfl, k _ _ (same_upd htp) upd_same⟩⟩
    · intro _
      refine ⟨_, rfl, _, rfl, x, dx, _, rfl, hx, hy, x, v, a, b, 0, u, rfl, ⟨dx, hx⟩, hv, sk, fun _ => ?_, fun h => absurd rfl h⟩
      refine ⟨true, TZ.exm, fun _ e0 he0 => ?_, fun q => Bool.noConfusion q⟩
      refine ⟨_, rfl, rfl, .inl rfl, _, _, true, rfl, .own _, k1, ?_⟩
      refine ⟨_, rfl, rfl, .inl rfl, _, _, true, rfl, .ty _, k2, ?_⟩
      refine ⟨_, rfl, rfl, .inl rfl, _, _, false, rfl, .own _, k3, ?_⟩
      exact ⟨(by show 3 ≤ sizeLine; decide), fun tp htp => ⟨_, rfl, k _ _ (same_upd htp) upd_same⟩⟩

def spBetween : Sp := fun vs H Q _ => ∃ (k t u : Int), vs = [.int k, .int t, .int u] ∧ k.natAbs < 2 ^ 2999 ∧ u.natAbs < 2 ^ 2999 ∧ k * u ≤ t ∧ t < (k + 1) * u ∧ Q (.bl true) H
abbrev CalBetween (P : Program) (w : World) (K : PySem.W.Frag) (mg : Str → Option Value) (base : Heap) := Cal P w K mg base 2 "_law_between" ["_law_found", "_law_top", "_law_under"] spBetween
theorem ok_between (D : Dfn K mg "_law_between" "_law_between" s_between ["_law_found", "_law_top", "_law_under"]) (C_whole : CalWhole P w K mg base) : CalBetween P w K mg base := by
  refine D.cal sc_between (fun vs H Q E h => ?_) (fun fA cdv A outer st H vs Q E hr h => ?_)
  · obtain ⟨k, t, u, rfl, _⟩ := h
    rfl
  · obtain ⟨k, t, u, rfl, hk, hu, h1, h2, q⟩ := h
    have hk' : (k + 1).natAbs < 2 ^ 3000 := by
      rw [show (2 : Nat) ^ 3000 = 2 * 2 ^ 2999 from Nat.pow_succ' ..]
      generalize 2 ^ 2999 = z at *
      omega
    refine ⟨_, (pss_one (ps_ret ((pe_and (pe_cal C_whole (hr.mono (by decide)) (pa_cons (pv 0) pa_nil)) (pe_and (pe_cmpR op_le (pe_op op_mulW (pv 0) (pv 2)) (pv 1) (nomark _)) (pe_one (pe_cmpR op_lt (pv 1) (pe_op op_mulW (pe_op op_add (pv 0) (pe_int)) (pv 2)) (nomark _)))))))), ?_⟩
    refine ⟨_, rfl, k, rfl, _, rfl, iteT ?_⟩
    refine ⟨_, rfl, _, rfl, _, _, rfl, rfl, wm (ub hk (by decide)) (ub hu (by decide)), _, rfl, _, _, rfl, rfl, _, rfl, ?_⟩
    rw [decide_eq_true h1]
    refine iteT ?_
    refine ⟨_, rfl, _, rfl, _, _, rfl, rfl, _, rfl, _, _, rfl, rfl, wm hk' (ub hu (by decide)), _, _, rfl, rfl, ?_⟩
    show Q (V.bl (decide (t < (k + 1) * u))) _
    rw [decide_eq_true h2]
    exact q
end
end L

set_option Elab.async false
set_option linter.all false
set_option maxRecDepth 100000
set_option maxHeartbeats 4000000
set_option pp.maxSteps 160
set_option pp.deepTerms false
namespace L
open PySem PySem.Spec PyProof.Rows L2 Fl
local macro_rules | `(tactic| walk_at "side") => `(tactic| first | (exact .inl ⟨by omega, by omega⟩) | (exact .inr ⟨by omega, by omega⟩) | (exact .inr ⟨by decide, by decide⟩) | (show (_ : Int) ≠ _; omega) | (exact ⟨by omega, by decide⟩) | (exact ⟨by decide, by decide, by decide⟩))
local macro_rules | `(tactic| walk_at "go") => `(tactic| repeat (first | refine ⟨_, rfl, ?_⟩ | refine ⟨_, _, rfl, rfl, ?_⟩ | refine .inl ⟨_, rfl, ?_⟩ | refine ⟨rfl, ?_⟩ | refine ⟨(by walk_at "side"), ?_⟩))
local macro_rules | `(tactic| walk_at "see") => `(tactic| (set_option pp.maxSteps 110 in set_option pp.deepTerms false in trace_state))
local macro_rules | `(tactic| walk_at "if") => `(tactic| first | refine ifE ?_ ?_ | refine ifNE ?_ ?_ | refine ifD ?_ ?_ | refine ifN ?_ ?_ | refine ifB ?_ ?_)
open Bx

theorem qe {p q r s g h N M : Int} (e : (N = p * g * (s * h) ∧ M = q * g * (r * h)) ∨ (N = -(p * g * (s * h)) ∧ M = -(q * g * (r * h)))) : (p * s) * M = N * (q * r) := by
  rcases e with ⟨rfl, rfl⟩ | ⟨rfl, rfl⟩ <;> grind
theorem qb {p q r g s P Q : Int} (c : P * (q * r) = p * s * Q) : P * r * (q * g) = p * g * (Q * s) := by grind
theorem qm {p q r s g h k P Q : Int} (c : P * (s * 1) = r * k * Q) : (p * Q - P * q) * (q * g * (s * h)) = (p * g * (s * h) - r * h * k * (q * g)) * (q * Q) := by grind
theorem n2 {N M A B : Int} (e : (N = A ∧ M = B) ∨ (N = -A ∧ M = -B)) : N * B = A * M := by
  rcases e with ⟨rfl, rfl⟩ | ⟨rfl, rfl⟩ <;> grind
theorem fd_bt {x d G N M : Int} (hG : 0 < G) (hM : 0 < M) (e : (N = x * G ∧ M = d * G) ∨ (N = -(x * G) ∧ M = -(d * G))) : x.fdiv d * M ≤ N ∧ N < (x.fdiv d + 1) * M := by
  have one : ∀ y e : Int, 0 < e → y.fdiv e * (e * G) ≤ y * G ∧ y * G < (y.fdiv e + 1) * (e * G) := fun y e he => by
    rw [Int.fdiv_eq_ediv_of_nonneg _ (by omega)]
    have h1 := Int.ediv_mul_le y (show e ≠ 0 by omega)
    have h2 := Int.lt_ediv_add_one_mul_self y he
    constructor
    · have := Int.mul_le_mul_of_nonneg_right h1 (show 0 ≤ G by omega)
      rwa [Int.mul_assoc] at this
    · have := Int.mul_lt_mul_of_pos_right h2 hG
      rwa [Int.mul_assoc] at this
  rcases e with ⟨rfl, rfl⟩ | ⟨rfl, rfl⟩
  · refine one x d ?_
    rcases (by omega : d ≤ 0 ∨ 0 < d) with h | h
    · have := Int.mul_nonneg (a := -d) (b := G) (by omega) (by omega)
      rw [Int.neg_mul] at this
      omega
    · exact h
  · have hd : 0 < -d := by
      rcases (by omega : 0 ≤ d ∨ 0 < -d) with h | h
      · have := Int.mul_nonneg (a := d) (b := G) h (by omega)
        omega
      · exact h
    have := one (-x) (-d) hd
    rwa [Int.neg_fdiv_neg, Int.neg_mul, Int.neg_mul] at this
theorem bsub {i j : Int} {a : Nat} (h1 : i.natAbs < 2 ^ a) (h2 : j.natAbs < 2 ^ a) : (i - j).natAbs < 2 ^ (a + 1) := by
  rw [Nat.pow_succ]
  generalize 2 ^ a = z at *
  omega
structure Dv (at_ au bt bu : Int) : Prop where
  a : at_.natAbs < 2 ^ 650
  b : au.natAbs < 2 ^ 650
  c : bt.natAbs < 2 ^ 650
  d : bu.natAbs < 2 ^ 650
  ap : 0 < au
  bp : 0 < bu
  b0 : bt ≠ 0
  d1 : (nU at_ au).natAbs < 10 ^ 124
  d2 : (nU (at_ * bu) (au * bt)).natAbs < 10 ^ 124
  d3 : ∀ k : Int, (nU (at_ * bu - bt * k * au) (au * bu)).natAbs < 10 ^ 124
section
variable {P : Program} {w : World} {K : PySem.W.Frag} {mg : Str → Option Value} {base : Heap}

def spDiv (C : Addr) : Sp := fun vs H Q _ => ∃ (x : Addr) (v : V) (at_ au bt bu : Int), vs = [.ref x, v, .int at_, .int au, .int bt, .int bu] ∧ RatAt C H x (nT at_ au) (nU at_ au) ∧ Num C H v (nT bt bu) (nU bt bu) ∧ Dv at_ au bt bu ∧ ∀ H', Same H H' → Q (.bl true) H'
abbrev CalDiv (P : Program) (w : World) (K : PySem.W.Frag) (mg : Str → Option Value) (base : Heap) (C : Addr) := Cal P w K mg base 7 "_law_divided" ["_law_a", "_law_b", "_law_at", "_law_au", "_law_bt", "_law_bu"] (spDiv C)
theorem ok_divided {C ZU : Addr} (T : RatC K mg C) (C_exact : CalExact P w K mg base C) (C_between : CalBetween P w K mg base) (OMult : OpOwn P w K mg base 3 C (PySem.dunder (Operator.info .Mult).2) ["self", "other"] (spAr C (fun a b t u => a * t) (fun a b t u => b * u)))
    {gRM : Addr} {fiT riT : Option Value} (hRMult : PySem.W.findIn K (.ref C) (dunderR (Operator.info .Mult).2) = some (some (.ref gRM))) (iMult : PySem.W.findIn K (.type "int") (PySem.dunder (Operator.info .Mult).2) = some fiT) (jMult : PySem.W.findIn K (.type "int") (dunderR (Operator.info .Mult).2) = some riT)
    (OVER : OwnX P w K mg base 3 C "over" ["self", "number"] (spOver C ZU)) (FD : OwnX P w K mg base 3 C (PySem.dunder (Operator.info .FloorDiv).2) ["self", "other"] (spFD C ZU)) (MOD : OwnX P w K mg base 6 C (PySem.dunder (Operator.info .Mod).2) ["self", "other"] (spRem C ZU))
    {gFD gMOD : Addr} {fiF riF fiM riM : Option Value} (rFD : PySem.W.findIn K (.ref C) (dunderR (Operator.info .FloorDiv).2) = some (some (.ref gFD))) (rMOD : PySem.W.findIn K (.ref C) (dunderR (Operator.info .Mod).2) = some (some (.ref gMOD)))
    (iFD : PySem.W.findIn K (.type "int") (PySem.dunder (Operator.info .FloorDiv).2) = some fiF) (jFD : PySem.W.findIn K (.type "int") (dunderR (Operator.info .FloorDiv).2) = some riF) (iMOD : PySem.W.findIn K (.type "int") (PySem.dunder (Operator.info .Mod).2) = some fiM) (jMOD : PySem.W.findIn K (.type "int") (dunderR (Operator.info .Mod).2) = some riM)
    (hSF : PySem.W.selfFirst K C = true) (siC : PySem.W.subIn K (.type "int") (.ref C) = some false)
    (D : Dfn K mg "_law_divided" "_law_divided" s_divided ["_law_a", "_law_b", "_law_at", "_law_au", "_law_bt", "_law_bu"]) : CalDiv P w K mg base C := by
  refine D.cal sc_divided (fun vs H Q E h => ?_) (fun fA cdv A outer st H vs Q E hr h => ?_)
  · obtain ⟨x, v, at_, au, bt, bu, rfl, _⟩ := h
    rfl
  · obtain ⟨x, v, at_, au, bt, bu, rfl, ⟨dx, hx⟩, hv, dv, k⟩ := h
    have hy : (∃ (b' dy : Addr) (hs : List (Str × V)), v = .ref b' ∧ H b' = some (.ins C dy hs)) ∨ ∃ n : Int, v = .int n := by
      rcases hv with ⟨e, _⟩ | ⟨y, e, dy, hy⟩
      · exact .inr ⟨_, e⟩
      · exact .inl ⟨y, dy, _, e, hy⟩
    have nau : au ≠ 0 := by have := dv.ap; omega
    have nbu : bu ≠ 0 := by have := dv.bp; omega
    have nab : au * bt ≠ 0 := fun e => by
      rcases Int.mul_eq_zero.mp e with e | e
      · exact nau e
      · exact dv.b0 e
    have nuu : 0 < au * bu := Int.mul_pos dv.ap dv.bp
    have E1 := nT_mul at_ au
    have E2 := nU_mul at_ au
    have E3 := nT_mul bt bu
    have E4 := nU_mul bt bu
    have pq := nU_pos (t := at_) nau
    have ps := nU_pos (t := bt) nbu
    have bp : (nT at_ au).natAbs < 2 ^ 650 := Nat.lt_of_le_of_lt (nT_le nau) dv.a
    have bq : (nU at_ au).natAbs < 2 ^ 650 := Nat.lt_of_le_of_lt (nU_le nau) dv.b
    have br : (nT bt bu).natAbs < 2 ^ 650 := Nat.lt_of_le_of_lt (nT_le nbu) dv.c
    have bs0 : (nU bt bu).natAbs < 2 ^ 650 := Nat.lt_of_le_of_lt (nU_le nbu) dv.d
    have pg : 0 < sh at_ au := by
      rcases (by omega : sh at_ au ≤ 0 ∨ 0 < sh at_ au) with h | h
      · have := Int.mul_nonneg (a := nU at_ au) (b := -sh at_ au) (by omega) (by omega)
        rw [Int.mul_neg, E2] at this
        have := dv.ap
        omega
      · exact h
    have ph : 0 < sh bt bu := by
      rcases (by omega : sh bt bu ≤ 0 ∨ 0 < sh bt bu) with h | h
      · have := Int.mul_nonneg (a := nU bt bu) (b := -sh bt bu) (by omega) (by omega)
        rw [Int.mul_neg, E4] at this
        have := dv.bp
        omega
      · exact h
    have r0 : nT bt bu ≠ 0 := fun e => dv.b0 (by rw [← E3, e, Int.zero_mul])
    have d1 := dv.d1
    refine ⟨_, (pss_cons (ps_set (i := 6) sc_divided.nd rfl (Or.inl rfl) (pe_op op_mulW (pv 2) (pv 5)))
      (pss_cons (ps_set (i := 7) sc_divided.nd rfl (Or.inl rfl) (pe_op op_mulW (pv 3) (pv 4)))
      (Evl.pss_cut (ps_if (pt_cmpR op_lt (pv 7) (pe_int) (nomark _)) (pss_cons (ps_set (i := 6) sc_divided.nd rfl (Or.inl rfl) (pe_un un_neg (pv 6)))
      (pss_one (ps_set (i := 7) sc_divided.nd rfl (Or.inl rfl) (pe_un un_neg (pv 7))))) pss_nil)
      (pss_cons (ps_set (i := 8) sc_divided.nd rfl (Or.inl rfl) (pe_methX (E := fun _ => E0) OVER T.cl (fun σ pins H s e s' I h => passL pins σ H s e s' I h) (hr.mono (by decide)) (pv 0) (pa_cons (pv 1) pa_nil)))
      (pss_cons (ps_if (PW.pt (pw_or (pt_not (pt_val (pe_cal C_exact (hr.mono (by decide)) (pa_cons (pv 8) (pa_cons (pv 6) (pa_cons (pv 7) pa_nil)))))) (pw_or1 (pt_not (pt_val (pe_cal C_exact (hr.mono (by decide)) (pa_cons (pe_op (op_or (op_oo (op := .Mult) OMult hSF (hr.mono (by decide))) (op_oi (op := .Mult) OMult hSF hRMult (.inr ⟨_, rfl⟩) iMult jMult siC (hr.mono (by decide)))) (pv 8) (pv 1)) (pa_cons (pv 2) (pa_cons (pv 3) pa_nil))))))))) (pss_one (ps_ret (pe_bl))) pss_nil)
      (pss_cons (ps_set (i := 9) sc_divided.nd rfl (Or.inl rfl) (pe_ownX (E := fun _ => E0) (op := .FloorDiv) FD (fun σ pins H s e s' I h => passL pins σ H s e s' I h) hSF rFD (.inr ⟨_, rfl⟩) iFD jFD siC (hr.mono (by decide)) (pv 0) (pv 1)))
      (pss_cons (ps_if (pt_not (pt_val (pe_cal C_between (hr.mono (by decide)) (pa_cons (pv 9) (pa_cons (pv 6) (pa_cons (pv 7) pa_nil)))))) (pss_one (ps_ret (pe_bl))) pss_nil)
      (pss_one (ps_ret (pe_cal C_exact (hr.mono (by decide)) (pa_cons (pe_ownX (E := fun _ => E0) (op := .Mod) MOD (fun σ pins H s e s' I h => passL pins σ H s e s' I h) hSF rMOD (.inr ⟨_, rfl⟩) iMOD jMOD siC (hr.mono (by decide)) (pv 0) (pv 1)) (pa_cons (pe_op op_sub (pe_op op_mulW (pv 2) (pv 5)) (pe_op op_mulW (pe_op op_mulW (pv 4) (pv 9)) (pv 3))) (pa_cons (pe_op op_mulW (pv 3) (pv 5)) pa_nil))))))))))))), ?_⟩
    refine ⟨_, rfl, _, rfl, _, _, rfl, rfl, wm (ub dv.a (by decide)) (ub dv.d (by decide)), ?_⟩
    refine ⟨_, rfl, _, rfl, _, _, rfl, rfl, wm (ub dv.b (by decide)) (ub dv.c (by decide)), ?_⟩
    refine ⟨fun σ' H' => ∃ N M : Int, σ' = [some (.ref x), some v, some (.int at_), some (.int au), some (.int bt), some (.int bu), some (.int N), some (.int M), none, none] ∧ H' = H ∧ 0 < M ∧ ((N = at_ * bu ∧ M = au * bt) ∨ (N = -(at_ * bu) ∧ M = -(au * bt))), ?_, ?_⟩
    · walk_at "go"
      walk_at "if"
      · intro h
        exact ⟨_, rfl, _, rfl, _, rfl, _, rfl, -(at_ * bu), -(au * bt), rfl, rfl, by omega, .inr ⟨rfl, rfl⟩⟩
      · intro h
        exact ⟨at_ * bu, au * bt, rfl, rfl, by omega, .inl ⟨rfl, rfl⟩⟩
    rintro σ' H' ⟨N, M, rfl, rfl, hM, eNM⟩
    have bN : N.natAbs < 2 ^ 1300 := by
      have := wide_lt dv.a dv.d
      rcases eNM with ⟨rfl, _⟩ | ⟨rfl, _⟩
      · exact this
      · rw [Int.natAbs_neg]
        exact this
    have bM : M.natAbs < 2 ^ 1300 := by
      have := wide_lt dv.b dv.c
      rcases eNM with ⟨_, rfl⟩ | ⟨_, rfl⟩
      · exact this
      · rw [Int.natAbs_neg]
        exact this
    have bU : (nU N M).natAbs < 10 ^ 124 := by
      rw [(n_eq (Int.ne_of_gt hM) nab (n2 eNM)).2]
      exact dv.d2
    have d3 := dv.d3
    have e1 : (N = nT at_ au * sh at_ au * (nU bt bu * sh bt bu) ∧ M = nU at_ au * sh at_ au * (nT bt bu * sh bt bu)) ∨ (N = -(nT at_ au * sh at_ au * (nU bt bu * sh bt bu)) ∧ M = -(nU at_ au * sh at_ au * (nT bt bu * sh bt bu))) := by
      rw [E1, E2, E3, E4]
      exact eNM
    have da := dv.a
    have db := dv.b
    have dc := dv.c
    have dd := dv.d
    have dap := dv.ap
    generalize hp : nT at_ au = p at *
    generalize hq : nU at_ au = q at *
    generalize hr' : nT bt bu = r at *
    generalize hs' : nU bt bu = s at *
    generalize sh at_ au = g at *
    generalize sh bt bu = h at *
    have sk : Sk p q r s := ⟨ub bp (by decide), ub bq (by decide), ub br (by decide), ub bs0 (by decide), pq, ps⟩
    have nqr : q * r ≠ 0 := fun e => by
      rcases Int.mul_eq_zero.mp e with e | e
      · omega
      · exact r0 e
    refine ⟨_, rfl, x, dx, _, rfl, hx, rf_no _ _ (by decide +kernel) (by decide +kernel), _, rfl, x, v, p, q, r, s, rfl, ⟨dx, hx⟩, hv, sk.sm, fun h => absurd h r0, fun _ z H1 s1 hz => ?_⟩
    have eq1 := n_eq nqr (Int.ne_of_gt hM) (qe e1)
    have hzN := hz
    rw [eq1.1, eq1.2] at hzN
    refine ⟨_, rfl, _, rfl, _, rfl, z, N, M, rfl, hzN, hM, bU, ub bN (by decide), ub bM (by decide), _, rfl, iteF ?_⟩
    have hx1 := s1 _ _ hx
    have hv1 := hv.same s1
    have c1 := n_cross (p * s) (q * r)
    have pQ := nU_pos (t := p * s) nqr
    have bP : (nT (p * s) (q * r)).natAbs < 2 ^ 1300 := Nat.lt_of_le_of_lt (nT_le nqr) (wide_lt bp bs0)
    have bQ : (nU (p * s) (q * r)).natAbs < 2 ^ 1300 := Nat.lt_of_le_of_lt (nU_le nqr) (wide_lt bq br)
    generalize nT (p * s) (q * r) = P' at *
    generalize nU (p * s) (q * r) = Q' at *
    have smq : Sm P' Q' r s := ⟨ub bP (by decide), ub bQ (by decide), ub br (by decide), ub bs0 (by decide), pQ, ps⟩
    have eq2 : nT (P' * r) (Q' * s) = nT at_ au ∧ nU (P' * r) (Q' * s) = nU at_ au := n_eq (Int.ne_of_gt (Int.mul_pos pQ ps)) nau (by
      have c := qb (g := g) c1
      rw [E1, E2] at c
      exact c)
    obtain ⟨dz, hz⟩ := hz
    have hv1' := hv1
    rcases hv1' with ⟨ev, es⟩ | ⟨y, ev, dy, hyy⟩
    · refine ⟨_, rfl, _, rfl, .inr ⟨z, dz, _, r, rfl, hz, ev, z, .int r, P', Q', r, s, rfl, ⟨dz, hz⟩, .inl ⟨rfl, es⟩, smq, fun w2 H2 s2 hw2 => ⟨w2, rfl, ?_⟩⟩⟩
      rw [eq2.1, eq2.2] at hw2
      refine ⟨_, rfl, _, rfl, w2, at_, au, rfl, hw2, dap, dv.d1, ub da (by decide), ub db (by decide), _, rfl, iteF ?_⟩
      have hx2 := s2 _ _ hx1
      have hv2 := hv1.same s2
      have hy2 : (∃ (b' dy : Addr) (hs : List (Str × V)), v = .ref b' ∧ H2 b' = some (.ins C dy hs)) ∨ ∃ n : Int, v = .int n := by
        rcases hv2 with ⟨e, _⟩ | ⟨y, e, dy, hy⟩
        · exact .inr ⟨_, e⟩
        · exact .inl ⟨y, dy, _, e, hy⟩
      refine ⟨_, rfl, _, rfl, x, dx, _, rfl, hx2, hy2, x, v, p, q, r, s, rfl, ⟨dx, hx2⟩, hv2, sk.sm, fun h => absurd h r0, fun _ => ⟨.inr ⟨_, rfl⟩, ?_⟩⟩
      have bt2 := fd_bt (x := p * s) (d := q * r) (G := g * h) (Int.mul_pos pg ph) hM (by
        rw [show p * s * (g * h) = p * g * (s * h) by grind, show q * r * (g * h) = q * g * (r * h) by grind]
        exact e1)
      have bk : ((p * s).fdiv (q * r)).natAbs < 2 ^ 1300 := Nat.lt_of_le_of_lt (fdiv_bd nqr) (wide_lt bp bs0)
      refine ⟨_, rfl, _, rfl, _, rfl, (p * s).fdiv (q * r), N, M, rfl, ub bk (by decide), ub bM (by decide), bt2.1, bt2.2, _, rfl, iteF ?_⟩
      refine ⟨_, rfl, _, rfl, x, dx, _, rfl, hx2, hy2, x, v, p, q, r, s, rfl, ⟨dx, hx2⟩, hv2, sk, fun h => absurd h r0, fun _ w3 H3 s3 hw3 => ⟨.inl ⟨_, rfl⟩, ?_⟩⟩
      have c2 := n_cross (r * kq p q r s) (s * 1)
      have s1n : s * 1 ≠ 0 := by omega
      have pQ2 := nU_pos (t := r * kq p q r s) s1n
      have eq3 := n_eq (n := at_ * bu - bt * (p * s).fdiv (q * r) * au) (m := au * bu) (Int.ne_of_gt (Int.mul_pos pq pQ2)) (Int.ne_of_gt nuu) (by
        have c := qm (g := g) (h := h) (q := q) (p := p) c2
        rw [E1, E2, E3, E4] at c
        exact c)
      rw [eq3.1, eq3.2] at hw3
      have b3 : (bt * (p * s).fdiv (q * r)).natAbs < 2 ^ (650 + 1300) := wide_lt dc bk
      have b4 : (at_ * bu - bt * (p * s).fdiv (q * r) * au).natAbs < 2 ^ 3000 := by
        have h1 : (at_ * bu).natAbs < 2 ^ (650 + 1300 + 650) := ub (wide_lt da dd) (by decide)
        have h2 : (bt * (p * s).fdiv (q * r) * au).natAbs < 2 ^ (650 + 1300 + 650) := wide_lt b3 db
        exact ub (bsub h1 h2) (by decide)
      refine ⟨_, rfl, _, rfl, _, _, rfl, rfl, wm (ub da (by decide)) (ub dd (by decide)), ?_⟩
      refine ⟨_, rfl, _, rfl, _, _, rfl, rfl, wm (ub dc (by decide)) (ub bk (by decide)), _, rfl, _, _, rfl, rfl, wm (ub b3 (by decide)) (ub db (by decide)), _, _, rfl, rfl, ?_⟩
      refine ⟨_, rfl, _, rfl, _, _, rfl, rfl, wm (ub db (by decide)) (ub dd (by decide)), ?_⟩
      exact ⟨w3, _, _, rfl, hw3, nuu, d3 _, b4, ub (wide_lt db dd) (by decide), k _ ((s1.trans s2).trans s3)⟩
    · refine ⟨_, rfl, _, rfl, .inl ⟨z, dz, _, y, dy, _, rfl, hz, ev, hyy, z, .ref y, P', Q', r, s, rfl, ⟨dz, hz⟩, .inr ⟨y, rfl, dy, hyy⟩, smq, fun w2 H2 s2 hw2 => ⟨w2, rfl, ?_⟩⟩⟩
      rw [eq2.1, eq2.2] at hw2
      refine ⟨_, rfl, _, rfl, w2, at_, au, rfl, hw2, dap, dv.d1, ub da (by decide), ub db (by decide), _, rfl, iteF ?_⟩
      have hx2 := s2 _ _ hx1
      have hv2 := hv1.same s2
      have hy2 : (∃ (b' dy : Addr) (hs : List (Str × V)), v = .ref b' ∧ H2 b' = some (.ins C dy hs)) ∨ ∃ n : Int, v = .int n := by
        rcases hv2 with ⟨e, _⟩ | ⟨y, e, dy, hy⟩
        · exact .inr ⟨_, e⟩
        · exact .inl ⟨y, dy, _, e, hy⟩
      refine ⟨_, rfl, _, rfl, x, dx, _, rfl, hx2, hy2, x, v, p, q, r, s, rfl, ⟨dx, hx2⟩, hv2, sk.sm, fun h => absurd h r0, fun _ => ⟨.inr ⟨_, rfl⟩, ?_⟩⟩
      have bt2 := fd_bt (x := p * s) (d := q * r) (G := g * h) (Int.mul_pos pg ph) hM (by
        rw [show p * s * (g * h) = p * g * (s * h) by grind, show q * r * (g * h) = q * g * (r * h) by grind]
        exact e1)
      have bk : ((p * s).fdiv (q * r)).natAbs < 2 ^ 1300 := Nat.lt_of_le_of_lt (fdiv_bd nqr) (wide_lt bp bs0)
      refine ⟨_, rfl, _, rfl, _, rfl, (p * s).fdiv (q * r), N, M, rfl, ub bk (by decide), ub bM (by decide), bt2.1, bt2.2, _, rfl, iteF ?_⟩
      refine ⟨_, rfl, _, rfl, x, dx, _, rfl, hx2, hy2, x, v, p, q, r, s, rfl, ⟨dx, hx2⟩, hv2, sk, fun h => absurd h r0, fun _ w3 H3 s3 hw3 => ⟨.inl ⟨_, rfl⟩, ?_⟩⟩
      have c2 := n_cross (r * kq p q r s) (s * 1)
      have s1n : s * 1 ≠ 0 := by omega
      have pQ2 := nU_pos (t := r * kq p q r s) s1n
      have eq3 := n_eq (n := at_ * bu - bt * (p * s).fdiv (q * r) * au) (m := au * bu) (Int.ne_of_gt (Int.mul_pos pq pQ2)) (Int.ne_of_gt nuu) (by
        have c := qm (g := g) (h := h) (q := q) (p := p) c2
        rw [E1, E2, E3, E4] at c
        exact c)
      rw [eq3.1, eq3.2] at hw3
      have b3 : (bt * (p * s).fdiv (q * r)).natAbs < 2 ^ (650 + 1300) := wide_lt dc bk
      have b4 : (at_ * bu - bt * (p * s).fdiv (q * r) * au).natAbs < 2 ^ 3000 := by
        have h1 : (at_ * bu).natAbs < 2 ^ (650 + 1300 + 650) := ub (wide_lt da dd) (by decide)
        have h2 : (bt * (p * s).fdiv (q * r) * au).natAbs < 2 ^ (650 + 1300 + 650) := wide_lt b3 db
        exact ub (bsub h1 h2) (by decide)
      refine ⟨_, rfl, _, rfl, _, _, rfl, rfl, wm (ub da (by decide)) (ub dd (by decide)), ?_⟩
      refine ⟨_, rfl, _, rfl, _, _, rfl, rfl, wm (ub dc (by decide)) (ub bk (by decide)), _, rfl, _, _, rfl, rfl, wm (ub b3 (by decide)) (ub db (by decide)), _, _, rfl, rfl, ?_⟩
      refine ⟨_, rfl, _, rfl, _, _, rfl, rfl, wm (ub db (by decide)) (ub dd (by decide)), ?_⟩
      exact ⟨w3, _, _, rfl, hw3, nuu, d3 _, b4, ub (wide_lt db dd) (by decide), k _ ((s1.trans s2).trans s3)⟩
end
end L

set_option Elab.async false
set_option linter.all false
set_option maxRecDepth 100000
set_option maxHeartbeats 4000000
set_option pp.maxSteps 160
set_option pp.deepTerms false
namespace L
open PySem PySem.Spec PyProof.Rows L2 Fl
local macro_rules | `(tactic| walk_at "side") => `(tactic| first | (exact .inl ⟨by omega, by omega⟩) | (exact .inr ⟨by omega, by omega⟩) | (exact .inr ⟨by decide, by decide⟩) | (show (_ : Int) ≠ _; omega) | (exact ⟨by omega, by decide⟩) | (exact ⟨by decide, by decide, by decide⟩))
local macro_rules | `(tactic| walk_at "go") => `(tactic| repeat (first | refine ⟨_, rfl, ?_⟩ | refine ⟨_, _, rfl, rfl, ?_⟩ | refine .inl ⟨_, rfl, ?_⟩ | refine ⟨rfl, ?_⟩ | refine ⟨(by walk_at "side"), ?_⟩))
local macro_rules | `(tactic| walk_at "see") => `(tactic| (set_option pp.maxSteps 110 in set_option pp.deepTerms false in trace_state))
local macro_rules | `(tactic| walk_at "if") => `(tactic| first | refine ifE ?_ ?_ | refine ifNE ?_ ?_ | refine ifD ?_ ?_ | refine ifN ?_ ?_ | refine ifB ?_ ?_)
open Bx
section
variable {P : Program} {w : World} {K : PySem.W.Frag} {mg : Str → Option Value} {base : Heap}

theorem Num.keep {C : Addr} {p : Pla} {H H' : Hp} {v : V} {t u : Int} (h : Num C H v t u) (hP : Pool H p) (k : Keeps H H' p) : Num C H' v t u := by
  rcases h with h | ⟨x, e, h⟩
  · exact .inl h
  · exact .inr ⟨x, e, h.keep k (h.ne_pool hP)⟩
theorem n_zero {m : Int} (hm : m ≠ 0) : nT 0 m = 0 ∧ nU 0 m = 1 := by
  have h := n_eq (t := 0) (u := m) (n := 0) (m := 1) hm (by decide) (by omega)
  rw [h.1, h.2]
  exact n_one 0
def spZero : Sp := fun vs H Q _ => ∃ (p : Pla), vs = [.ref p] ∧ Pool H p ∧ ∀ H', Q (.bl true) H'
abbrev CalZero (P : Program) (w : World) (K : PySem.W.Frag) (mg : Str → Option Value) (base : Heap) := Cal P w K mg base 8 "_law_zero" ["_law_pool_here"] spZero
theorem ok_zero {C ZU : Addr} (B : Blt mg) (T : RatC K mg C) (M2 : CalRatio P w K mg base C ZU []) (C_draw : CalDraw P w K mg base) (C_wide : CalWide P w K mg base) (C_signed : CalSigned P w K mg base) (C_refused : CalRefused P w K mg base C) (C_divided : CalDiv P w K mg base C)
    (D : Dfn K mg "_law_zero" "_law_zero" s_zero ["_law_pool_here"]) : CalZero P w K mg base := by
  refine D.cal sc_zero (fun vs H Q E h => ?_) (fun fA cdv A outer st H vs Q E hr h => ?_)
  · obtain ⟨p, rfl, _⟩ := h
    rfl
  · obtain ⟨p, rfl, hP, k⟩ := h
    refine ⟨_, (pss_cons (ps_set (i := 1) sc_zero.nd rfl (Or.inl rfl) (pe_cal C_signed (hr.mono (by decide)) (pa_cons (pv 0) pa_nil)))
      (pss_cons (ps_set (i := 2) sc_zero.nd rfl (Or.inl rfl) (pe_op op_add (pe_int) (pe_cal C_wide (hr.mono (by decide)) (pa_cons (pv 0) pa_nil))))
      (pss_cons (ps_set (i := 3) sc_zero.nd rfl (Or.inl rfl) (pe_mk M2 (hr.mono (by decide)) (pa_cons (pv 1) (pa_cons (pv 2) pa_nil))))
      (pss_cons (ps_set (i := 4) sc_zero.nd rfl (Or.inl rfl) (pe_mk M2 (hr.mono (by decide)) (pa_cons (pe_int) (pa_cons (pe_op op_add (pe_int) (pe_cal C_draw (hr.mono (by decide)) (pa_cons (pv 0) (pa_cons (pe_int) pa_nil)))) pa_nil))))
      (pss_cons (ps_for PassesOwn.never rfl (pi_range1 (by rfl) B.range (pa_cons (pe_int) pa_nil)) (pg_name (i := 5) sc_zero.nd rfl (Or.inl rfl)) (pss_cons (ps_if (pt_cmpR (op_neD hr.units) (pe_cal C_refused (hr.mono (by decide)) (pa_cons (pv 3) (pa_cons (pe_int) (pa_cons (pv 5) pa_nil)))) (pe_tup (pa_cons (pe_bl) (pa_cons (pe_bl) (pa_cons (pe_bl) pa_nil)))) (nomark _)) (pss_one (ps_ret (pe_bl))) pss_nil)
      (pss_one (ps_if (pt_cmpR (op_neD hr.units) (pe_cal C_refused (hr.mono (by decide)) (pa_cons (pv 3) (pa_cons (pv 4) (pa_cons (pv 5) pa_nil)))) (pe_tup (pa_cons (pe_bl) (pa_cons (pe_bl) (pa_cons (pe_bl) pa_nil)))) (nomark _)) (pss_one (ps_ret (pe_bl))) pss_nil))))
      (pss_one (ps_ret (pe_cal C_divided (hr.mono (by decide)) (pa_cons (pv 3) (pa_cons (pe_int) (pa_cons (pv 1) (pa_cons (pv 2) (pa_cons (pe_int) (pa_cons (pe_int) pa_nil)))))))))))))), ?_⟩
    refine ⟨_, rfl, p, rfl, hP, fun at_ H2 a0 a1 hP2 _ => ?_⟩
    refine ⟨_, rfl, p, rfl, hP2, fun au0 H3 b0 b1 hP3 _ => ⟨_, _, rfl, rfl, ?_⟩⟩
    refine ⟨_, rfl, _, rfl, fun x dx nx ndx ne => ⟨x, dx, at_, 1 + au0, rfl, upd_same, ub (a := 200) (by omega) (by decide), fun _ H4 X1 hk1 => ⟨rfl, ?_⟩, fun h => absurd h (by omega)⟩⟩
    have hP4 := hP3.same (made nx ndx hk1)
    refine ⟨_, rfl, p, 9, rfl, hP4, by decide, by decide, fun r H5 r0 r1 hP5 k5 => ⟨_, _, rfl, rfl, fun y dy ny ndy ney => ⟨y, dy, 0, 1 + r, rfl, upd_same, ub (a := 200) (by omega) (by decide), fun _ H6 Y1 hk2 => ⟨rfl, ?_⟩, fun h => absurd h (by omega)⟩⟩⟩
    have hx : RatAt C H4 x (nT at_ (1 + au0)) (nU at_ (1 + au0)) := ⟨dx, X1⟩
    have hx := (hx.keep k5 (hx.ne_pool hP4)).same (made ny ndy hk2)
    rw [(n_zero (show 1 + r ≠ 0 by omega)).1, (n_zero (show 1 + r ≠ 0 by omega)).2] at Y1
    obtain ⟨au, hau⟩ : ∃ au, au = 1 + au0 := ⟨_, rfl⟩
    rw [← hau] at hx
    have nau : au ≠ 0 := by omega
    have ba : at_.natAbs < 2 ^ 200 := by omega
    have bb : au.natAbs < 2 ^ 200 := by omega
    have one : (1 : Int).natAbs < 2 ^ 200 := by decide +kernel
    have sk : Sk (nT at_ au) (nU at_ au) 0 1 := ⟨ub (Nat.lt_of_le_of_lt (nT_le nau) ba) (by decide), ub (Nat.lt_of_le_of_lt (nU_le nau) bb) (by decide), (show (0 : Int).natAbs < 2 ^ 700 by decide +kernel), ub one (by decide), nU_pos nau, by decide⟩
    have up : (2 : Nat) ^ 200 ≤ 10 ^ 124 := by decide +kernel
    have dv : Dv at_ au 1 1 := ⟨ub ba (by decide), ub bb (by decide), ub one (by decide), ub one (by decide), by omega, by decide, by decide, Nat.lt_of_le_of_lt (nU_le nau) (Nat.lt_of_lt_of_le bb up),
      Nat.lt_of_le_of_lt (nU_le (by omega)) (by rw [Int.mul_one]; exact Nat.lt_of_lt_of_le bb up), fun k => Nat.lt_of_le_of_lt (nU_le (by omega)) (by rw [Int.mul_one]; exact Nat.lt_of_lt_of_le bb up)⟩
    refine ⟨3, rfl, by decide, by decide, for_range (n := 3) (fun _ σ' H' => Same H6 H' ∧ ∃ v : Option V, σ' = [some (.ref (p : Addr)), some (.int at_), some (.int (1 + au0)), some (.ref x), some (.ref y), v])
      ⟨Same.refl _, none, rfl⟩ ?_ ?_⟩
    · rintro i σ' H7 hi ⟨s7, v, rfl⟩
      · refine ⟨_, rfl, _, rfl, x, .int 0, _, _, 1, _, rfl, hx.same s7, .inl ⟨rfl, rfl⟩, sk, fun tp H8 s8 htp => ?_⟩
        refine ⟨(by show 3 ≤ sizeLine; decide), fun tq htq => ?_⟩
        refine ⟨.tuple [.bool true, .bool true, .bool false], .tuple [.bool true, .bool true, .bool false], .tup (SqT.of (same_upd htq _ _ htp)) (.cons (.bl _) (.cons (.bl _) (.cons (.bl _) .nil))), .tup (SqT.of upd_same) (.cons (.bl _) (.cons (.bl _) (.cons (.bl _) .nil))), rfl, rfl, ?_⟩
        rw [SeqAt.eqv_refl _ rfl]
        refine ⟨_, rfl, iteF ?_⟩
        have s9 := (s7.trans s8).trans (same_upd (o := .tup [.bl true, .bl true, .bl false]) htq)
        refine ⟨_, rfl, _, rfl, _, rfl, x, .ref y, _, _, 1, _, rfl, hx.same s9, .inr ⟨y, rfl, dy, s9 _ _ Y1⟩, sk, fun tp2 H9 s10 htp2 => ?_⟩
        refine ⟨(by show 3 ≤ sizeLine; decide), fun tq htq => ?_⟩
        refine ⟨.tuple [.bool true, .bool true, .bool false], .tuple [.bool true, .bool true, .bool false], .tup (SqT.of (same_upd htq _ _ htp2)) (.cons (.bl _) (.cons (.bl _) (.cons (.bl _) .nil))), .tup (SqT.of upd_same) (.cons (.bl _) (.cons (.bl _) (.cons (.bl _) .nil))), rfl, rfl, ?_⟩
        rw [SeqAt.eqv_refl _ rfl]
        refine ⟨_, rfl, iteF ?_⟩
        exact ⟨(s9.trans s10).trans (same_upd htq), _, rfl⟩
    rintro σ' H7 ⟨s7, v, rfl⟩
    rw [← hau]
    exact ⟨_, rfl, _, rfl, _, rfl, x, .int 1, at_, au, 1, 1, rfl, hx.same s7, .inl ⟨by rw [(n_one 1).1], (n_one 1).2⟩, dv, fun H' _ => k H'⟩
def spLaw (K : PySem.W.Frag) : Sp := fun vs H Q _ => ∃ (a : Addr) (ns : List Int), vs = [.ref a] ∧ SqL K H a (ns.map V.int) ∧ ns.length ≤ 63 ∧ ∀ H', Q (.bl true) H'
theorem ok_law {C ZU fA fFl fCe : Addr} {fd dFl dCe : FuncData} (B : Blt mg) (T : RatC K mg C) (F : Fun K "law" "law" s_law fA fd) (M2 : CalRatio P w K mg base C ZU []) (C_pool : CalPool P w K mg base) (C_draw : CalDraw P w K mg base) (C_any : CalAny P w K mg base) (C_either : CalEither P w K mg base) (C_whole : CalWhole P w K mg base)
    (C_exact : CalExact P w K mg base C) (C_between : CalBetween P w K mg base) (C_zero : CalZero P w K mg base) (C_divided : CalDiv P w K mg base C)
    (mFl : Meth K C "floor" fFl) (FFl : FnOk P w K mg base CX0 1 fFl dFl ["self"] (spFloor C)) (bFl : Binds K dFl ["self"] []) (mCe : Meth K C "ceiling" fCe) (FCe : FnOk P w K mg base CX0 1 fCe dCe ["self"] (spCeil C)) (bCe : Binds K dCe ["self"] []) : FnOk P w K mg base CX0 9 fA fd ["_law_script"] (spLaw K) := by
  refine F.ok sc_law (fun vs H Q E h => ?_) (fun cdv A outer st H vs Q E hr h => ?_)
  · obtain ⟨a, ns, rfl, _⟩ := h
    rfl
  · obtain ⟨a, ns, rfl, hS, hl, k⟩ := h
    refine ⟨_, (pss_cons (ps_set (i := 1) sc_law.nd rfl (Or.inl rfl) (pe_cal C_pool (hr.mono (by decide)) (pa_cons (pv 0) pa_nil)))
      (pss_cons (ps_if (pt_cmpR op_eq (pe_cal C_draw (hr.mono (by decide)) (pa_cons (pv 1) (pa_cons (pe_int) pa_nil))) (pe_int) (nomark _)) (pss_one (ps_ret (pe_cal C_zero (hr.mono (by decide)) (pa_cons (pv 1) pa_nil)))) pss_nil)
      (pss_cons (ps_set (i := 2) sc_law.nd rfl (Or.inl rfl) (pe_op op_add (pe_int) (pe_cal C_any (hr.mono (by decide)) (pa_cons (pv 1) pa_nil))))
      (Evl.pss_cut (ps_if (pt_cmpR op_eq (pe_cal C_draw (hr.mono (by decide)) (pa_cons (pv 1) (pa_cons (pe_int) pa_nil))) (pe_int) (nomark _)) (pss_one (ps_set (i := 2) sc_law.nd rfl (Or.inl rfl) (pe_un un_neg (pv 2)))) pss_nil)
      (pss_cons (ps_set (i := 3) sc_law.nd rfl (Or.inl rfl) (pe_op op_add (pe_int) (pe_cal C_any (hr.mono (by decide)) (pa_cons (pv 1) pa_nil))))
      (pss_cons (ps_set (i := 4) sc_law.nd rfl (Or.inl rfl) (pe_mk M2 (hr.mono (by decide)) (pa_cons (pv 2) (pa_cons (pv 3) pa_nil))))
      (Evl.pss_cut (ps_if (pt_cmpR op_eq (pe_cal C_draw (hr.mono (by decide)) (pa_cons (pv 1) (pa_cons (pe_int) pa_nil))) (pe_int) (nomark _)) (pss_cons (ps_set (i := 3) sc_law.nd rfl (Or.inl rfl) (pe_int))
      (pss_one (ps_set (i := 4) sc_law.nd rfl (Or.inl rfl) (pv 2)))) pss_nil)
      (pss_cons (ps_set (i := 5) sc_law.nd rfl (Or.inl rfl) (pe_cal C_draw (hr.mono (by decide)) (pa_cons (pv 1) (pa_cons (pe_int) pa_nil))))
      (pss_cons (ps_set (i := 6) sc_law.nd rfl (Or.inl rfl) (pe_cal C_either (hr.mono (by decide)) (pa_cons (pv 1) pa_nil)))
      (pss_cons (ps_set (i := 7) sc_law.nd rfl (Or.inl rfl) (pe_op op_add (pe_int) (pe_cal C_any (hr.mono (by decide)) (pa_cons (pv 1) pa_nil))))
      (Evl.pss_cut (ps_if (pt_cmpR op_eq (pv 5) (pe_int) (nomark _)) (pss_cons (ps_set (i := 6) sc_law.nd rfl (Or.inl rfl) (pe_op op_mulW (pv 2) (pv 6)))
      (pss_one (ps_set (i := 7) sc_law.nd rfl (Or.inl rfl) (pv 3)))) pss_nil)
      (Evl.pss_cut (ps_if (pt_cmpR op_gt (pv 5) (pe_int) (nomark _)) (pss_cons (ps_set (i := 6) sc_law.nd rfl (Or.inl rfl) (pe_op op_sub (pe_op op_add (pe_op op_mulW (pe_op op_mulW (pv 2) (pv 6)) (pv 7)) (pe_op op_mulW (pe_int) (pv 5))) (pe_int)))
      (pss_one (ps_set (i := 7) sc_law.nd rfl (Or.inl rfl) (pe_op op_mulW (pv 3) (pv 7))))) pss_nil)
      (pss_cons (ps_set (i := 8) sc_law.nd rfl (Or.inl rfl) (pe_mk M2 (hr.mono (by decide)) (pa_cons (pv 6) (pa_cons (pv 7) pa_nil))))
      (pss_cons (ps_if (PW.pt (pw_or (pt_not (pt_val (pe_cal C_exact (hr.mono (by decide)) (pa_cons (pv 8) (pa_cons (pv 6) (pa_cons (pv 7) pa_nil)))))) (pw_or1 (pt_not (pt_val (pe_cal C_divided (hr.mono (by decide)) (pa_cons (pv 8) (pa_cons (pv 4) (pa_cons (pv 6) (pa_cons (pv 7) (pa_cons (pv 2) (pa_cons (pv 3) pa_nil)))))))))))) (pss_one (ps_ret (pe_bl))) pss_nil)
      (pss_cons (ps_set (i := 9) sc_law.nd rfl (Or.inl rfl) (pe_meth0 (pv 8) T.cl mFl FFl (hr.mono (by decide)) bFl .nil pass0))
      (pss_cons (ps_set (i := 10) sc_law.nd rfl (Or.inl rfl) (pe_meth0 (pv 8) T.cl mCe FCe (hr.mono (by decide)) bCe .nil pass0))
      (pss_cons (ps_if (PW.pt (pw_or (pt_not (pt_val (pe_cal C_between (hr.mono (by decide)) (pa_cons (pv 9) (pa_cons (pv 6) (pa_cons (pv 7) pa_nil)))))) (pw_or1 (pt_not (pt_val (pe_cal C_whole (hr.mono (by decide)) (pa_cons (pv 10) pa_nil))))))) (pss_one (ps_ret (pe_bl))) pss_nil)
      (pss_cons (ps_if (PW.pt (pw_or (pt_cmpR op_ge (pe_op op_mulW (pe_op op_sub (pv 10) (pe_int)) (pv 7)) (pv 6) (nomark _)) (pw_or1 (pt_cmpR op_gt (pv 6) (pe_op op_mulW (pv 10) (pv 7)) (nomark _))))) (pss_one (ps_ret (pe_bl))) pss_nil)
      (pss_cons (ps_if (PW.pt (pw_and (pt_val (pe_callB call_isi (by rfl) B.isinstance (by decide +kernel) (pa_cons (pv 4) (pa_cons (pe_glob (v := .ref _) (by rfl) T.g rfl) pa_nil)))) (pw_and1 (pt_not (pt_val (pe_cal C_exact (hr.mono (by decide)) (pa_cons (pv 4) (pa_cons (pv 2) (pa_cons (pv 3) pa_nil))))))))) (pss_one (ps_ret (pe_bl))) pss_nil)
      (pss_one (ps_ret (pe_cal C_exact (hr.mono (by decide)) (pa_cons (pv 8) (pa_cons (pv 6) (pa_cons (pv 7) pa_nil))))))))))))))))))))))))), ?_⟩
    refine ⟨_, rfl, a, ns, rfl, hS, hl, fun p H1 s1 np nq hP1 => ?_⟩
    refine ⟨_, rfl, p, 8, rfl, hP1, by decide, by decide, fun r8 H2 _ _ hP2 _ => ?_⟩
    walk_at "go"
    walk_at "if"
    · intro _
      exact ⟨_, rfl, p, rfl, hP2, fun H' => k H'⟩
    intro _
    refine ⟨_, rfl, p, rfl, hP2, fun bt0 H3 b0 b1 hP3 _ => ⟨_, _, rfl, rfl, ?_⟩⟩
    refine ⟨fun σ' H' => ∃ bt : Int, σ' = [some (.ref a), some (.ref (p : Addr)), some (.int bt), none, none, none, none, none, none, none, none] ∧ bt ≠ 0 ∧ bt.natAbs < 2 ^ 200 ∧ Pool H' p, ?_, ?_⟩
    · refine ⟨_, rfl, p, 2, rfl, hP3, by decide, by decide, fun r H4 _ _ hP4 _ => ?_⟩
      walk_at "go"
      walk_at "if"
      · intro _
        exact ⟨_, rfl, _, rfl, -(1 + bt0), rfl, by omega, by omega, hP4⟩
      · intro _
        exact ⟨1 + bt0, rfl, by omega, by omega, hP4⟩
    rintro σ' H4 ⟨bt, rfl, nbt, hbt, hP4⟩
    refine ⟨_, rfl, p, rfl, hP4, fun bu0 H5 c0 c1 hP5 _ => ⟨_, _, rfl, rfl, ?_⟩⟩
    refine ⟨_, rfl, _, rfl, fun y dy ny ndy ney => ⟨y, dy, bt, 1 + bu0, rfl, upd_same, ub (a := 200) (by omega) (by decide), fun _ H6 Y1 hk1 => ⟨rfl, ?_⟩, fun h => absurd h (by omega)⟩⟩
    have hP6 := hP5.same (made ny ndy hk1)
    refine ⟨fun σ' H' => ∃ (bu : Int) (v : V), σ' = [some (.ref a), some (.ref (p : Addr)), some (.int bt), some (.int bu), some v, none, none, none, none, none, none] ∧ 0 < bu ∧ bu.natAbs < 2 ^ 200 ∧ Num C H' v (nT bt bu) (nU bt bu) ∧ Pool H' p, ?_, ?_⟩
    · refine ⟨_, rfl, p, 3, rfl, hP6, by decide, by decide, fun r H7 _ _ hP7 k7 => ?_⟩
      walk_at "go"
      walk_at "if"
      · intro _
        exact ⟨_, rfl, 1, .int bt, rfl, by decide, (by decide +kernel), .inl ⟨by rw [(n_one bt).1], (n_one bt).2⟩, hP7⟩
      · intro _
        exact ⟨1 + bu0, .ref y, rfl, by omega, by omega, (Num.keep (.inr ⟨y, rfl, dy, Y1⟩) hP6 k7), hP7⟩
    rintro σ' H7 ⟨bu, v, rfl, pbu, hbu, hv, hP7⟩
    refine ⟨_, rfl, p, 4, rfl, hP7, by decide, by decide, fun way H8 w0 w1 hP8 k8 => ?_⟩
    refine ⟨_, rfl, p, rfl, hP8, fun at0 H9 a0 a1 hP9 k9 => ?_⟩
    refine ⟨_, rfl, p, rfl, hP9, fun au0 H10 d0 d1 hP10 k10 => ⟨_, _, rfl, rfl, ?_⟩⟩
    have hv := ((hv.keep hP7 k8).keep hP8 k9).keep hP9 k10
    refine ⟨fun σ' H' => ∃ at1 au1 : Int, σ' = [some (.ref a), some (.ref (p : Addr)), some (.int bt), some (.int bu), some v, some (.int way), some (.int at1), some (.int au1), none, none, none] ∧ H' = H10 ∧ 0 < au1 ∧ au1.natAbs < 2 ^ 200 ∧ at1.natAbs < 2 ^ 400 ∧ (way = 1 ∨ at1.natAbs < 2 ^ 200), ?_, ?_⟩
    · walk_at "go"
      walk_at "if"
      · intro hw
        exact ⟨_, rfl, _, rfl, _, _, rfl, rfl, wm (ub hbt (by decide)) (ub (a := 200) (show at0.natAbs < 2 ^ 200 by omega) (by decide)), _, rfl, bt * at0, bu, rfl, rfl, pbu, hbu, wide_lt hbt (show at0.natAbs < 2 ^ 200 by omega), .inl hw⟩
      · intro hw
        exact ⟨at0, 1 + au0, rfl, rfl, by omega, by omega, ub (a := 200) (by omega) (by decide), .inr (by omega)⟩
    rintro σ' H10 ⟨at1, au1, rfl, rfl, pau1, hau1, hat1, hw1⟩
    have up : (2 : Nat) ^ (200 + 200) ≤ 10 ^ 124 := by decide +kernel
    have nbu : bu ≠ 0 := by omega
    have nau1 : au1 ≠ 0 := by omega
    have nab1 : au1 * bt ≠ 0 := fun e => by
      rcases Int.mul_eq_zero.mp e with e | e
      · exact nau1 e
      · exact nbt e
    have b1 : (au1 * bt).natAbs < 10 ^ 124 := Nat.lt_of_lt_of_le (wide_lt hau1 hbt) up
    have b2 : (au1 * bu).natAbs < 10 ^ 124 := Nat.lt_of_lt_of_le (wide_lt hau1 hbu) up
    have n2 : au1 * bu ≠ 0 := Int.ne_of_gt (Int.mul_pos pau1 pbu)
    have b3 : (bu * au1).natAbs < 10 ^ 124 := Nat.lt_of_lt_of_le (wide_lt hbu hau1) up
    have n3 : bu * au1 ≠ 0 := Int.ne_of_gt (Int.mul_pos pbu pau1)
    refine ⟨fun σ' H' => ∃ at_ au : Int, σ' = [some (.ref a), some (.ref (p : Addr)), some (.int bt), some (.int bu), some v, some (.int way), some (.int at_), some (.int au), none, none, none] ∧ H' = H10 ∧ Dv at_ au bt bu, ?_, ?_⟩
    · walk_at "go"
      walk_at "if"
      · intro hw
        have hat := hw1.resolve_left (by omega)
        have h1 : (bt * at1).natAbs < 2 ^ (200 + 200) := wide_lt hbt hat
        have h2 : (bt * at1 * au1).natAbs < 2 ^ (200 + 200 + 200) := wide_lt h1 hau1
        have h3 : (bt * at1 * au1 + 2 * way - 5).natAbs < 2 ^ 650 := by
          have : (2 : Nat) ^ 650 = 2 ^ 50 * 2 ^ (200 + 200 + 200) := by rw [← Nat.pow_add]
          have : (0 : Nat) < 2 ^ (200 + 200 + 200) := Nat.pow_pos (by decide)
          have : (100 : Nat) ≤ 2 ^ (200 + 200 + 200) := Nat.le_trans (show 100 ≤ 2 ^ 7 by decide) (Nat.pow_le_pow_right (by decide) (by decide))
          generalize bt * at1 * au1 = z at *
          generalize 2 ^ (200 + 200 + 200) = w at *
          omega
        refine ⟨_, rfl, _, rfl, _, _, rfl, rfl, wm (ub hbt (by decide)) (ub hat (by decide)), _, rfl, _, _, rfl, rfl, wm (ub h1 (by decide)) (ub hau1 (by decide)), ?_⟩
        refine ⟨_, rfl, _, _, rfl, rfl, wm (show (2 : Int).natAbs < 2 ^ 3000 by decide +kernel) (ub (a := 10) (show way.natAbs < 2 ^ 10 by omega) (by decide)), _, _, rfl, rfl, _, _, rfl, rfl, ?_⟩
        refine ⟨_, rfl, _, rfl, _, _, rfl, rfl, wm (ub hbu (by decide)) (ub hau1 (by decide)), ?_⟩
        refine ⟨bt * at1 * au1 + 2 * way - 5, bu * au1, rfl, rfl, h3, ub (wide_lt hbu hau1) (by decide), ub hbt (by decide), ub hbu (by decide), Int.mul_pos pbu pau1, pbu, nbt, Nat.lt_of_le_of_lt (nU_le n3) b3, ?_, fun k => ?_⟩
        · generalize bt * at1 * au1 + 2 * way - 5 = z
          exact nU_bd (n' := z) (m' := au1 * bt) (fun e => by
            rcases Int.mul_eq_zero.mp e with e | e
            · exact n3 e
            · exact nbt e) nab1 (by grind) b1
        · generalize bt * at1 * au1 + 2 * way - 5 = z
          exact nU_bd (n' := z - bt * k * au1) (m' := au1 * bu) (Int.ne_of_gt (Int.mul_pos (Int.mul_pos pbu pau1) pbu)) n2 (by grind) b2
      · intro hw
        exact ⟨at1, au1, rfl, rfl, ub hat1 (by decide), ub hau1 (by decide), ub hbt (by decide), ub hbu (by decide), pau1, pbu, nbt, Nat.lt_of_le_of_lt (nU_le nau1) (Nat.lt_of_lt_of_le hau1 (Nat.le_trans (Nat.pow_le_pow_right (by decide) (by decide)) up)), Nat.lt_of_le_of_lt (nU_le nab1) b1, fun k => Nat.lt_of_le_of_lt (nU_le n2) b2⟩
    rintro σ' H10 ⟨at_, au, rfl, rfl, dv⟩
    have nau : au ≠ 0 := by have := dv.ap; omega
    refine ⟨_, rfl, _, rfl, fun x dx nx ndx ne => ⟨x, dx, at_, au, rfl, upd_same, ub dv.b (by decide), fun _ H11 X1 hk2 => ⟨rfl, ?_⟩, fun h => absurd h nau⟩⟩
    have hv := hv.same (made nx ndx hk2)
    have hx : RatAt C H11 x (nT at_ au) (nU at_ au) := ⟨dx, X1⟩
    have b0 : (nT bt bu).natAbs < 2 ^ 200 := Nat.lt_of_le_of_lt (nT_le nbu) hbt
    refine ⟨_, rfl, _, rfl, _, rfl, x, at_, au, rfl, hx, dv.ap, dv.d1, ub dv.a (by decide), ub dv.b (by decide), _, rfl, iteF ?_⟩
    refine ⟨_, rfl, _, rfl, _, rfl, _, rfl, _, rfl, _, rfl, x, v, at_, au, bt, bu, rfl, hx, hv, dv, fun H12 s12 => ⟨_, rfl, iteF ?_⟩⟩
    have X1 := s12 _ _ X1
    have hx := hx.same s12
    have hv := hv.same s12
    have E1 := nT_mul at_ au
    have E2 := nU_mul at_ au
    have pq := nU_pos (t := at_) nau
    have bq : (nU at_ au).natAbs < 2 ^ 3000 := ub (Nat.lt_of_le_of_lt (nU_le nau) dv.b) (by decide)
    have bp : (nT at_ au).natAbs < 2 ^ 650 := Nat.lt_of_le_of_lt (nT_le nau) dv.a
    have nq0 : nU at_ au ≠ 0 := by omega
    have pg : 0 < sh at_ au := by
      rcases (by omega : sh at_ au ≤ 0 ∨ 0 < sh at_ au) with h | h
      · have := Int.mul_nonneg (a := nU at_ au) (b := -sh at_ au) (by omega) (by omega)
        rw [Int.mul_neg, E2] at this
        have := dv.ap
        omega
      · exact h
    have lo := fd_bt (x := nT at_ au) (d := nU at_ au) (G := sh at_ au) pg dv.ap (.inl ⟨E1.symm, E2.symm⟩)
    have hi := fd_bt (x := -nT at_ au) (d := nU at_ au) (G := sh at_ au) (N := -at_) pg dv.ap (.inl ⟨by rw [Int.neg_mul, E1], E2.symm⟩)
    have bl := Nat.lt_of_le_of_lt (fdiv_bd (x := nT at_ au) nq0) bp
    have bh := Nat.lt_of_le_of_lt (fdiv_bd (x := -nT at_ au) nq0) (by rw [Int.natAbs_neg]; exact bp)
    refine ⟨_, rfl, x, dx, _, rfl, X1, rf_no _ _ (by decide +kernel) (by decide +kernel), x, _, _, rfl, hx, pq, bq, ?_⟩
    refine ⟨_, rfl, x, dx, _, rfl, X1, rf_no _ _ (by decide +kernel) (by decide +kernel), x, _, _, rfl, hx, pq, bq, ?_⟩
    generalize (nT at_ au).fdiv (nU at_ au) = lw at *
    generalize (-nT at_ au).fdiv (nU at_ au) = cc at *
    refine ⟨_, rfl, _, rfl, _, rfl, lw, at_, au, rfl, ub bl (by decide), ub dv.b (by decide), lo.1, lo.2, _, rfl, iteF ?_⟩
    refine ⟨_, rfl, _, rfl, _, rfl, iteF ?_⟩
    have bcm : (-cc - 1).natAbs < 2 ^ 3000 := by
      have : (2 : Nat) ^ 651 = 2 * 2 ^ 650 := Nat.pow_succ' ..
      refine ub (a := 651) ?_ (by decide)
      rw [this]
      generalize 2 ^ 650 = z at *
      omega
    have bcn : (-cc).natAbs < 2 ^ 3000 := by
      rw [Int.natAbs_neg]
      exact ub bh (by decide)
    have f1 : (-cc - 1) * au = -((cc + 1) * au) := by grind
    have f2 : -cc * au = -(cc * au) := Int.neg_mul ..
    refine ⟨_, rfl, _, _, rfl, rfl, _, rfl, _, _, rfl, rfl, wm bcm (ub dv.b (by decide)), _, rfl, _, _, rfl, rfl, _, rfl, ?_⟩
    rw [decide_eq_false (show ¬ at_ ≤ (-cc - 1) * au by rw [f1]; omega)]
    refine iteF ?_
    refine ⟨_, rfl, _, rfl, _, rfl, _, _, rfl, rfl, wm bcn (ub dv.b (by decide)), _, _, rfl, rfl, _, rfl, ?_⟩
    rw [decide_eq_false (show ¬ -cc * au < at_ by rw [f2]; omega)]
    refine iteF ?_
    have last : (nU bt bu).natAbs < 10 ^ 124 := Nat.lt_of_le_of_lt (nU_le nbu) (Nat.lt_of_lt_of_le hbu (Nat.le_trans (Nat.pow_le_pow_right (by decide) (by decide)) up))
    rcases hv with ⟨rfl, _⟩ | ⟨y, rfl, dy, hy⟩
    · refine ⟨_, rfl, _, _, _, _, false, rfl, .own _, .base (.int _), T.ki, _, rfl, iteF ?_⟩
      exact ⟨_, rfl, _, rfl, _, rfl, x, at_, au, rfl, hx, dv.ap, dv.d1, ub dv.a (by decide), ub dv.b (by decide), k _⟩
    · refine ⟨_, rfl, _, _, _, _, true, rfl, .own _, T.tyX hy, kit_self _, _, rfl, iteT ?_⟩
      refine ⟨_, rfl, _, rfl, _, rfl, y, bt, bu, rfl, ⟨dy, hy⟩, pbu, last, ub hbt (by decide), ub hbu (by decide), _, rfl, iteF ?_⟩
      exact ⟨_, rfl, _, rfl, _, rfl, x, at_, au, rfl, hx, dv.ap, dv.d1, ub dv.a (by decide), ub dv.b (by decide), k _⟩
end
end L

set_option Elab.async false
set_option linter.all false
set_option maxRecDepth 100000
set_option maxHeartbeats 4000000
set_option pp.maxSteps 160
set_option pp.deepTerms false
namespace L
open PySem PySem.Spec PyProof.Rows L2 Fl
local macro_rules | `(tactic| walk_at "side") => `(tactic| first | (exact .inl ⟨by omega, by omega⟩) | (exact .inr ⟨by omega, by omega⟩) | (exact .inr ⟨by decide, by decide⟩) | (show (_ : Int) ≠ _; omega) | (exact ⟨by omega, by decide⟩) | (exact ⟨by decide, by decide, by decide⟩))
local macro_rules | `(tactic| walk_at "go") => `(tactic| repeat (first | refine ⟨_, rfl, ?_⟩ | refine ⟨_, _, rfl, rfl, ?_⟩ | refine .inl ⟨_, rfl, ?_⟩ | refine ⟨rfl, ?_⟩ | refine ⟨(by walk_at "side"), ?_⟩))
local macro_rules | `(tactic| walk_at "see") => `(tactic| (set_option pp.maxSteps 110 in set_option pp.deepTerms false in trace_state))
local macro_rules | `(tactic| walk_at "if") => `(tactic| first | refine ifE ?_ ?_ | refine ifNE ?_ ?_ | refine ifD ?_ ?_ | refine ifN ?_ ?_ | refine ifB ?_ ?_)
section
variable {P : Program} {w : World} {K : PySem.W.Frag} {mg : Str → Option Value} {base : Heap}
end

theorem kit_type {K : PySem.W.Frag} {t : Addr} {n : String} {b : Bool} (hk : PySem.W.kitMeta n = true) (hs : PySem.W.subIn K (.ref t) (.type n) = some b) : PySem.W.kitOne K (.ref t) (.type n) = some b := by
  unfold PySem.W.kitOne
  rw [if_neg (by intro h; cases beq_iff_eq.mp h)]
  show (if PySem.W.kitMeta n = true then PySem.W.subIn K (.ref t) (.type n) else none) = some b
  rw [if_pos hk]
  exact hs
theorem all_mk {l : PySem.W.OpenLaw} {w : World} {K : PySem.W.Frag} {h : Heap} {mg : Str → Option Value} {fa : Addr} (X : K.In h) (G : h.Ns mainGlobals mg) (hfa : mg "law" = some (.ref fa))
    {C : Addr} {fRatio_init tD : Addr} {ocRatio_init kVRatio_init dcRatio_init pmRatio_init cdRatio_init ctRatio_init : Value} {odRatio_init anRatio_init : Option Addr} {slRatio_init : Array (Option Value)} {ocD : Value} {odD : Option Addr} {tkD : Tok} {nD : Nat} {slD : Array (Option Value)} {ZU : Addr} {LE : Addr} {BN : Addr} {fRatio_mul : Addr} {ocRatio_mul kVRatio_mul dcRatio_mul pmRatio_mul cdRatio_mul ctRatio_mul : Value} {odRatio_mul anRatio_mul : Option Addr} {slRatio_mul : Array (Option Value)} {fRatio_rmul : Addr} {ocRatio_rmul kVRatio_rmul dcRatio_rmul pmRatio_rmul cdRatio_rmul ctRatio_rmul : Value} {odRatio_rmul anRatio_rmul : Option Addr} {slRatio_rmul : Array (Option Value)} {fRatio_sub : Addr} {ocRatio_sub kVRatio_sub dcRatio_sub pmRatio_sub cdRatio_sub ctRatio_sub : Value} {odRatio_sub anRatio_sub : Option Addr} {slRatio_sub : Array (Option Value)} {fRatio_floordiv : Addr} {ocRatio_floordiv kVRatio_floordiv dcRatio_floordiv pmRatio_floordiv cdRatio_floordiv ctRatio_floordiv : Value} {odRatio_floordiv anRatio_floordiv : Option Addr} {slRatio_floordiv : Array (Option Value)} {fRatio_mod : Addr} {ocRatio_mod kVRatio_mod dcRatio_mod pmRatio_mod cdRatio_mod ctRatio_mod : Value} {odRatio_mod anRatio_mod : Option Addr} {slRatio_mod : Array (Option Value)} {fRatio_over : Addr} {ocRatio_over kVRatio_over dcRatio_over pmRatio_over cdRatio_over ctRatio_over : Value} {odRatio_over anRatio_over : Option Addr} {slRatio_over : Array (Option Value)} {fRatio_floor : Addr} {ocRatio_floor kVRatio_floor dcRatio_floor pmRatio_floor cdRatio_floor ctRatio_floor : Value} {odRatio_floor anRatio_floor : Option Addr} {slRatio_floor : Array (Option Value)} {fRatio_ceiling : Addr} {ocRatio_ceiling kVRatio_ceiling dcRatio_ceiling pmRatio_ceiling cdRatio_ceiling ctRatio_ceiling : Value} {odRatio_ceiling anRatio_ceiling : Option Addr} {slRatio_ceiling : Array (Option Value)} {grfloordiv : Addr} {grmod : Addr} {fpool : Addr} {ocpool kVpool dcpool pmpool cdpool ctpool : Value} {odpool anpool : Option Addr} {slpool : Array (Option Value)} {fmix : Addr} {ocmix kVmix dcmix pmmix cdmix ctmix : Value} {odmix anmix : Option Addr} {slmix : Array (Option Value)} {fdraw : Addr} {ocdraw kVdraw dcdraw pmdraw cddraw ctdraw : Value} {oddraw andraw : Option Addr} {sldraw : Array (Option Value)} {fwide : Addr} {ocwide kVwide dcwide pmwide cdwide ctwide : Value} {odwide anwide : Option Addr} {slwide : Array (Option Value)} {fany : Addr} {ocany kVany dcany pmany cdany ctany : Value} {odany anany : Option Addr} {slany : Array (Option Value)} {fsigned : Addr} {ocsigned kVsigned dcsigned pmsigned cdsigned ctsigned : Value} {odsigned ansigned : Option Addr} {slsigned : Array (Option Value)} {feither : Addr} {oceither kVeither dceither pmeither cdeither cteither : Value} {odeither aneither : Option Addr} {sleither : Array (Option Value)} {fgcd : Addr} {ocgcd kVgcd dcgcd pmgcd cdgcd ctgcd : Value} {odgcd angcd : Option Addr} {slgcd : Array (Option Value)} {fwhole : Addr} {ocwhole kVwhole dcwhole pmwhole cdwhole ctwhole : Value} {odwhole anwhole : Option Addr} {slwhole : Array (Option Value)} {fratio : Addr} {ocratio kVratio dcratio pmratio cdratio ctratio : Value} {odratio anratio : Option Addr} {slratio : Array (Option Value)} {fexact : Addr} {ocexact kVexact dcexact pmexact cdexact ctexact : Value} {odexact anexact : Option Addr} {slexact : Array (Option Value)} {frefused : Addr} {ocrefused kVrefused dcrefused pmrefused cdrefused ctrefused : Value} {odrefused anrefused : Option Addr} {slrefused : Array (Option Value)} {fbetween : Addr} {ocbetween kVbetween dcbetween pmbetween cdbetween ctbetween : Value} {odbetween anbetween : Option Addr} {slbetween : Array (Option Value)} {fdivided : Addr} {ocdivided kVdivided dcdivided pmdivided cddivided ctdivided : Value} {oddivided andivided : Option Addr} {sldivided : Array (Option Value)} {fzero : Addr} {oczero kVzero dczero pmzero cdzero ctzero : Value} {odzero anzero : Option Addr} {slzero : Array (Option Value)} {fis_number : Addr} {ocis_number kVis_number dcis_number pmis_number cdis_number ctis_number : Value} {odis_number anis_number : Option Addr} {slis_number : Array (Option Value)} {fas_ratio : Addr} {ocas_ratio kVas_ratio dcas_ratio pmas_ratio cdas_ratio ctas_ratio : Value} {odas_ratio anas_ratio : Option Addr} {slas_ratio : Array (Option Value)} {ftop_of : Addr} {octop_of kVtop_of dctop_of pmtop_of cdtop_of cttop_of : Value} {odtop_of antop_of : Option Addr} {sltop_of : Array (Option Value)} {funder_of : Addr} {ocunder_of kVunder_of dcunder_of pmunder_of cdunder_of ctunder_of : Value} {odunder_of anunder_of : Option Addr} {slunder_of : Array (Option Value)} {frounded_quotient : Addr} {ocrounded_quotient kVrounded_quotient dcrounded_quotient pmrounded_quotient cdrounded_quotient ctrounded_quotient : Value} {odrounded_quotient anrounded_quotient : Option Addr} {slrounded_quotient : Array (Option Value)} {fremainder : Addr} {ocremainder kVremainder dcremainder pmremainder cdremainder ctremainder : Value} {odremainder anremainder : Option Addr} {slremainder : Array (Option Value)} {flaw : Addr} {oclaw kVlaw dclaw pmlaw cdlaw ctlaw : Value} {odlaw anlaw : Option Addr} {sllaw : Array (Option Value)}
    (zlen : PySem.W.nsIn K mainGlobals "len" = some none)
    (zint : PySem.W.nsIn K mainGlobals "int" = some none)
    (zabs : PySem.W.nsIn K mainGlobals "abs" = some none)
    (zrange : PySem.W.nsIn K mainGlobals "range" = some none)
    (zisinstance : PySem.W.nsIn K mainGlobals "isinstance" = some none)
    (zmax : PySem.W.nsIn K mainGlobals "max" = some none)
    (zmin : PySem.W.nsIn K mainGlobals "min" = some none)
    (zsum : PySem.W.nsIn K mainGlobals "sum" = some none)
    (zstr : PySem.W.nsIn K mainGlobals "str" = some none)
    (zbool : PySem.W.nsIn K mainGlobals "bool" = some none)
    (zlist : PySem.W.nsIn K mainGlobals "list" = some none)
    (zValueError : PySem.W.nsIn K mainGlobals "ValueError" = some none)
    (aC : PySem.W.nsIn K mainGlobals "Ratio" = some (some (.ref C)))
    (pgC : PySem.W.plainGet K C Str.empty = true)
    (hdC : PySem.W.hasDictIn K C = true)
    (poC : PySem.W.plainOver K C = true)
    (saC : PySem.W.findIn K (.ref C) "__setattr__" = some (some (.builtin "object.__setattr__")))
    (mkC : PySem.W.makesIn K C = true)
    (kcC : PySem.W.keepIn K (.ref C) = true)
    (nTC : PySem.W.findIn K (.ref C) "top" = some none)
    (nUC : PySem.W.findIn K (.ref C) "under" = some none)
    (haC : PySem.W.findIn K (.ref C) "__class__" = some (some (.builtin "object.__class__")))
    (hnO : PySem.W.specialIn K (.builtin "object.__class__") "__get__" = some (some (.builtin "getset_descriptor.__get__")))
    (htO : PySem.W.takesIn K (.builtin "object.__class__") = some true)
    (hmC : PySem.W.mroIn K C (.type "object") = some true)
    (siC : PySem.W.subIn K (.type "int") (.ref C) = some false)
    (tyC : PySem.W.typeIn K (.ref C) = some (.type "type"))
    (aRatio_init : PySem.W.findIn K (.ref C) "__init__" = some (some (.ref fRatio_init)))
    (iRatio_init : PySem.W.isFn K (.ref fRatio_init) = true)
    (lRatio_init : K.lookup fRatio_init = some ⟨ocRatio_init, odRatio_init, .func (PySem.W.fnOf "__init__" "Ratio.__init__" (defArgs s_Ratio_init) (defBody s_Ratio_init) (defScope s_Ratio_init) (.ref tD) kVRatio_init dcRatio_init pmRatio_init anRatio_init cdRatio_init ctRatio_init), slRatio_init⟩)
    (cRatio_init : PySem.W.codeIn K cdRatio_init "Ratio.__init__" = true)
    (kRatio_init : PySem.W.keepIn K (.ref fRatio_init) = true)
    (lD : K.lookup tD = some ⟨ocD, odD, .seq #[.int 1 tkD] nD, slD⟩)
    (aGcd : PySem.W.nsIn K mainGlobals "gcd" = some (some (.builtin "math.gcd")))
    (aZU : PySem.W.nsIn K mainGlobals "ZeroUnder" = some (some (.ref ZU)))
    (xZU : PySem.W.excIn K ZU [.type "ValueError", .type "Exception", .type "BaseException", .type "object"] "ValueError.__new__" = true)
    (keZU : PySem.W.keepIn K (.ref ZU) = true)
    (beZU : PySem.W.subIn K (.ref ZU) (.type "BaseException") = some true)
    (teZU : PySem.W.typeIn K (.ref ZU) = some (.type "type"))
    (seZU : PySem.W.subIn K (.ref ZU) (.ref ZU) = some true)
    (geZU : PySem.W.findIn K (.ref ZU) "__getattribute__" = some (some (.builtin "BaseException.__getattribute__")))
    (ggZU : PySem.W.findIn K (.ref ZU) "__getattr__" = some none)
    (hdZU : PySem.W.hasDictIn K ZU = true)
    (hcZU : PySem.W.findIn K (.ref ZU) "__class__" = some (some (.builtin "object.__class__")))
    (hoZU : PySem.W.mroIn K ZU (.type "object") = some true)
    (veZU : PySem.W.subIn K (.ref ZU) (.type "ValueError") = some true)
    (aLE : PySem.W.nsIn K mainGlobals "LotError" = some (some (.ref LE)))
    (hdLE : PySem.W.hasDictIn K LE = true)
    (teLE : PySem.W.typeIn K (.ref LE) = some (.type "type"))
    (sZULE : PySem.W.subIn K (.ref ZU) (.ref LE) = some true)
    (aBN : PySem.W.nsIn K mainGlobals "BadNumber" = some (some (.ref BN)))
    (hdBN : PySem.W.hasDictIn K BN = true)
    (teBN : PySem.W.typeIn K (.ref BN) = some (.type "type"))
    (sZUBN : PySem.W.subIn K (.ref ZU) (.ref BN) = some false)
    (kmV : PySem.W.kitMeta "ValueError" = true)
    (ziMult : PySem.W.findIn K (.type "int") "__mul__" = some (some (.builtin "int.__mul__")))
    (zjMult : PySem.W.findIn K (.type "int") "__rmul__" = some (some (.builtin "int.__rmul__")))
    (ziFloorDiv : PySem.W.findIn K (.type "int") "__floordiv__" = some (some (.builtin "int.__floordiv__")))
    (zjFloorDiv : PySem.W.findIn K (.type "int") "__rfloordiv__" = some (some (.builtin "int.__rfloordiv__")))
    (ziMod : PySem.W.findIn K (.type "int") "__mod__" = some (some (.builtin "int.__mod__")))
    (zjMod : PySem.W.findIn K (.type "int") "__rmod__" = some (some (.builtin "int.__rmod__")))
    (hSF : PySem.W.selfFirst K C = true)
    (scI : PySem.W.subIn K (.ref C) (.type "int") = some false)
    (kmI : PySem.W.kitMeta "int" = true)
    (aRatio_mul : PySem.W.findIn K (.ref C) "__mul__" = some (some (.ref fRatio_mul)))
    (iRatio_mul : PySem.W.isFn K (.ref fRatio_mul) = true)
    (lRatio_mul : K.lookup fRatio_mul = some ⟨ocRatio_mul, odRatio_mul, .func (PySem.W.fnOf "__mul__" "Ratio.__mul__" (defArgs s_Ratio_mul) (defBody s_Ratio_mul) (defScope s_Ratio_mul) .none kVRatio_mul dcRatio_mul pmRatio_mul anRatio_mul cdRatio_mul ctRatio_mul), slRatio_mul⟩)
    (cRatio_mul : PySem.W.codeIn K cdRatio_mul "Ratio.__mul__" = true)
    (kRatio_mul : PySem.W.keepIn K (.ref fRatio_mul) = true)
    (aRatio_rmul : PySem.W.findIn K (.ref C) "__rmul__" = some (some (.ref fRatio_rmul)))
    (iRatio_rmul : PySem.W.isFn K (.ref fRatio_rmul) = true)
    (lRatio_rmul : K.lookup fRatio_rmul = some ⟨ocRatio_rmul, odRatio_rmul, .func (PySem.W.fnOf "__rmul__" "Ratio.__rmul__" (defArgs s_Ratio_rmul) (defBody s_Ratio_rmul) (defScope s_Ratio_rmul) .none kVRatio_rmul dcRatio_rmul pmRatio_rmul anRatio_rmul cdRatio_rmul ctRatio_rmul), slRatio_rmul⟩)
    (cRatio_rmul : PySem.W.codeIn K cdRatio_rmul "Ratio.__rmul__" = true)
    (kRatio_rmul : PySem.W.keepIn K (.ref fRatio_rmul) = true)
    (aRatio_sub : PySem.W.findIn K (.ref C) "__sub__" = some (some (.ref fRatio_sub)))
    (iRatio_sub : PySem.W.isFn K (.ref fRatio_sub) = true)
    (lRatio_sub : K.lookup fRatio_sub = some ⟨ocRatio_sub, odRatio_sub, .func (PySem.W.fnOf "__sub__" "Ratio.__sub__" (defArgs s_Ratio_sub) (defBody s_Ratio_sub) (defScope s_Ratio_sub) .none kVRatio_sub dcRatio_sub pmRatio_sub anRatio_sub cdRatio_sub ctRatio_sub), slRatio_sub⟩)
    (cRatio_sub : PySem.W.codeIn K cdRatio_sub "Ratio.__sub__" = true)
    (kRatio_sub : PySem.W.keepIn K (.ref fRatio_sub) = true)
    (aRatio_floordiv : PySem.W.findIn K (.ref C) "__floordiv__" = some (some (.ref fRatio_floordiv)))
    (iRatio_floordiv : PySem.W.isFn K (.ref fRatio_floordiv) = true)
    (lRatio_floordiv : K.lookup fRatio_floordiv = some ⟨ocRatio_floordiv, odRatio_floordiv, .func (PySem.W.fnOf "__floordiv__" "Ratio.__floordiv__" (defArgs s_Ratio_floordiv) (defBody s_Ratio_floordiv) (defScope s_Ratio_floordiv) .none kVRatio_floordiv dcRatio_floordiv pmRatio_floordiv anRatio_floordiv cdRatio_floordiv ctRatio_floordiv), slRatio_floordiv⟩)
    (cRatio_floordiv : PySem.W.codeIn K cdRatio_floordiv "Ratio.__floordiv__" = true)
    (kRatio_floordiv : PySem.W.keepIn K (.ref fRatio_floordiv) = true)
    (aRatio_mod : PySem.W.findIn K (.ref C) "__mod__" = some (some (.ref fRatio_mod)))
    (iRatio_mod : PySem.W.isFn K (.ref fRatio_mod) = true)
    (lRatio_mod : K.lookup fRatio_mod = some ⟨ocRatio_mod, odRatio_mod, .func (PySem.W.fnOf "__mod__" "Ratio.__mod__" (defArgs s_Ratio_mod) (defBody s_Ratio_mod) (defScope s_Ratio_mod) .none kVRatio_mod dcRatio_mod pmRatio_mod anRatio_mod cdRatio_mod ctRatio_mod), slRatio_mod⟩)
    (cRatio_mod : PySem.W.codeIn K cdRatio_mod "Ratio.__mod__" = true)
    (kRatio_mod : PySem.W.keepIn K (.ref fRatio_mod) = true)
    (aRatio_over : PySem.W.findIn K (.ref C) "over" = some (some (.ref fRatio_over)))
    (iRatio_over : PySem.W.isFn K (.ref fRatio_over) = true)
    (lRatio_over : K.lookup fRatio_over = some ⟨ocRatio_over, odRatio_over, .func (PySem.W.fnOf "over" "Ratio.over" (defArgs s_Ratio_over) (defBody s_Ratio_over) (defScope s_Ratio_over) .none kVRatio_over dcRatio_over pmRatio_over anRatio_over cdRatio_over ctRatio_over), slRatio_over⟩)
    (cRatio_over : PySem.W.codeIn K cdRatio_over "Ratio.over" = true)
    (kRatio_over : PySem.W.keepIn K (.ref fRatio_over) = true)
    (aRatio_floor : PySem.W.findIn K (.ref C) "floor" = some (some (.ref fRatio_floor)))
    (iRatio_floor : PySem.W.isFn K (.ref fRatio_floor) = true)
    (lRatio_floor : K.lookup fRatio_floor = some ⟨ocRatio_floor, odRatio_floor, .func (PySem.W.fnOf "floor" "Ratio.floor" (defArgs s_Ratio_floor) (defBody s_Ratio_floor) (defScope s_Ratio_floor) .none kVRatio_floor dcRatio_floor pmRatio_floor anRatio_floor cdRatio_floor ctRatio_floor), slRatio_floor⟩)
    (cRatio_floor : PySem.W.codeIn K cdRatio_floor "Ratio.floor" = true)
    (kRatio_floor : PySem.W.keepIn K (.ref fRatio_floor) = true)
    (aRatio_ceiling : PySem.W.findIn K (.ref C) "ceiling" = some (some (.ref fRatio_ceiling)))
    (iRatio_ceiling : PySem.W.isFn K (.ref fRatio_ceiling) = true)
    (lRatio_ceiling : K.lookup fRatio_ceiling = some ⟨ocRatio_ceiling, odRatio_ceiling, .func (PySem.W.fnOf "ceiling" "Ratio.ceiling" (defArgs s_Ratio_ceiling) (defBody s_Ratio_ceiling) (defScope s_Ratio_ceiling) .none kVRatio_ceiling dcRatio_ceiling pmRatio_ceiling anRatio_ceiling cdRatio_ceiling ctRatio_ceiling), slRatio_ceiling⟩)
    (cRatio_ceiling : PySem.W.codeIn K cdRatio_ceiling "Ratio.ceiling" = true)
    (kRatio_ceiling : PySem.W.keepIn K (.ref fRatio_ceiling) = true)
    (zrrfloordiv : PySem.W.findIn K (.ref C) "__rfloordiv__" = some (some (.ref grfloordiv)))
    (zrrmod : PySem.W.findIn K (.ref C) "__rmod__" = some (some (.ref grmod)))
    (apool : PySem.W.nsIn K mainGlobals "_law_pool" = some (some (.ref fpool)))
    (lpool : K.lookup fpool = some ⟨ocpool, odpool, .func (PySem.W.fnOf "_law_pool" "_law_pool" (defArgs s_pool) (defBody s_pool) (defScope s_pool) .none kVpool dcpool pmpool anpool cdpool ctpool), slpool⟩)
    (cpool : PySem.W.codeIn K cdpool "_law_pool" = true)
    (kpool : PySem.W.keepIn K (.ref fpool) = true)
    (amix : PySem.W.nsIn K mainGlobals "_law_mix" = some (some (.ref fmix)))
    (lmix : K.lookup fmix = some ⟨ocmix, odmix, .func (PySem.W.fnOf "_law_mix" "_law_mix" (defArgs s_mix) (defBody s_mix) (defScope s_mix) .none kVmix dcmix pmmix anmix cdmix ctmix), slmix⟩)
    (cmix : PySem.W.codeIn K cdmix "_law_mix" = true)
    (kmix : PySem.W.keepIn K (.ref fmix) = true)
    (adraw : PySem.W.nsIn K mainGlobals "_law_draw" = some (some (.ref fdraw)))
    (ldraw : K.lookup fdraw = some ⟨ocdraw, oddraw, .func (PySem.W.fnOf "_law_draw" "_law_draw" (defArgs s_draw) (defBody s_draw) (defScope s_draw) .none kVdraw dcdraw pmdraw andraw cddraw ctdraw), sldraw⟩)
    (cdraw : PySem.W.codeIn K cddraw "_law_draw" = true)
    (kdraw : PySem.W.keepIn K (.ref fdraw) = true)
    (awide : PySem.W.nsIn K mainGlobals "_law_wide" = some (some (.ref fwide)))
    (lwide : K.lookup fwide = some ⟨ocwide, odwide, .func (PySem.W.fnOf "_law_wide" "_law_wide" (defArgs s_wide) (defBody s_wide) (defScope s_wide) .none kVwide dcwide pmwide anwide cdwide ctwide), slwide⟩)
    (cwide : PySem.W.codeIn K cdwide "_law_wide" = true)
    (kwide : PySem.W.keepIn K (.ref fwide) = true)
    (aany : PySem.W.nsIn K mainGlobals "_law_any" = some (some (.ref fany)))
    (lany : K.lookup fany = some ⟨ocany, odany, .func (PySem.W.fnOf "_law_any" "_law_any" (defArgs s_any) (defBody s_any) (defScope s_any) .none kVany dcany pmany anany cdany ctany), slany⟩)
    (cany : PySem.W.codeIn K cdany "_law_any" = true)
    (kany : PySem.W.keepIn K (.ref fany) = true)
    (asigned : PySem.W.nsIn K mainGlobals "_law_signed" = some (some (.ref fsigned)))
    (lsigned : K.lookup fsigned = some ⟨ocsigned, odsigned, .func (PySem.W.fnOf "_law_signed" "_law_signed" (defArgs s_signed) (defBody s_signed) (defScope s_signed) .none kVsigned dcsigned pmsigned ansigned cdsigned ctsigned), slsigned⟩)
    (csigned : PySem.W.codeIn K cdsigned "_law_signed" = true)
    (ksigned : PySem.W.keepIn K (.ref fsigned) = true)
    (aeither : PySem.W.nsIn K mainGlobals "_law_either" = some (some (.ref feither)))
    (leither : K.lookup feither = some ⟨oceither, odeither, .func (PySem.W.fnOf "_law_either" "_law_either" (defArgs s_either) (defBody s_either) (defScope s_either) .none kVeither dceither pmeither aneither cdeither cteither), sleither⟩)
    (ceither : PySem.W.codeIn K cdeither "_law_either" = true)
    (keither : PySem.W.keepIn K (.ref feither) = true)
    (agcd : PySem.W.nsIn K mainGlobals "_law_gcd" = some (some (.ref fgcd)))
    (lgcd : K.lookup fgcd = some ⟨ocgcd, odgcd, .func (PySem.W.fnOf "_law_gcd" "_law_gcd" (defArgs s_gcd) (defBody s_gcd) (defScope s_gcd) .none kVgcd dcgcd pmgcd angcd cdgcd ctgcd), slgcd⟩)
    (cgcd : PySem.W.codeIn K cdgcd "_law_gcd" = true)
    (kgcd : PySem.W.keepIn K (.ref fgcd) = true)
    (awhole : PySem.W.nsIn K mainGlobals "_law_whole" = some (some (.ref fwhole)))
    (lwhole : K.lookup fwhole = some ⟨ocwhole, odwhole, .func (PySem.W.fnOf "_law_whole" "_law_whole" (defArgs s_whole) (defBody s_whole) (defScope s_whole) .none kVwhole dcwhole pmwhole anwhole cdwhole ctwhole), slwhole⟩)
    (cwhole : PySem.W.codeIn K cdwhole "_law_whole" = true)
    (kwhole : PySem.W.keepIn K (.ref fwhole) = true)
    (aratio : PySem.W.nsIn K mainGlobals "_law_ratio" = some (some (.ref fratio)))
    (lratio : K.lookup fratio = some ⟨ocratio, odratio, .func (PySem.W.fnOf "_law_ratio" "_law_ratio" (defArgs s_ratio) (defBody s_ratio) (defScope s_ratio) .none kVratio dcratio pmratio anratio cdratio ctratio), slratio⟩)
    (cratio : PySem.W.codeIn K cdratio "_law_ratio" = true)
    (kratio : PySem.W.keepIn K (.ref fratio) = true)
    (aexact : PySem.W.nsIn K mainGlobals "_law_exact" = some (some (.ref fexact)))
    (lexact : K.lookup fexact = some ⟨ocexact, odexact, .func (PySem.W.fnOf "_law_exact" "_law_exact" (defArgs s_exact) (defBody s_exact) (defScope s_exact) .none kVexact dcexact pmexact anexact cdexact ctexact), slexact⟩)
    (cexact : PySem.W.codeIn K cdexact "_law_exact" = true)
    (kexact : PySem.W.keepIn K (.ref fexact) = true)
    (arefused : PySem.W.nsIn K mainGlobals "_law_refused" = some (some (.ref frefused)))
    (lrefused : K.lookup frefused = some ⟨ocrefused, odrefused, .func (PySem.W.fnOf "_law_refused" "_law_refused" (defArgs s_refused) (defBody s_refused) (defScope s_refused) .none kVrefused dcrefused pmrefused anrefused cdrefused ctrefused), slrefused⟩)
    (crefused : PySem.W.codeIn K cdrefused "_law_refused" = true)
    (krefused : PySem.W.keepIn K (.ref frefused) = true)
    (abetween : PySem.W.nsIn K mainGlobals "_law_between" = some (some (.ref fbetween)))
    (lbetween : K.lookup fbetween = some ⟨ocbetween, odbetween, .func (PySem.W.fnOf "_law_between" "_law_between" (defArgs s_between) (defBody s_between) (defScope s_between) .none kVbetween dcbetween pmbetween anbetween cdbetween ctbetween), slbetween⟩)
    (cbetween : PySem.W.codeIn K cdbetween "_law_between" = true)
    (kbetween : PySem.W.keepIn K (.ref fbetween) = true)
    (adivided : PySem.W.nsIn K mainGlobals "_law_divided" = some (some (.ref fdivided)))
    (ldivided : K.lookup fdivided = some ⟨ocdivided, oddivided, .func (PySem.W.fnOf "_law_divided" "_law_divided" (defArgs s_divided) (defBody s_divided) (defScope s_divided) .none kVdivided dcdivided pmdivided andivided cddivided ctdivided), sldivided⟩)
    (cdivided : PySem.W.codeIn K cddivided "_law_divided" = true)
    (kdivided : PySem.W.keepIn K (.ref fdivided) = true)
    (azero : PySem.W.nsIn K mainGlobals "_law_zero" = some (some (.ref fzero)))
    (lzero : K.lookup fzero = some ⟨oczero, odzero, .func (PySem.W.fnOf "_law_zero" "_law_zero" (defArgs s_zero) (defBody s_zero) (defScope s_zero) .none kVzero dczero pmzero anzero cdzero ctzero), slzero⟩)
    (czero : PySem.W.codeIn K cdzero "_law_zero" = true)
    (kzero : PySem.W.keepIn K (.ref fzero) = true)
    (ais_number : PySem.W.nsIn K mainGlobals "is_number" = some (some (.ref fis_number)))
    (lis_number : K.lookup fis_number = some ⟨ocis_number, odis_number, .func (PySem.W.fnOf "is_number" "is_number" (defArgs s_is_number) (defBody s_is_number) (defScope s_is_number) .none kVis_number dcis_number pmis_number anis_number cdis_number ctis_number), slis_number⟩)
    (cis_number : PySem.W.codeIn K cdis_number "is_number" = true)
    (kis_number : PySem.W.keepIn K (.ref fis_number) = true)
    (aas_ratio : PySem.W.nsIn K mainGlobals "as_ratio" = some (some (.ref fas_ratio)))
    (las_ratio : K.lookup fas_ratio = some ⟨ocas_ratio, odas_ratio, .func (PySem.W.fnOf "as_ratio" "as_ratio" (defArgs s_as_ratio) (defBody s_as_ratio) (defScope s_as_ratio) .none kVas_ratio dcas_ratio pmas_ratio anas_ratio cdas_ratio ctas_ratio), slas_ratio⟩)
    (cas_ratio : PySem.W.codeIn K cdas_ratio "as_ratio" = true)
    (kas_ratio : PySem.W.keepIn K (.ref fas_ratio) = true)
    (atop_of : PySem.W.nsIn K mainGlobals "_top_of" = some (some (.ref ftop_of)))
    (ltop_of : K.lookup ftop_of = some ⟨octop_of, odtop_of, .func (PySem.W.fnOf "_top_of" "_top_of" (defArgs s_top_of) (defBody s_top_of) (defScope s_top_of) .none kVtop_of dctop_of pmtop_of antop_of cdtop_of cttop_of), sltop_of⟩)
    (ctop_of : PySem.W.codeIn K cdtop_of "_top_of" = true)
    (ktop_of : PySem.W.keepIn K (.ref ftop_of) = true)
    (aunder_of : PySem.W.nsIn K mainGlobals "_under_of" = some (some (.ref funder_of)))
    (lunder_of : K.lookup funder_of = some ⟨ocunder_of, odunder_of, .func (PySem.W.fnOf "_under_of" "_under_of" (defArgs s_under_of) (defBody s_under_of) (defScope s_under_of) .none kVunder_of dcunder_of pmunder_of anunder_of cdunder_of ctunder_of), slunder_of⟩)
    (cunder_of : PySem.W.codeIn K cdunder_of "_under_of" = true)
    (kunder_of : PySem.W.keepIn K (.ref funder_of) = true)
    (arounded_quotient : PySem.W.nsIn K mainGlobals "_rounded_quotient" = some (some (.ref frounded_quotient)))
    (lrounded_quotient : K.lookup frounded_quotient = some ⟨ocrounded_quotient, odrounded_quotient, .func (PySem.W.fnOf "_rounded_quotient" "_rounded_quotient" (defArgs s_rounded_quotient) (defBody s_rounded_quotient) (defScope s_rounded_quotient) .none kVrounded_quotient dcrounded_quotient pmrounded_quotient anrounded_quotient cdrounded_quotient ctrounded_quotient), slrounded_quotient⟩)
    (crounded_quotient : PySem.W.codeIn K cdrounded_quotient "_rounded_quotient" = true)
    (krounded_quotient : PySem.W.keepIn K (.ref frounded_quotient) = true)
    (aremainder : PySem.W.nsIn K mainGlobals "_remainder" = some (some (.ref fremainder)))
    (lremainder : K.lookup fremainder = some ⟨ocremainder, odremainder, .func (PySem.W.fnOf "_remainder" "_remainder" (defArgs s_remainder) (defBody s_remainder) (defScope s_remainder) .none kVremainder dcremainder pmremainder anremainder cdremainder ctremainder), slremainder⟩)
    (cremainder : PySem.W.codeIn K cdremainder "_remainder" = true)
    (kremainder : PySem.W.keepIn K (.ref fremainder) = true)
    (alaw : PySem.W.nsIn K mainGlobals "law" = some (some (.ref flaw)))
    (llaw : K.lookup flaw = some ⟨oclaw, odlaw, .func (PySem.W.fnOf "law" "law" (defArgs s_law) (defBody s_law) (defScope s_law) .none kVlaw dclaw pmlaw anlaw cdlaw ctlaw), sllaw⟩)
    (claw : PySem.W.codeIn K cdlaw "law" = true)
    (klaw : PySem.W.keepIn K (.ref flaw) = true) :
    ∃ fd : FuncData, (∀ (s : Shared) (v : Value), BindsTo s fd ⟨[v], []⟩ [("_law_script", v)]) ∧ ∀ base : Heap, K.In base → base.Ns mainGlobals mg → FnOk l.prog w K mg base CX0 9 fa fd ["_law_script"] (spLaw K) := by
  have e := hfa.symm.trans (PySem.W.mg_of X G alaw)
  cases e
  have B : Blt mg := ⟨PySem.W.mg_none_of X G zlen, PySem.W.mg_none_of X G zint, PySem.W.mg_none_of X G zabs, PySem.W.mg_none_of X G zrange, PySem.W.mg_none_of X G zisinstance, PySem.W.mg_none_of X G zmax, PySem.W.mg_none_of X G zmin, PySem.W.mg_none_of X G zsum, PySem.W.mg_none_of X G zstr, PySem.W.mg_none_of X G zbool, PySem.W.mg_none_of X G zlist, PySem.W.mg_none_of X G zValueError⟩
  have gRatio := PySem.W.mg_of X G aC
  have T : RatC K mg C := ⟨⟨pgC, hdC, poC, saC⟩, nTC, nUC, gRatio, haC, hnO, htO, hmC, kit_int hdC tyC siC⟩
  have FI : FunD K "__init__" "Ratio.__init__" (defArgs s_Ratio_init) (defBody s_Ratio_init) (defScope s_Ratio_init) [.int 1] [] fRatio_init _ := ⟨⟨_, _, _, _, _, _, _, _, _, _, rfl, lRatio_init, cRatio_init, .inr ⟨(by intro e; cases e), tD, _, [Value.int 1 tkD], nD, rfl, lD, rfl, .cons ⟨_, rfl⟩ .nil⟩, .inl rfl⟩, kRatio_init⟩
  have hgcd := PySem.W.mg_of X G aGcd
  have gZeroUnder := PySem.W.mg_of X G aZU
  have TZU : ExC K mg "ZeroUnder" ZU := ⟨xZU, gZeroUnder, keZU, beZU, teZU, seZU, ⟨geZU, ggZU, beZU, hdZU, hcZU, hnO, htO, hoZU⟩⟩
  have gLotError := PySem.W.mg_of X G aLE
  have gBadNumber := PySem.W.mg_of X G aBN
  have FRatio_mul := fun_mk (st := s_Ratio_mul) lRatio_mul cRatio_mul kRatio_mul
  have bRatio_mul := FRatio_mul.binds (ps := ["self", "other"]) fun _ _ _ _ _ _ us hl => match us, hl with | [_, _], _ => rfl
  have FRatio_rmul := fun_mk (st := s_Ratio_rmul) lRatio_rmul cRatio_rmul kRatio_rmul
  have bRatio_rmul := FRatio_rmul.binds (ps := ["self", "other"]) fun _ _ _ _ _ _ us hl => match us, hl with | [_, _], _ => rfl
  have FRatio_sub := fun_mk (st := s_Ratio_sub) lRatio_sub cRatio_sub kRatio_sub
  have bRatio_sub := FRatio_sub.binds (ps := ["self", "other"]) fun _ _ _ _ _ _ us hl => match us, hl with | [_, _], _ => rfl
  have FRatio_floordiv := fun_mk (st := s_Ratio_floordiv) lRatio_floordiv cRatio_floordiv kRatio_floordiv
  have bRatio_floordiv := FRatio_floordiv.binds (ps := ["self", "other"]) fun _ _ _ _ _ _ us hl => match us, hl with | [_, _], _ => rfl
  have FRatio_mod := fun_mk (st := s_Ratio_mod) lRatio_mod cRatio_mod kRatio_mod
  have bRatio_mod := FRatio_mod.binds (ps := ["self", "other"]) fun _ _ _ _ _ _ us hl => match us, hl with | [_, _], _ => rfl
  have FRatio_over := fun_mk (st := s_Ratio_over) lRatio_over cRatio_over kRatio_over
  have bRatio_over := FRatio_over.binds (ps := ["self", "number"]) fun _ _ _ _ _ _ us hl => match us, hl with | [_, _], _ => rfl
  have FRatio_floor := fun_mk (st := s_Ratio_floor) lRatio_floor cRatio_floor kRatio_floor
  have bRatio_floor := FRatio_floor.binds (ps := ["self"]) fun _ _ _ _ _ _ us hl => match us, hl with | [_], _ => rfl
  have FRatio_ceiling := fun_mk (st := s_Ratio_ceiling) lRatio_ceiling cRatio_ceiling kRatio_ceiling
  have bRatio_ceiling := FRatio_ceiling.binds (ps := ["self"]) fun _ _ _ _ _ _ us hl => match us, hl with | [_], _ => rfl
  have Fpool := fun_mk (st := s_pool) lpool cpool kpool
  have Dpool : Dfn K mg "_law_pool" "_law_pool" s_pool ["_law_script"] := ⟨fpool, _, Fpool, PySem.W.mg_of X G apool, Fpool.binds (ps := ["_law_script"]) fun _ _ _ _ _ _ us hl => match us, hl with | [_], _ => rfl⟩
  have Fmix := fun_mk (st := s_mix) lmix cmix kmix
  have Dmix : Dfn K mg "_law_mix" "_law_mix" s_mix ["_law_state", "_law_turn", "_law_many"] := ⟨fmix, _, Fmix, PySem.W.mg_of X G amix, Fmix.binds (ps := ["_law_state", "_law_turn", "_law_many"]) fun _ _ _ _ _ _ us hl => match us, hl with | [_, _, _], _ => rfl⟩
  have Fdraw := fun_mk (st := s_draw) ldraw cdraw kdraw
  have Ddraw : Dfn K mg "_law_draw" "_law_draw" s_draw ["_law_pool_here", "_law_many"] := ⟨fdraw, _, Fdraw, PySem.W.mg_of X G adraw, Fdraw.binds (ps := ["_law_pool_here", "_law_many"]) fun _ _ _ _ _ _ us hl => match us, hl with | [_, _], _ => rfl⟩
  have Fwide := fun_mk (st := s_wide) lwide cwide kwide
  have Dwide : Dfn K mg "_law_wide" "_law_wide" s_wide ["_law_pool_here"] := ⟨fwide, _, Fwide, PySem.W.mg_of X G awide, Fwide.binds (ps := ["_law_pool_here"]) fun _ _ _ _ _ _ us hl => match us, hl with | [_], _ => rfl⟩
  have Fany := fun_mk (st := s_any) lany cany kany
  have Dany : Dfn K mg "_law_any" "_law_any" s_any ["_law_pool_here"] := ⟨fany, _, Fany, PySem.W.mg_of X G aany, Fany.binds (ps := ["_law_pool_here"]) fun _ _ _ _ _ _ us hl => match us, hl with | [_], _ => rfl⟩
  have Fsigned := fun_mk (st := s_signed) lsigned csigned ksigned
  have Dsigned : Dfn K mg "_law_signed" "_law_signed" s_signed ["_law_pool_here"] := ⟨fsigned, _, Fsigned, PySem.W.mg_of X G asigned, Fsigned.binds (ps := ["_law_pool_here"]) fun _ _ _ _ _ _ us hl => match us, hl with | [_], _ => rfl⟩
  have Feither := fun_mk (st := s_either) leither ceither keither
  have Deither : Dfn K mg "_law_either" "_law_either" s_either ["_law_pool_here"] := ⟨feither, _, Feither, PySem.W.mg_of X G aeither, Feither.binds (ps := ["_law_pool_here"]) fun _ _ _ _ _ _ us hl => match us, hl with | [_], _ => rfl⟩
  have Fgcd := fun_mk (st := s_gcd) lgcd cgcd kgcd
  have Dgcd : Dfn K mg "_law_gcd" "_law_gcd" s_gcd ["_law_one", "_law_other"] := ⟨fgcd, _, Fgcd, PySem.W.mg_of X G agcd, Fgcd.binds (ps := ["_law_one", "_law_other"]) fun _ _ _ _ _ _ us hl => match us, hl with | [_, _], _ => rfl⟩
  have Fwhole := fun_mk (st := s_whole) lwhole cwhole kwhole
  have Dwhole : Dfn K mg "_law_whole" "_law_whole" s_whole ["_law_actual"] := ⟨fwhole, _, Fwhole, PySem.W.mg_of X G awhole, Fwhole.binds (ps := ["_law_actual"]) fun _ _ _ _ _ _ us hl => match us, hl with | [_], _ => rfl⟩
  have Fratio := fun_mk (st := s_ratio) lratio cratio kratio
  have Dratio : Dfn K mg "_law_ratio" "_law_ratio" s_ratio ["_law_actual"] := ⟨fratio, _, Fratio, PySem.W.mg_of X G aratio, Fratio.binds (ps := ["_law_actual"]) fun _ _ _ _ _ _ us hl => match us, hl with | [_], _ => rfl⟩
  have Fexact := fun_mk (st := s_exact) lexact cexact kexact
  have Dexact : Dfn K mg "_law_exact" "_law_exact" s_exact ["_law_actual", "_law_top", "_law_under"] := ⟨fexact, _, Fexact, PySem.W.mg_of X G aexact, Fexact.binds (ps := ["_law_actual", "_law_top", "_law_under"]) fun _ _ _ _ _ _ us hl => match us, hl with | [_, _, _], _ => rfl⟩
  have Frefused := fun_mk (st := s_refused) lrefused crefused krefused
  have Drefused : Dfn K mg "_law_refused" "_law_refused" s_refused ["_law_a", "_law_b", "_law_way"] := ⟨frefused, _, Frefused, PySem.W.mg_of X G arefused, Frefused.binds (ps := ["_law_a", "_law_b", "_law_way"]) fun _ _ _ _ _ _ us hl => match us, hl with | [_, _, _], _ => rfl⟩
  have Fbetween := fun_mk (st := s_between) lbetween cbetween kbetween
  have Dbetween : Dfn K mg "_law_between" "_law_between" s_between ["_law_found", "_law_top", "_law_under"] := ⟨fbetween, _, Fbetween, PySem.W.mg_of X G abetween, Fbetween.binds (ps := ["_law_found", "_law_top", "_law_under"]) fun _ _ _ _ _ _ us hl => match us, hl with | [_, _, _], _ => rfl⟩
  have Fdivided := fun_mk (st := s_divided) ldivided cdivided kdivided
  have Ddivided : Dfn K mg "_law_divided" "_law_divided" s_divided ["_law_a", "_law_b", "_law_at", "_law_au", "_law_bt", "_law_bu"] := ⟨fdivided, _, Fdivided, PySem.W.mg_of X G adivided, Fdivided.binds (ps := ["_law_a", "_law_b", "_law_at", "_law_au", "_law_bt", "_law_bu"]) fun _ _ _ _ _ _ us hl => match us, hl with | [_, _, _, _, _, _], _ => rfl⟩
  have Fzero := fun_mk (st := s_zero) lzero czero kzero
  have Dzero : Dfn K mg "_law_zero" "_law_zero" s_zero ["_law_pool_here"] := ⟨fzero, _, Fzero, PySem.W.mg_of X G azero, Fzero.binds (ps := ["_law_pool_here"]) fun _ _ _ _ _ _ us hl => match us, hl with | [_], _ => rfl⟩
  have Fis_number := fun_mk (st := s_is_number) lis_number cis_number kis_number
  have Dis_number : Dfn K mg "is_number" "is_number" s_is_number ["value"] := ⟨fis_number, _, Fis_number, PySem.W.mg_of X G ais_number, Fis_number.binds (ps := ["value"]) fun _ _ _ _ _ _ us hl => match us, hl with | [_], _ => rfl⟩
  have Fas_ratio := fun_mk (st := s_as_ratio) las_ratio cas_ratio kas_ratio
  have Das_ratio : Dfn K mg "as_ratio" "as_ratio" s_as_ratio ["number"] := ⟨fas_ratio, _, Fas_ratio, PySem.W.mg_of X G aas_ratio, Fas_ratio.binds (ps := ["number"]) fun _ _ _ _ _ _ us hl => match us, hl with | [_], _ => rfl⟩
  have Ftop_of := fun_mk (st := s_top_of) ltop_of ctop_of ktop_of
  have Dtop_of : Dfn K mg "_top_of" "_top_of" s_top_of ["number"] := ⟨ftop_of, _, Ftop_of, PySem.W.mg_of X G atop_of, Ftop_of.binds (ps := ["number"]) fun _ _ _ _ _ _ us hl => match us, hl with | [_], _ => rfl⟩
  have Funder_of := fun_mk (st := s_under_of) lunder_of cunder_of kunder_of
  have Dunder_of : Dfn K mg "_under_of" "_under_of" s_under_of ["number"] := ⟨funder_of, _, Funder_of, PySem.W.mg_of X G aunder_of, Funder_of.binds (ps := ["number"]) fun _ _ _ _ _ _ us hl => match us, hl with | [_], _ => rfl⟩
  have Frounded_quotient := fun_mk (st := s_rounded_quotient) lrounded_quotient crounded_quotient krounded_quotient
  have Drounded_quotient : Dfn K mg "_rounded_quotient" "_rounded_quotient" s_rounded_quotient ["number", "divisor"] := ⟨frounded_quotient, _, Frounded_quotient, PySem.W.mg_of X G arounded_quotient, Frounded_quotient.binds (ps := ["number", "divisor"]) fun _ _ _ _ _ _ us hl => match us, hl with | [_, _], _ => rfl⟩
  have Fremainder := fun_mk (st := s_remainder) lremainder cremainder kremainder
  have Dremainder : Dfn K mg "_remainder" "_remainder" s_remainder ["number", "divisor"] := ⟨fremainder, _, Fremainder, PySem.W.mg_of X G aremainder, Fremainder.binds (ps := ["number", "divisor"]) fun _ _ _ _ _ _ us hl => match us, hl with | [_, _], _ => rfl⟩
  have Flaw := fun_mk (st := s_law) llaw claw klaw
  refine ⟨PySem.W.fnOf "law" "law" (defArgs s_law) (defBody s_law) (defScope s_law) .none kVlaw dclaw pmlaw anlaw cdlaw ctlaw, fun s v => .of_eq rfl, fun base _ _ => ?_⟩
  have ⟨M2, M1⟩ := mk_ratio (P := l.prog) (w := w) (base := base) B hgcd T TZU ⟨mkC, aRatio_init, iRatio_init, kcC⟩ FI
  have cmix := ok_mix (P := l.prog) (w := w) (base := base) B Dmix
  have cdraw := ok_draw B Ddraw cmix
  have cwide := ok_wide B Dwide cdraw
  have cany := ok_any B Dany cdraw cwide
  have cpool := ok_pool (P := l.prog) (w := w) (base := base) B Dpool
  have cwhole := ok_whole (P := l.prog) (w := w) (base := base) B Dwhole
  have ceither := ok_either B Deither cdraw cany
  have csigned := ok_signed B Dsigned cdraw cwide
  have cgcd := ok_gcd (P := l.prog) (w := w) (base := base) B Dgcd
  have cratio := ok_ratio B T Dratio cwhole
  have cex := ok_exact B T Dexact cratio cgcd
  have cisn := ok_is_number (P := l.prog) (w := w) (base := base) B T (kit_type kmI scI) Dis_number
  have ctop := ok_top_of (P := l.prog) (w := w) (base := base) B T Dtop_of
  have cund := ok_under_of (P := l.prog) (w := w) (base := base) B T Dunder_of
  have casr := ok_as_ratio B T Das_ratio M1
  have crq := ok_rq TZU ctop cund Drounded_quotient
  have iMult : PySem.W.findIn K (.type "int") (PySem.dunder (Operator.info .Mult).2) = some (some (.builtin "int.__mul__")) := (by rw [show PySem.dunder (Operator.info .Mult).2 = ("__mul__" : Str) from by decide +kernel]; exact ziMult)
  have jMult : PySem.W.findIn K (.type "int") (dunderR (Operator.info .Mult).2) = some (some (.builtin "int.__rmul__")) := (by rw [show dunderR (Operator.info .Mult).2 = ("__rmul__" : Str) from by decide +kernel]; exact zjMult)
  have iFloorDiv : PySem.W.findIn K (.type "int") (PySem.dunder (Operator.info .FloorDiv).2) = some (some (.builtin "int.__floordiv__")) := (by rw [show PySem.dunder (Operator.info .FloorDiv).2 = ("__floordiv__" : Str) from by decide +kernel]; exact ziFloorDiv)
  have jFloorDiv : PySem.W.findIn K (.type "int") (dunderR (Operator.info .FloorDiv).2) = some (some (.builtin "int.__rfloordiv__")) := (by rw [show dunderR (Operator.info .FloorDiv).2 = ("__rfloordiv__" : Str) from by decide +kernel]; exact zjFloorDiv)
  have iMod : PySem.W.findIn K (.type "int") (PySem.dunder (Operator.info .Mod).2) = some (some (.builtin "int.__mod__")) := (by rw [show PySem.dunder (Operator.info .Mod).2 = ("__mod__" : Str) from by decide +kernel]; exact ziMod)
  have jMod : PySem.W.findIn K (.type "int") (dunderR (Operator.info .Mod).2) = some (some (.builtin "int.__rmod__")) := (by rw [show dunderR (Operator.info .Mod).2 = ("__rmod__" : Str) from by decide +kernel]; exact zjMod)
  have OMult : Bx.OpOwn l.prog w K mg base 3 C (PySem.dunder (Operator.info .Mult).2) ["self", "other"] _ := ⟨_, _, (by rw [show PySem.dunder (Operator.info .Mult).2 = ("__mul__" : Str) from by decide +kernel]; exact aRatio_mul), iRatio_mul, ok_mul T cisn ctop cund M2 FRatio_mul, bRatio_mul⟩
  have OSub : Bx.OpOwn l.prog w K mg base 3 C (PySem.dunder (Operator.info .Sub).2) ["self", "other"] _ := ⟨_, _, (by rw [show PySem.dunder (Operator.info .Sub).2 = ("__sub__" : Str) from by decide +kernel]; exact aRatio_sub), iRatio_sub, ok_sub T cisn ctop cund M2 FRatio_sub, bRatio_sub⟩
  have hRMult : PySem.W.findIn K (.ref C) (dunderR (Operator.info .Mult).2) = some (some (.ref fRatio_rmul)) := (by rw [show dunderR (Operator.info .Mult).2 = ("__rmul__" : Str) from by decide +kernel]; exact aRatio_rmul)
  have RMult : Bx.OpOwn l.prog w K mg base 4 C (dunderR (Operator.info .Mult).2) ["self", "other"] _ := ⟨_, _, hRMult, iRatio_rmul, ok_rmul T hSF cisn casr OMult FRatio_rmul, bRatio_rmul⟩
  have crem := ok_rem hSF scI crq casr OMult OSub RMult Dremainder
  have OVER : Bx.OwnX l.prog w K mg base 3 C "over" ["self", "number"] (spOver C ZU) := ⟨_, _, aRatio_over, iRatio_over, kRatio_over, ok_over T ctop cund M2 FRatio_over, bRatio_over⟩
  have FD : Bx.OwnX l.prog w K mg base 3 C (PySem.dunder (Operator.info .FloorDiv).2) ["self", "other"] (spFD C ZU) := ⟨_, _, (by rw [show PySem.dunder (Operator.info .FloorDiv).2 = ("__floordiv__" : Str) from by decide +kernel]; exact aRatio_floordiv), iRatio_floordiv, kRatio_floordiv, ok_floordiv cisn crq FRatio_floordiv, bRatio_floordiv⟩
  have MOD : Bx.OwnX l.prog w K mg base 6 C (PySem.dunder (Operator.info .Mod).2) ["self", "other"] (spRem C ZU) := ⟨_, _, (by rw [show PySem.dunder (Operator.info .Mod).2 = ("__mod__" : Str) from by decide +kernel]; exact aRatio_mod), iRatio_mod, kRatio_mod, ok_mod cisn crem FRatio_mod, bRatio_mod⟩
  have rFD : PySem.W.findIn K (.ref C) (dunderR (Operator.info .FloorDiv).2) = some (some (.ref grfloordiv)) := (by rw [show dunderR (Operator.info .FloorDiv).2 = ("__rfloordiv__" : Str) from by decide +kernel]; exact zrrfloordiv)
  have rMOD : PySem.W.findIn K (.ref C) (dunderR (Operator.info .Mod).2) = some (some (.ref grmod)) := (by rw [show dunderR (Operator.info .Mod).2 = ("__rmod__" : Str) from by decide +kernel]; exact zrrmod)
  have cref := ok_refused (P := l.prog) (w := w) (base := base) B T TZU gLotError gBadNumber (kit_own hdLE teLE sZULE seZU) (kit_type kmV veZU) (kit_own hdBN teBN sZUBN seZU) OVER FD MOD rFD rMOD iFloorDiv jFloorDiv iMod jMod hSF siC Drefused
  have cbet := ok_between (P := l.prog) (w := w) (base := base) Dbetween cwhole
  have cdiv := ok_divided T cex cbet OMult hRMult iMult jMult OVER FD MOD rFD rMOD iFloorDiv jFloorDiv iMod jMod hSF siC Ddivided
  have czero := ok_zero B T M2 cdraw cwide csigned cref cdiv Dzero
  exact ok_law B T Flaw M2 cpool cdraw cany ceither cwhole cex cbet czero cdiv ⟨aRatio_floor, iRatio_floor, kRatio_floor⟩ (ok_floor T FRatio_floor) bRatio_floor ⟨aRatio_ceiling, iRatio_ceiling, kRatio_ceiling⟩ (ok_ceiling T FRatio_ceiling) bRatio_ceiling
end L

set_option Elab.async false

open PySem PySem.W PyProof.Rows
set_option maxRecDepth 100000 in
set_option maxHeartbeats 0 in
theorem PySem.Challenge.cw_fieldlots_k03_ratio_quotients_holds : PySem.Challenge.rw_fieldlots_k03_ratio_quotients.Holds := by
  w_on; o_law; k_head; (case hw => w_witness2)
  k_fill
  refine L2.walk_of (l := PySem.Challenge.rw_fieldlots_k03_ratio_quotients) (n := 63) (k := 9) (x := "_law_script") (CX := fun _ => L2.CX0) (sp := fun w => L.spLaw _) rfl (by decide) rfl ⟨rfl, by decide, by decide⟩ (fun w h Y => PySem.W.kIn_of Y) ?F (fun _ _ a ns hl _ hS => ⟨a, ns, rfl, hS, hl, fun _ => rfl⟩) (fun _ _ _ _ _ h => h)
  case F =>
    intro w mg fa h KX G hmg
    refine' L.all_mk KX G hmg ?zlen ?zint ?zabs ?zrange ?zisinstance ?zmax ?zmin ?zsum ?zstr ?zbool ?zlist ?zValueError ?aC ?pgC ?hdC ?poC ?saC ?mkC ?kcC ?nTC ?nUC ?haC ?hnO ?htO ?hmC ?siC ?tyC ?aRatio_init ?iRatio_init ?lRatio_init ?cRatio_init ?kRatio_init ?lD ?aGcd ?aZU ?xZU ?keZU ?beZU ?teZU ?seZU ?geZU ?ggZU ?hdZU ?hcZU ?hoZU ?veZU ?aLE ?hdLE ?teLE ?sZULE ?aBN ?hdBN ?teBN ?sZUBN ?kmV ?ziMult ?zjMult ?ziFloorDiv ?zjFloorDiv ?ziMod ?zjMod ?hSF ?scI ?kmI ?aRatio_mul ?iRatio_mul ?lRatio_mul ?cRatio_mul ?kRatio_mul ?aRatio_rmul ?iRatio_rmul ?lRatio_rmul ?cRatio_rmul ?kRatio_rmul ?aRatio_sub ?iRatio_sub ?lRatio_sub ?cRatio_sub ?kRatio_sub ?aRatio_floordiv ?iRatio_floordiv ?lRatio_floordiv ?cRatio_floordiv ?kRatio_floordiv ?aRatio_mod ?iRatio_mod ?lRatio_mod ?cRatio_mod ?kRatio_mod ?aRatio_over ?iRatio_over ?lRatio_over ?cRatio_over ?kRatio_over ?aRatio_floor ?iRatio_floor ?lRatio_floor ?cRatio_floor ?kRatio_floor ?aRatio_ceiling ?iRatio_ceiling ?lRatio_ceiling ?cRatio_ceiling ?kRatio_ceiling ?zrrfloordiv ?zrrmod ?apool ?lpool ?cpool ?kpool ?amix ?lmix ?cmix ?kmix ?adraw ?ldraw ?cdraw ?kdraw ?awide ?lwide ?cwide ?kwide ?aany ?lany ?cany ?kany ?asigned ?lsigned ?csigned ?ksigned ?aeither ?leither ?ceither ?keither ?agcd ?lgcd ?cgcd ?kgcd ?awhole ?lwhole ?cwhole ?kwhole ?aratio ?lratio ?cratio ?kratio ?aexact ?lexact ?cexact ?kexact ?arefused ?lrefused ?crefused ?krefused ?abetween ?lbetween ?cbetween ?kbetween ?adivided ?ldivided ?cdivided ?kdivided ?azero ?lzero ?czero ?kzero ?ais_number ?lis_number ?cis_number ?kis_number ?aas_ratio ?las_ratio ?cas_ratio ?kas_ratio ?atop_of ?ltop_of ?ctop_of ?ktop_of ?aunder_of ?lunder_of ?cunder_of ?kunder_of ?arounded_quotient ?lrounded_quotient ?crounded_quotient ?krounded_quotient ?aremainder ?lremainder ?cremainder ?kremainder ?alaw ?llaw ?claw ?klaw
    (case zlen => k_is)
    (case zint => k_is)
    (case zabs => k_is)
    (case zrange => k_is)
    (case zisinstance => k_is)
    (case zmax => k_is)
    (case zmin => k_is)
    (case zsum => k_is)
    (case zstr => k_is)
    (case zbool => k_is)
    (case zlist => k_is)
    (case zValueError => k_is)
    (case aC => k_is)
    (case pgC => k_is)
    (case hdC => k_is)
    (case poC => k_is)
    (case saC => k_is)
    (case mkC => k_is)
    (case kcC => k_is)
    (case nTC => k_is)
    (case nUC => k_is)
    (case haC => k_is)
    (case hnO => k_is)
    (case htO => k_is)
    (case hmC => k_is)
    (case siC => k_is)
    (case tyC => k_is)
    (case aRatio_init => k_is)
    (case iRatio_init => k_is)
    (case lRatio_init => k_is)
    (case cRatio_init => k_is)
    (case kRatio_init => k_is)
    (case lD => k_is)
    (case aGcd => k_is)
    (case aZU => k_is)
    (case xZU => k_exc)
    (case keZU => k_is)
    (case beZU => k_is)
    (case teZU => k_is)
    (case seZU => k_is)
    (case geZU => k_is)
    (case ggZU => k_is)
    (case hdZU => k_is)
    (case hcZU => k_is)
    (case hoZU => k_is)
    (case veZU => k_is)
    (case aLE => k_is)
    (case hdLE => k_is)
    (case teLE => k_is)
    (case sZULE => k_is)
    (case aBN => k_is)
    (case hdBN => k_is)
    (case teBN => k_is)
    (case sZUBN => k_is)
    (case kmV => decide +kernel)
    (case ziMult => k_is)
    (case zjMult => k_is)
    (case ziFloorDiv => k_is)
    (case zjFloorDiv => k_is)
    (case ziMod => k_is)
    (case zjMod => k_is)
    (case hSF => k_is)
    (case scI => k_is)
    (case kmI => decide +kernel)
    (case aRatio_mul => k_is)
    (case iRatio_mul => k_is)
    (case lRatio_mul => k_is)
    (case cRatio_mul => k_is)
    (case kRatio_mul => k_is)
    (case aRatio_rmul => k_is)
    (case iRatio_rmul => k_is)
    (case lRatio_rmul => k_is)
    (case cRatio_rmul => k_is)
    (case kRatio_rmul => k_is)
    (case aRatio_sub => k_is)
    (case iRatio_sub => k_is)
    (case lRatio_sub => k_is)
    (case cRatio_sub => k_is)
    (case kRatio_sub => k_is)
    (case aRatio_floordiv => k_is)
    (case iRatio_floordiv => k_is)
    (case lRatio_floordiv => k_is)
    (case cRatio_floordiv => k_is)
    (case kRatio_floordiv => k_is)
    (case aRatio_mod => k_is)
    (case iRatio_mod => k_is)
    (case lRatio_mod => k_is)
    (case cRatio_mod => k_is)
    (case kRatio_mod => k_is)
    (case aRatio_over => k_is)
    (case iRatio_over => k_is)
    (case lRatio_over => k_is)
    (case cRatio_over => k_is)
    (case kRatio_over => k_is)
    (case aRatio_floor => k_is)
    (case iRatio_floor => k_is)
    (case lRatio_floor => k_is)
    (case cRatio_floor => k_is)
    (case kRatio_floor => k_is)
    (case aRatio_ceiling => k_is)
    (case iRatio_ceiling => k_is)
    (case lRatio_ceiling => k_is)
    (case cRatio_ceiling => k_is)
    (case kRatio_ceiling => k_is)
    (case zrrfloordiv => k_is)
    (case zrrmod => k_is)
    (case apool => k_is)
    (case lpool => k_is)
    (case cpool => k_is)
    (case kpool => k_is)
    (case amix => k_is)
    (case lmix => k_is)
    (case cmix => k_is)
    (case kmix => k_is)
    (case adraw => k_is)
    (case ldraw => k_is)
    (case cdraw => k_is)
    (case kdraw => k_is)
    (case awide => k_is)
    (case lwide => k_is)
    (case cwide => k_is)
    (case kwide => k_is)
    (case aany => k_is)
    (case lany => k_is)
    (case cany => k_is)
    (case kany => k_is)
    (case asigned => k_is)
    (case lsigned => k_is)
    (case csigned => k_is)
    (case ksigned => k_is)
    (case aeither => k_is)
    (case leither => k_is)
    (case ceither => k_is)
    (case keither => k_is)
    (case agcd => k_is)
    (case lgcd => k_is)
    (case cgcd => k_is)
    (case kgcd => k_is)
    (case awhole => k_is)
    (case lwhole => k_is)
    (case cwhole => k_is)
    (case kwhole => k_is)
    (case aratio => k_is)
    (case lratio => k_is)
    (case cratio => k_is)
    (case kratio => k_is)
    (case aexact => k_is)
    (case lexact => k_is)
    (case cexact => k_is)
    (case kexact => k_is)
    (case arefused => k_is)
    (case lrefused => k_is)
    (case crefused => k_is)
    (case krefused => k_is)
    (case abetween => k_is)
    (case lbetween => k_is)
    (case cbetween => k_is)
    (case kbetween => k_is)
    (case adivided => k_is)
    (case ldivided => k_is)
    (case cdivided => k_is)
    (case kdivided => k_is)
    (case azero => k_is)
    (case lzero => k_is)
    (case czero => k_is)
    (case kzero => k_is)
    (case ais_number => k_is)
    (case lis_number => k_is)
    (case cis_number => k_is)
    (case kis_number => k_is)
    (case aas_ratio => k_is)
    (case las_ratio => k_is)
    (case cas_ratio => k_is)
    (case kas_ratio => k_is)
    (case atop_of => k_is)
    (case ltop_of => k_is)
    (case ctop_of => k_is)
    (case ktop_of => k_is)
    (case aunder_of => k_is)
    (case lunder_of => k_is)
    (case cunder_of => k_is)
    (case kunder_of => k_is)
    (case arounded_quotient => k_is)
    (case lrounded_quotient => k_is)
    (case crounded_quotient => k_is)
    (case krounded_quotient => k_is)
    (case aremainder => k_is)
    (case lremainder => k_is)
    (case cremainder => k_is)
    (case kremainder => k_is)
    (case alaw => k_is)
    (case llaw => k_is)
    (case claw => k_is)
    (case klaw => k_is)
