import PyProof.Rows.All
import Wide.All
import OpenK.AllK
import Wide.FinOn
import PyProof.NoPylong
import HandS.ForMost
import HandS.ForExc
import HandS.Wide
import HandS.Gcd
import HandS.IsInst
import HandS.ExcIs
import HandS.Property
import HandS.Defaults
import HandS.CallSlots
import HandS.ExcInit
import HandS.ExcField
import HandS.TryMany
import KE.KOpsOwn
import HandS.ClsMeth
import HandS.Evl
import KE.KCallOwn
import KE.KFmtOwn
import HandS.FStr
import PyProof.Rows.Range3
import HandS.Zip
import HandS.TupAny
import HandS.Walk
import HandS.More
import HandS.Star
import HandS.Style
import PySem.Challenge.RW_fieldlots_k42_spreads_counted
set_option Elab.async false
set_option linter.all false
set_option maxRecDepth 100000
namespace Fl
open PySem PySem.Spec PyProof.Rows L2
/-! ### calls by a promise that names no address -/
structure Cal (P : Program) (w : World) (K : PySem.W.Frag) (mg : Str → Option Value) (base : Heap) (k : Nat) (x : Str) (ps : List Str) (sp : Sp) : Prop where
  ex : ∃ (f : Addr) (fd : FuncData), FnOk P w K mg base CX0 k f fd ps sp ∧ mg x = some (.ref f) ∧ PySem.W.keepIn K (.ref f) = true ∧ Binds K fd ps []
structure Dfn (K : PySem.W.Frag) (mg : Str → Option Value) (x qual : Str) (st : Stmt) (ps : List Str) : Prop where
  ex : ∃ (f : Addr) (fd : FuncData), Fun K x qual st f fd ∧ mg x = some (.ref f) ∧ Binds K fd ps []
section
variable {P : Program} {w : World} {K : PySem.W.Frag} {mg : Str → Option Value} {base : Heap}
theorem Dfn.cal {x qual : Str} {st : Stmt} {N ps : List Str} {k : Nat} {sp : Sp} (D : Dfn K mg x qual st ps) (S : FnScope N ps (defScope st)) (len : ∀ vs H Q E, sp vs H Q E → vs.length = ps.length)
    (hbody : ∀ (f : Addr) (cdv : Value) (A : Around) (outer : List Env) (s : Shared) (H : Hp) (vs : List V) (Q : VK) (E : XK), Room k (A.deeper (envOfC qual (defScope st) s.heap.objs.size f cdv)) → sp vs H Q E →
      ∃ t, PSs (cxOf CX0 P w K mg base N qual (defScope st) f cdv A outer s H E).nox (defBody st) t ∧ t { nx := fun _ H' => Q .non H', rt := Q } (start N vs) H) : Cal P w K mg base (k + 1) x ps sp := by
  obtain ⟨f, fd, F, m, b⟩ := D.ex
  exact ⟨f, fd, F.ok S len (hbody f), m, F.kp, b⟩
theorem Cal.mono {j k : Nat} {x : Str} {ps : List Str} {sp : Sp} (C : Cal P w K mg base j x ps sp) (h : j ≤ k) : Cal P w K mg base k x ps sp := by
  obtain ⟨f, fd, F, m, kp, b⟩ := C.ex
  exact ⟨f, fd, F.mono h, m, kp, b⟩
end
theorem pe_cal {X : Cx} {k : Nat} {x : Str} {ps : List Str} {sp : Sp} {p pos : Pos} {e : Expr} {es : List Expr} {t : TA} (C : Cal X.prog X.w X.K X.mg X.base k x ps sp) (hr : Room k X.A) (ha : PA X (e :: es) t) (hg : Gl X x := by rfl)
    (hdb : (x == ("__debug__" : Str)) = false := by decide) (he : starEach (e :: es) X.env = (false, eval e X.env) :: starEach es X.env := by rfl) (hpl : (backTo pos (starEach es X.env)).any (·.1) = false := by rfl) :
    PE X (.Call (.Name x p) (e :: es) [] pos) (tCall sp [] E0 t) := by
  obtain ⟨f, fd, F, m, kp, b⟩ := C.ex
  exact pe_call F hr hg m kp b .nil pass0 ha hdb he hpl
/-- the built-in names that the text leaves alone -/
structure Blt (mg : Str → Option Value) : Prop where
  len : mg "len" = none
  int : mg "int" = none
  abs : mg "abs" = none
  range : mg "range" = none
  isinstance : mg "isinstance" = none
  max : mg "max" = none
  min : mg "min" = none
  sum : mg "sum" = none
  str : mg "str" = none
  bool : mg "bool" = none
  list : mg "list" = none
  ve : mg "ValueError" = none
/-! ### great numbers -/
def CDivA (_ j : Int) : Prop := j ≠ 0 ∧ j.natAbs.log2 < 9000
theorem op_fdivA {X : Cx} : OpR X (binaryOp .FloorDiv) (rI CDivA fun i j => .int (i.fdiv j)) := opI fun i j _ _ _ _ _ hc q => floordiv_int hc.1 q (.inl (PyProof.noPylong_of_log2 hc.2))
theorem divA {i j : Int} {b : Nat} (h : j ≠ 0) (hb : j.natAbs < 2 ^ b) (h0 : 0 < b) (h9 : b ≤ 9000) : CDivA i j := ⟨h, Nat.lt_of_lt_of_le (PySem.Flt.log2_lt_of h0 hb) h9⟩
/-! ### heaps -/
/-- all that was tracked is as it was, but for p -/
def Keeps (H H' : Hp) (p : Addr) : Prop := ∀ b o, H b = some o → b ≠ p → H' b = some o
theorem Keeps.refl (H : Hp) (p : Addr) : Keeps H H p := fun _ _ h _ => h
theorem Keeps.trans {H H1 H2 : Hp} {p : Addr} (a : Keeps H H1 p) (b : Keeps H1 H2 p) : Keeps H H2 p := fun c o h n => b c o (a c o h n) n
theorem Keeps.upd {H : Hp} {p : Addr} {o : HO} : Keeps H (upd H p o) p := fun b u h n => by rw [upd_ne n]; exact h
theorem same_keeps {H H' : Hp} {p : Addr} (h : Same H H') : Keeps H H' p := fun b o e _ => h b o e
theorem same_upd {H : Hp} {p : Addr} {o : HO} (h : H p = none) : Same H (upd H p o) := fun b u e => by rw [upd_ne (ne_of_none e h)]; exact e
theorem Keeps.free {H H' : Hp} {p l : Addr} (k : Keeps H H' p) (h : H' l = none) (n : l ≠ p) : H l = none := by
  cases q : H l with
  | none => rfl
  | some o =>
    rw [k l o q n] at h
    cases h
theorem ints_at {ns : List Int} {j : Nat} (h : j < ns.length) : (ns.map V.int)[j]? = some (V.int ns[j]) := by
  rw [List.getElem?_map, List.getElem?_eq_getElem h]
  rfl
theorem int_of_map {ns : List Int} {i : Nat} {y : V} (h : (ns.map V.int)[i]? = some y) : ∃ z, ns[i]? = some z ∧ y = V.int z := by
  rw [List.getElem?_map] at h
  cases e : ns[i]? with
  | none => rw [e] at h; cases h
  | some z => rw [e] at h; exact ⟨z, rfl, (Option.some.inj h).symm⟩
/-- where the pool stands: its own list, the script's numbers -/
structure Pla where
  p : Addr
  q : Addr
instance : Coe Pla Addr := ⟨Pla.p⟩
/-- the pool: the script's numbers, how many are taken, what is left of one, a state, the draws -/
def Pool (H : Hp) (p : Pla) : Prop := ∃ (ns : List Int) (i b c d : Int), H p = some (.lst [.ref p.q, .int i, .int b, .int c, .int d]) ∧ H p.q = some (.lst (ns.map V.int)) ∧ 0 ≤ i ∧ p.q ≠ p
theorem Pool.same {H H' : Hp} {p : Pla} (h : Pool H p) (s : Same H H') : Pool H' p := by
  obtain ⟨ns, i, b, c, d, h1, h2, h3, h4⟩ := h
  exact ⟨ns, i, b, c, d, s _ _ h1, s _ _ h2, h3, h4⟩
theorem Pool.upd {H : Hp} {p : Pla} {x : Addr} {o : HO} (h : Pool H p) (hx : H x = none) : Pool (upd H x o) p := h.same (same_upd hx)
theorem Pool.store {H : Hp} {p : Pla} {x : Addr} {o : HO} (h : Pool H p) (hp : x ≠ p) (hq : x ≠ p.q) : Pool (L2.upd H x o) p := by
  obtain ⟨ns, i, b, c, d, h1, h2, h3, h4⟩ := h
  exact ⟨ns, i, b, c, d, by rw [upd_ne (Ne.symm hp)]; exact h1, by rw [upd_ne (Ne.symm hq)]; exact h2, h3, h4⟩
theorem Pool.apart {H : Hp} {p : Pla} {x : Addr} (h : Pool H p) (hx : H x = none) : x ≠ p ∧ x ≠ p.q := by
  obtain ⟨ns, i, b, c, d, h1, h2, _⟩ := h
  exact ⟨Ne.symm (ne_of_none h1 hx), Ne.symm (ne_of_none h2 hx)⟩
/-! ### tests -/
theorem ifD {p : Prop} [Decidable p] {A B : Prop} (h1 : p → A) (h2 : ¬ p → B) : if decide p = true then A else B := by
  by_cases h : p
  · rw [decide_eq_true h]; exact iteT (h1 h)
  · rw [decide_eq_false h]; exact iteF (h2 h)
theorem ifE {a b : Int} {A B : Prop} (h1 : a = b → A) (h2 : a ≠ b → B) : if decide (V.int a = V.int b) = true then A else B :=
  ifD (fun h => h1 (V.int.inj h)) fun h => h2 fun e => h (by rw [e])
theorem ifNE {a b : Int} {A B : Prop} (h1 : a ≠ b → A) (h2 : a = b → B) : if (!decide (V.int a = V.int b)) = true then A else B := by
  by_cases h : a = b
  · rw [decide_eq_true (show V.int a = V.int b by rw [h])]; exact iteF (h2 h)
  · rw [decide_eq_false (show ¬ V.int a = V.int b from fun e => h (V.int.inj e))]; exact iteT (h1 h)
theorem ifN {p : Prop} [Decidable p] {A B : Prop} (h1 : ¬ p → A) (h2 : p → B) : if (!decide p) = true then A else B := by
  by_cases h : p
  · rw [decide_eq_true h]; exact iteF (h2 h)
  · rw [decide_eq_false h]; exact iteT (h1 h)
theorem ifB {c : Bool} {A B : Prop} (h1 : c = true → A) (h2 : c = false → B) : if c = true then A else B := by
  cases c
  · exact iteF (h2 rfl)
  · exact iteT (h1 rfl)
theorem fm (a : Int) {b : Int} (h : 0 < b) : 0 ≤ a.fmod b ∧ a.fmod b < b := ⟨Int.fmod_nonneg_of_pos a h, Int.fmod_lt_of_pos a h⟩
/-! ### Euclid's steps -/
def fibp : Nat → Nat × Nat
  | 0 => (0, 1)
  | n + 1 => match fibp n with | (a, b) => (b, a + b)
def Eu : Nat → Nat → Nat → Prop
  | 0, _, y => y = 0
  | n + 1, x, y => y = 0 ∨ Eu n y (x % y)
theorem eu_mono : ∀ {n x y : Nat}, Eu n x y → Eu (n + 1) x y
  | 0, _, _, h => .inl h
  | _ + 1, _, _, .inl h => .inl h
  | n + 1, _, _, .inr h => .inr (eu_mono (n := n) h)
theorem fibp_step (n : Nat) : (fibp (n + 1)).1 = (fibp n).2 ∧ (fibp (n + 1)).2 = (fibp n).1 + (fibp n).2 := by
  show (match fibp n with | (a, b) => (b, a + b)).1 = _ ∧ (match fibp n with | (a, b) => (b, a + b)).2 = _
  cases fibp n
  exact ⟨rfl, rfl⟩
theorem eu_fib : ∀ (n x y : Nat), (y < (fibp n).2 → Eu n x y) ∧ (y < (fibp (n + 1)).2 → Eu (n + 1) x y) := by
  intro n
  induction n with
  | zero =>
    intro x y
    refine ⟨fun h => ?_, fun h => .inl ?_⟩
    · have h' : y < 1 := h
      show y = 0
      omega
    · have h' : y < 1 := h
      omega
  | succ n ih =>
    intro x y
    refine ⟨(ih x y).2, fun h => ?_⟩
    rw [(fibp_step (n + 1)).2, (fibp_step n).1] at h
    by_cases hy : y = 0
    · exact .inl hy
    refine .inr ?_
    have hr : x % y < y := Nat.mod_lt _ (by omega)
    by_cases hc : x % y < (fibp (n + 1)).2
    · exact (ih y (x % y)).2 hc
    · by_cases h0 : x % y = 0
      · exact .inl h0
      refine .inr ?_
      refine (ih (x % y) (y % (x % y))).1 ?_
      have e : y % (x % y) ≤ y - x % y := by
        rw [Nat.mod_eq_sub_mod (Nat.le_of_lt hr)]
        exact Nat.mod_le _ _
      omega
theorem fib_big : 10 ^ 124 ≤ (fibp 599).2 := by decide +kernel
theorem eu_all {x y : Nat} (h : y < 10 ^ 124) : Eu 599 x y := (eu_fib 599 x y).1 (Nat.lt_of_lt_of_le h fib_big)
end Fl

set_option Elab.async false
set_option linter.all false
set_option maxRecDepth 100000
set_option maxHeartbeats 4000000
namespace Fl
section
open PySem PySem.W PySem.Spec PySem.Calls PyProof.Rows
variable {prog : Program} {w : World} {A : Around} {E : Value → Shared → Prop} {s : Shared} {K : Frag} {x D : Addr} {ox : Obj} {od : Option Obj}
theorem findObj_dataE {C : Addr} {name : Str} {a g : Value} (hc : (clsIn K C).isSome = true) (ha : findIn K (.ref C) name = some (some a)) (hg : specialIn K a "__get__" = some (some g)) (ht : takesIn K a = some true) : findObj K C od name = some (.bind g a) := by
  obtain ⟨cd, hc⟩ := Option.isSome_iff_exists.mp hc
  unfold findObj
  rw [hc, Option.bind_some, ha, Option.bind_some]
  simp [hg, ht]
/-- __class__ of an exception of an own class, with or without a dict of its own -/
theorem kin_classX {Q : Option Value → Shared → Prop} (gAt : findIn K (.ref D) "__getattribute__" = some (some (.builtin "BaseException.__getattribute__"))) (gGt : findIn K (.ref D) "__getattr__" = some none) (sBe : subIn K (.ref D) (.type "BaseException") = some true)
    (dDc : hasDictIn K D = true) (ha : findIn K (.ref D) "__class__" = some (some (.builtin "object.__class__")))
    (hn : specialIn K (.builtin "object.__class__") "__get__" = some (some (.builtin "getset_descriptor.__get__"))) (tTk : takesIn K (.builtin "object.__class__") = some true) (hm : mroIn K D (.type "object") = some true)
    (X : K.In s.heap) (I : InstAt s.heap x ox D od) (h : Q (some (.ref D)) { s with toks := s.toks + 1 }) : wpAny (model prog w) A (getAttr? (.ref x) "__class__") Q E s := by
  have fnd : findObj K D od "__class__" = some (.bind (.builtin "getset_descriptor.__get__") (.builtin "object.__class__")) := findObj_dataE (by obtain ⟨cd, hc, _⟩ := any_some dDc; rw [hc]; rfl) ha hn tTk
  obtain ⟨heap0, g, d, t, os⟩ := s
  have lkT := I.type (M := model prog w)
  have lkG := looks_findIn (M := model prog w) X gAt
  have lkA := looks_findIn (M := model prog w) X gGt
  have lkF := looks_find (M := model prog w) X I fnd
  have isBe : Looks (model prog w) heap0 (isInstance (.ref x) (.type "BaseException")) true := lkT.andThen (looks_subIn X sBe)
  have nb0 : (false && onTheHeap (Value.builtin "BaseException.__getattribute__")) = false := rfl
  have nb2 : (Value.builtin "BaseException.__getattribute__" == Value.builtin "object.__getattribute__") = false := by decide +kernel
  have nb1 : (onTheHeap (Value.ref D) && Value.builtin "BaseException.__getattribute__" == Value.builtin "object.__getattribute__") = false := by rw [nb2]; rfl
  unfold getAttr? getAttrBy? getAttrBy
  refine wpAny_bind (wpAny_mkText (wpAny_bind (wpAny_attempt (wpAny_holding (wpAny_bind (lkT.at (wpAny_bind (lkG.at ?_))))))))
  show wpAny _ _ (if (onTheHeap (Value.ref D) && Value.builtin "BaseException.__getattribute__" == Value.builtin "object.__getattribute__") = true then _ else _) _ _ _
  rw [nb1, if_neg Bool.false_ne_true]
  unfold getAttrByItsOwn hookBefore
  refine wpAny_bind ?_
  rw [if_pos (show onTheHeap (Value.ref D) = true from rfl)]
  refine lkA.at ?_
  refine wpAny_bind (wpAny_attempt (wpAny_holding ?_))
  unfold callGetattribute
  rw [nb0, if_neg Bool.false_ne_true]
  unfold boundAndCalled
  rw [PySem.F.excAttr_ValueError.ga.bind (.ref x)]
  refine wpAny_bind (wpAny_pure ?_)
  show wpAny _ _ (call (.builtin "BaseException.__getattribute__") [.ref x, .str "__class__" t]) _ _ _
  refine wpAny_call (codeAny_call_builtin PySem.F.excAttr_ValueError.ga.plain PySem.F.entry_bexc_ga ?_)
  refine @check_slot (model prog w) _ _ ⟨heap0, g, d, t + 1, os⟩ "BaseException.__getattribute__" "BaseException" "__getattribute__" (.ref x) [.str "__class__" t] [] _ (by decide +kernel) (by decide +kernel) isBe (PySem.F.args_bexc_ga (.ref x) (.str "__class__" t)) ?_
  unfold Builtin.«object.__getattribute__»
  refine wpAny_bind (wpAny_of_eq (a := ((Value.ref x : Value), [Value.str "__class__" t])) (by first | rfl | (simp only [slotArgs]; rfl)) ?_)
  refine wpAny_bind (wpAny_pure (wpAny_bind (lkT.at (wpAny_bind (lkF.at ?_)))))
  show wpAny _ _ (holding [Value.builtin "object.__class__"] (call (.builtin "getset_descriptor.__get__") [.builtin "object.__class__", .ref x, .ref D]) >>= ret) _ _ _
  refine wpAny_bind (wpAny_holding (wpAny_call (class_get (s := ⟨heap0, g, d, t + 1, os⟩) (ox := ox) (od := od) X I hm ?_)))
  refine wpAny_pure ?_
  show wpAny _ _ (handedOut (.ref D)) _ _ _
  rw [handedOut_of (v := .ref D) rfl]
  first
    | exact wpAny_pure (wpAny_pure h)
    | exact wpAny_pure h
    | exact wpAny_pure (wpAny_bind (wpAny_pure (wpAny_pure h)))
theorem kitx_excX (gAt : findIn K (.ref D) "__getattribute__" = some (some (.builtin "BaseException.__getattribute__"))) (gGt : findIn K (.ref D) "__getattr__" = some none) (sBe : subIn K (.ref D) (.type "BaseException") = some true) (dDc : hasDictIn K D = true) (ha : findIn K (.ref D) "__class__" = some (some (.builtin "object.__class__")))
    (hn : specialIn K (.builtin "object.__class__") "__get__" = some (some (.builtin "getset_descriptor.__get__"))) (tTk : takesIn K (.builtin "object.__class__") = some true) (hm : mroIn K D (.type "object") = some true) :
    KitX K (.ref x) (.ref D) (fun h => InstAt h x ox D od) where
  ty := fun _ _ _ I => I.type
  it := fun _ _ X _ => by
    obtain ⟨cdE, hcE, _⟩ := any_some dDc
    unfold clsIn at hcE
    split at hcE
    · rename_i c' d' cd' sl' ho
      intro A' Q' E' s' k q
      unfold isType loadHead
      exact wpAny_bind (wpAny_loadPart (k _ _ (X _ _ ho)) (wpAny_pure q))
    · cases hcE
  ne := fun h tp dd its n sl X htp => by
    obtain ⟨cdE, hcE, _⟩ := any_some dDc
    refine Bool.eq_false_iff.mpr fun q => ?_
    have e : D = tp := Value.ref.inj (beq_iff_eq.mp q)
    subst e
    unfold clsIn at hcE
    split at hcE
    · rename_i c' d' cd' sl' ho
      have z := (X _ _ ho).symm.trans htp
      cases z
    · cases hcE
  ca := fun X I k => kin_classX gAt gGt sBe dDc ha hn tTk hm X I k
end
section
open PySem PySem.Spec PyProof.Rows L2
/-- the caught error at a: of the class D, its dict d -/
def Err (H : Hp) (d : Option Addr) : Prop := d = none ∨ ∃ dd fs, d = some dd ∧ H dd = some (.xd fs)
theorem exc_inst {X : Cx} {a D : Addr} {oe : Obj} {pn pins : List (Addr × Obj)} {d : Option Addr} {σ : L2.St} {H : Hp} {s : Shared} (hz : Zc (.ref D) d oe) (hf : ∃ vs, oe.data = .fields vs) (I : Inv (X.suite a ((a, oe) :: pn)) pins σ H s) (he : Err H d) :
    ∃ od, PySem.W.InstAt s.heap a oe D od := by
  obtain ⟨hget, _⟩ := I.pin (a, oe) (List.mem_append.mpr (.inl List.mem_cons_self))
  obtain ⟨vs, hv⟩ := hf
  obtain ⟨oc, oda, odt, osl⟩ := oe
  obtain ⟨h1, h2⟩ := hz
  dsimp only at h1 h2 hv
  subst h1 h2 hv
  rcases he with rfl | ⟨dd, fs, rfl, hd⟩
  · exact ⟨none, hget, rfl, rfl, trivial⟩
  · have hx : ObjOk X.prog X.w H s.heap dd (.xd fs) := I.hok dd _ hd
    obtain ⟨mA, hns, hr⟩ := hx
    obtain ⟨od, ho, hl⟩ := lookIn_ns hns
    exact ⟨some od, hget, rfl, rfl, ho⟩
def rIsX (K : PySem.W.Frag) (D a : Addr) (cls : Value) (d : Option Addr) : List V → Hp → VK → Prop := fun xs H Q => cls = .ref D ∧ Err H d ∧ ∃ (c : V) (cv : Value) (b : Bool), xs = [.ref a, c] ∧ ClsV c cv ∧ PySem.W.kitOne K (.ref D) cv = some b ∧ Q (.bl b) H
def rIsXT (K : PySem.W.Frag) (D a : Addr) (cls : Value) (d : Option Addr) : List V → Hp → VK → Prop := fun xs H Q => cls = .ref D ∧ Err H d ∧ ∃ (tp : Addr) (cs : List V) (us : List Value) (b : Bool), xs = [.ref a, .ref tp] ∧ H tp = some (.tup cs) ∧ Paired ClsV cs us ∧ PySem.W.kitAny K (.ref D) us = some b ∧ Q (.bl b) H
theorem call_isX {X : Cx} {a D : Addr} {cls : Value} {d : Option Addr} {oe : Obj} {pn : List (Addr × Obj)} (C : ExcC X.K D) (hz : Zc cls d oe) (hf : ∃ vs, oe.data = .fields vs) : CallR (X.suite a ((a, oe) :: pn)) (.builtin "isinstance") (rIsX X.K D a cls d) := by
  intro pins s σ H xs us Q I r h
  obtain ⟨rfl, he, c, cv, b, rfl, hcv, e, q⟩ := h
  obtain ⟨od, J⟩ := exc_inst hz hf I he
  obtain ⟨u1, u2, rfl, r1, r2⟩ := vals2 r
  have ec := hcv.eq r2
  subst ec
  cases (show u1 = Value.ref a from r1)
  exact PySem.W.kia_one (kitx_excX C.hg C.hk C.hs C.hd C.ha C.hn C.ht C.hm) I.kIn J e (fun z => nomatch z) fun tk => ⟨.bl b, H, I.kept (t' := tk) fun _ _ z => z, rfl, q⟩
theorem call_isXT {X : Cx} {a D : Addr} {cls : Value} {d : Option Addr} {oe : Obj} {pn : List (Addr × Obj)} (C : ExcC X.K D) (hz : Zc cls d oe) (hf : ∃ vs, oe.data = .fields vs) : CallR (X.suite a ((a, oe) :: pn)) (.builtin "isinstance") (rIsXT X.K D a cls d) := by
  intro pins s σ H xs us Q I r h
  obtain ⟨rfl, he, tp, cs, ws, b, rfl, hT, k, e, q⟩ := h
  obtain ⟨od, J⟩ := exc_inst hz hf I he
  obtain ⟨u1, u2, rfl, r1, r2⟩ := vals2 r
  cases (show u1 = Value.ref a from r1)
  cases (show u2 = Value.ref tp from r2)
  obtain ⟨_, its, rv, o, h1, h2, n, h3⟩ := (show ObjOk X.prog X.w H s.heap tp (.tup cs) from I.hok tp _ hT)
  have e3 := ClsV.all k rv
  subst e3
  obtain ⟨oc, od', dt, sl⟩ := o
  simp only at h2 h3
  subst h2 h3
  exact PySem.W.kia_tup (kitx_excX C.hg C.hk C.hs C.hd C.ha C.hn C.ht C.hm) I.kIn J h1 e (fun z => nomatch z) fun tk => ⟨.bl b, H, I.kept (t' := tk) fun _ _ z => z, rfl, q⟩
/-! ### making an instance where what is raised is wished for at the caller's slots -/
def tMakeS (C : Addr) (sp : Sp) (dvs : List V) (E : L2.St → XK) (t : TA) : TE := fun σ H Q => t σ H fun vs H1 => ∀ x dx, H1 x = none → H1 dx = none → dx ≠ x →
  sp (.ref x :: (vs ++ dvs)) (upd (upd H1 dx (.own x)) x (.ins C dx [])) (fun v H2 => v = .non ∧ Q (.ref x) H2) (E σ)
section
variable {X : Cx} {CX : CXT} {k : Nat} {f C : Addr} {fd : FuncData} {ps : List Str} {sp : Sp} {dvs : List V} {ds : List Value} {E : L2.St → XK} {x m : Str} {p pos apos : Pos} {e o : Expr} {es : List Expr} {ta : TE} {t : TA}
theorem run_makeS {pins : List (Addr × Obj)} {σ : L2.St} {H : Hp} {s : Shared} {Q : VK} {us : List Value} {vs : List V} (M : Mk X.K C f) (F : FnOk X.prog X.w X.K X.mg X.base CX k f fd ps sp) (hr : Room (k + 1) X.A) (hb : Binds X.K fd ps ds) (hd : Vals dvs ds)
    (hx : PassesAt CX X σ (E σ)) (I : Inv X pins σ H s) (r : Vals vs us)
    (h : ∀ x dx, H x = none → H dx = none → dx ≠ x → sp (.ref x :: (vs ++ dvs)) (upd (upd H dx (.own x)) x (.ins C dx [])) (fun v H2 => v = .non ∧ Q (.ref x) H2) (E σ)) :
    wpAny (model X.prog X.w) X.A (call (.ref C) us) (EP X pins σ Q) X.xe s := by
  have hnew := h (s.heap.objs.size + 1) s.heap.objs.size (I.hok.fresh (Nat.le_succ _)) (I.hok.fresh (Nat.le_refl _)) (Nat.ne_of_lt (Nat.lt_succ_self _))
  have Inew := Inv.made (C := C) I
  have rAll : Vals (V.ref (s.heap.objs.size + 1) :: (vs ++ dvs)) (Value.ref (s.heap.objs.size + 1) :: (us ++ ds)) := .cons rfl (r.append hd)
  have hlen : (Value.ref (s.heap.objs.size + 1) :: us ++ ds).length = ps.length := by
    have e := rAll.length
    rw [F.len _ _ _ _ hnew] at e
    exact e.symm
  refine wpAny_call (make_map (f := f) I.kIn M.makes M.init (beq_iff_eq.mp M.fn) (codeAny_mono (F.run _ X.stack _ _ ⟨Value.ref (s.heap.objs.size + 1) :: us, []⟩ (Value.ref (s.heap.objs.size + 1) :: (us ++ ds)) _ _ (E σ) (hr.make C us [])
    (Inew.env0.make C us []) (hb _ (Value.ref (s.heap.objs.size + 1) :: us) Inew.kIn hlen) rAll hnew) fun r s' hend => ?_))
  cases r with
  | error e => exact hx pins _ _ e s' Inew hend
  | ok fl =>
    cases fl with
    | ret u =>
      obtain ⟨v, H', Iend, rVal, ev, qEnd⟩ := Inew.after hend
      subst ev
      exact ⟨rVal, ⟨V.ref (s.heap.objs.size + 1), H', Iend, rfl, qEnd⟩⟩
    | next => exact False.elim hend
    | brk => exact False.elim hend
    | cont => exact False.elim hend
theorem pe_makeS (M : Mk X.K C f) (F : FnOk X.prog X.w X.K X.mg X.base CX k f fd ps sp) (hr : Room (k + 1) X.A) (hg : Gl X x) (hm : X.mg x = some (.ref C)) (hb : Binds X.K fd ps ds) (hd : Vals dvs ds) (hx : ∀ σ, PassesAt CX X σ (E σ))
    (ha : PA X (e :: es) t) (hdb : (x == ("__debug__" : Str)) = false := by decide) (he : starEach (e :: es) X.env = (false, eval e X.env) :: starEach es X.env := by rfl) (hpl : (backTo pos (starEach es X.env)).any (·.1) = false := by rfl) :
    PE X (.Call (.Name x p) (e :: es) [] pos) (tMakeS C sp dvs E t) := by
  refine ⟨fun pins s σ H Q I h => ?_⟩
  refine wpAny_Call_Name_kw (ld_glob I hg hm ?_ hdb)
  refine PySem.W.callWith_K (h₀ := X.base) I.ok.mod.kin M.kp (thn (ha.run pos pins s σ H _ I h) fun us s1 ⟨vs, H1, I1, r, q⟩ => ⟨I1.kIn, ?_⟩) he hpl
  exact run_makeS M F hr hb hd (hx σ) I1 r q
end
/-- a class that is called: C(..), the promise of its __init__; dvs the defaults that fill up -/
structure CalC (P : Program) (w : World) (K : PySem.W.Frag) (mg : Str → Option Value) (base : Heap) (CX : CXT) (k : Nat) (C : Addr) (x : Str) (ps : List Str) (dvs : List V) (sp : Sp) : Prop where
  ex : ∃ (f : Addr) (fd : FuncData) (ds : List Value), Mk K C f ∧ FnOk P w K mg base CX k f fd ps sp ∧ mg x = some (.ref C) ∧ Binds K fd ps ds ∧ Vals dvs ds
theorem pe_mk {X : Cx} {k : Nat} {C : Addr} {x : Str} {ps : List Str} {dvs : List V} {sp : Sp} {p pos : Pos} {e : Expr} {es : List Expr} {t : TA} (M : CalC X.prog X.w X.K X.mg X.base (L2.CX X.prog X.w) k C x ps dvs sp) (hr : Room (k + 1) X.A) (ha : PA X (e :: es) t) (hg : Gl X x := by rfl)
    (hdb : (x == ("__debug__" : Str)) = false := by decide) (he : starEach (e :: es) X.env = (false, eval e X.env) :: starEach es X.env := by rfl) (hpl : (backTo pos (starEach es X.env)).any (·.1) = false := by rfl) :
    PE X (.Call (.Name x p) (e :: es) [] pos) (tMake C sp dvs E0 t) := by
  obtain ⟨f, fd, ds, M, F, m, b, d⟩ := M.ex
  exact pe_make M F hr hg m b d passL ha hdb he hpl
theorem pe_mkS {X : Cx} {W : WX} {k : Nat} {C : Addr} {x : Str} {ps : List Str} {dvs : List V} {sp : Sp} {p pos : Pos} {e : Expr} {es : List Expr} {t : TA} (M : CalC X.prog X.w X.K X.mg X.base (L2.CX X.prog X.w) k C x ps dvs sp) (tk : Takes X W) (hr : Room (k + 1) X.A) (ha : PA X (e :: es) t) (hg : Gl X x := by rfl)
    (hdb : (x == ("__debug__" : Str)) = false := by decide) (he : starEach (e :: es) X.env = (false, eval e X.env) :: starEach es X.env := by rfl) (hpl : (backTo pos (starEach es X.env)).any (·.1) = false := by rfl) :
    PE X (.Call (.Name x p) (e :: es) [] pos) (tMakeS C sp dvs (WE W) t) := by
  obtain ⟨f, fd, ds, M, F, m, b, d⟩ := M.ex
  exact pe_makeS M F hr hg m b d (fun σ => passAt tk σ) ha hdb he hpl
/-! ### a def that may raise -/
structure CalX (P : Program) (w : World) (K : PySem.W.Frag) (mg : Str → Option Value) (base : Heap) (k : Nat) (x : Str) (ps : List Str) (sp : Sp) : Prop where
  ex : ∃ (f : Addr) (fd : FuncData), FnOk P w K mg base (L2.CX P w) k f fd ps sp ∧ mg x = some (.ref f) ∧ PySem.W.keepIn K (.ref f) = true ∧ Binds K fd ps []
theorem Dfn.calX {P : Program} {w : World} {K : PySem.W.Frag} {mg : Str → Option Value} {base : Heap} {x qual : Str} {st : Stmt} {N ps : List Str} {k : Nat} {sp : Sp} (D : Dfn K mg x qual st ps) (S : FnScope N ps (defScope st)) (len : ∀ vs H Q E, sp vs H Q E → vs.length = ps.length)
    (hbody : ∀ (f : Addr) (cdv : Value) (A : Around) (outer : List Env) (s : Shared) (H : Hp) (vs : List V) (Q : VK) (E : XK), Room k (A.deeper (envOfC qual (defScope st) s.heap.objs.size f cdv)) → sp vs H Q E →
      ∃ t, PSs (cxOf (L2.CX P w) P w K mg base N qual (defScope st) f cdv A outer s H E) (defBody st) t ∧ t { nx := fun _ H' => Q .non H', rt := Q } (start N vs) H) : CalX P w K mg base (k + 1) x ps sp := by
  obtain ⟨f, fd, F, m, b⟩ := D.ex
  exact ⟨f, fd, F.okX S len (hbody f), m, F.kp, b⟩
theorem pe_calX {X : Cx} {k : Nat} {x : Str} {ps : List Str} {sp : Sp} {p pos : Pos} {e : Expr} {es : List Expr} {t : TA} (C : CalX X.prog X.w X.K X.mg X.base k x ps sp) (hr : Room k X.A) (ha : PA X (e :: es) t) (hg : Gl X x := by rfl)
    (hdb : (x == ("__debug__" : Str)) = false := by decide) (he : starEach (e :: es) X.env = (false, eval e X.env) :: starEach es X.env := by rfl) (hpl : (backTo pos (starEach es X.env)).any (·.1) = false := by rfl) :
    PE X (.Call (.Name x p) (e :: es) [] pos) (tCall sp [] E0 t) := by
  obtain ⟨f, fd, F, m, kp, b⟩ := C.ex
  exact pe_call F hr hg m kp b .nil passL ha hdb he hpl
theorem pe_calS {X : Cx} {W : WX} {k : Nat} {x : Str} {ps : List Str} {sp : Sp} {p pos : Pos} {e : Expr} {es : List Expr} {t : TA} (C : CalX X.prog X.w X.K X.mg X.base k x ps sp) (tk : Takes X W) (hr : Room k X.A) (ha : PA X (e :: es) t) (hg : Gl X x := by rfl)
    (hdb : (x == ("__debug__" : Str)) = false := by decide) (he : starEach (e :: es) X.env = (false, eval e X.env) :: starEach es X.env := by rfl) (hpl : (backTo pos (starEach es X.env)).any (·.1) = false := by rfl) :
    PE X (.Call (.Name x p) (e :: es) [] pos) (tCallS sp (WE W) t) := by
  obtain ⟨f, fd, F, m, kp, b⟩ := C.ex
  exact pe_callS F hr hg m kp b (fun σ => passAt tk σ) ha hdb he hpl
theorem exm_self {K : PySem.W.Frag} {S : Addr} (h1 : PySem.W.subIn K (.ref S) (.type "BaseException") = some true) (h2 : PySem.W.hasDictIn K S = true) (h3 : PySem.W.typeIn K (.ref S) = some (.type "type")) (h4 : PySem.W.subIn K (.ref S) (.ref S) = some true) :
    PySem.W.exmOne K (.ref S) (.ref S) = some true := PySem.W.exm_ref h1 h2 h3 h4
end
end Fl

set_option Elab.async false
set_option linter.all false
set_option maxRecDepth 100000
set_option maxHeartbeats 4000000
namespace Fl
open PySem PySem.Spec PyProof.Rows L2
/-! ### lowest terms -/
def sh (t u : Int) : Int := if u < 0 then -(Nat.gcd t.natAbs u.natAbs : Nat) else (Nat.gcd t.natAbs u.natAbs : Nat)
def nT (t u : Int) : Int := t.fdiv (sh t u)
def nU (t u : Int) : Int := u.fdiv (sh t u)
theorem sh_abs (t u : Int) : (sh t u).natAbs = Nat.gcd t.natAbs u.natAbs := by
  unfold sh
  split <;> omega
theorem sh_ne {t u : Int} (h : u ≠ 0) : sh t u ≠ 0 := by
  have h1 : 0 < Nat.gcd t.natAbs u.natAbs := Nat.gcd_pos_of_pos_right _ (by omega)
  have := sh_abs t u
  omega
theorem sh_dvd_t (t u : Int) : sh t u ∣ t := Int.natAbs_dvd_natAbs.mp (by rw [sh_abs]; exact Nat.gcd_dvd_left _ _)
theorem sh_dvd_u (t u : Int) : sh t u ∣ u := Int.natAbs_dvd_natAbs.mp (by rw [sh_abs]; exact Nat.gcd_dvd_right _ _)
theorem nT_mul (t u : Int) : nT t u * sh t u = t := by
  unfold nT
  exact Int.fdiv_mul_cancel (sh_dvd_t t u)
theorem nU_mul (t u : Int) : nU t u * sh t u = u := by
  unfold nU
  exact Int.fdiv_mul_cancel (sh_dvd_u t u)
theorem nU_pos {t u : Int} (h : u ≠ 0) : 0 < nU t u := by
  have h1 : 0 < Nat.gcd t.natAbs u.natAbs := Nat.gcd_pos_of_pos_right _ (by omega)
  have e := nU_mul t u
  by_cases hn : u < 0
  · have hs : sh t u < 0 := by
      unfold sh
      rw [if_pos hn]
      omega
    rcases Int.lt_trichotomy (nU t u) 0 with hc | hc | hc
    · have := Int.mul_pos_of_neg_of_neg hc hs
      omega
    · rw [hc] at e
      omega
    · exact hc
  · have hs : 0 < sh t u := by
      unfold sh
      rw [if_neg hn]
      omega
    rcases Int.lt_trichotomy (nU t u) 0 with hc | hc | hc
    · have := Int.mul_neg_of_neg_of_pos hc hs
      omega
    · rw [hc] at e
      omega
    · exact hc
theorem n_cross (t u : Int) : nT t u * u = t * nU t u := by
  have e1 := nT_mul t u
  have e2 := nU_mul t u
  calc nT t u * u = nT t u * (nU t u * sh t u) := by rw [e2]
    _ = nT t u * sh t u * nU t u := by rw [Int.mul_comm (nU t u), Int.mul_assoc]
    _ = t * nU t u := by rw [e1]
theorem n_gcd {t u : Int} (h : u ≠ 0) : Nat.gcd (nT t u).natAbs (nU t u).natAbs = 1 := by
  have h1 : 0 < Nat.gcd t.natAbs u.natAbs := Nat.gcd_pos_of_pos_right _ (by omega)
  have e1 : (nT t u).natAbs * Nat.gcd t.natAbs u.natAbs = t.natAbs := by rw [← sh_abs, ← Int.natAbs_mul, nT_mul]
  have e2 : (nU t u).natAbs * Nat.gcd t.natAbs u.natAbs = u.natAbs := by rw [← sh_abs, ← Int.natAbs_mul, nU_mul]
  have e3 : Nat.gcd ((nT t u).natAbs * Nat.gcd t.natAbs u.natAbs) ((nU t u).natAbs * Nat.gcd t.natAbs u.natAbs) = Nat.gcd t.natAbs u.natAbs := by
    rw [e1, e2]
  rw [Nat.gcd_mul_right] at e3
  exact Nat.eq_of_mul_eq_mul_right h1 (by rw [e3, Nat.one_mul])
theorem nU_le {t u : Int} (h : u ≠ 0) : (nU t u).natAbs ≤ u.natAbs := by
  have h1 : 0 < Nat.gcd t.natAbs u.natAbs := Nat.gcd_pos_of_pos_right _ (by omega)
  have e2 : (nU t u).natAbs * Nat.gcd t.natAbs u.natAbs = u.natAbs := by rw [← sh_abs, ← Int.natAbs_mul, nU_mul]
  rw [← e2]
  exact Nat.le_mul_of_pos_right _ h1
theorem nT_le {t u : Int} (h : u ≠ 0) : (nT t u).natAbs ≤ t.natAbs := by
  have h1 : 0 < Nat.gcd t.natAbs u.natAbs := Nat.gcd_pos_of_pos_right _ (by omega)
  have e2 : (nT t u).natAbs * Nat.gcd t.natAbs u.natAbs = t.natAbs := by rw [← sh_abs, ← Int.natAbs_mul, nT_mul]
  rw [← e2]
  exact Nat.le_mul_of_pos_right _ h1
/-- a fraction has one form in lowest terms -/
theorem low_one {a b c d : Int} (hb : 0 < b) (hd : 0 < d) (g1 : Nat.gcd a.natAbs b.natAbs = 1) (g2 : Nat.gcd c.natAbs d.natAbs = 1) (e : a * d = c * b) : a = c ∧ b = d := by
  have en : a.natAbs * d.natAbs = c.natAbs * b.natAbs := by rw [← Int.natAbs_mul, ← Int.natAbs_mul, e]
  have d1 : b.natAbs ∣ d.natAbs := (Nat.Coprime.dvd_of_dvd_mul_left (k := b.natAbs) (m := a.natAbs) (n := d.natAbs) (by rw [Nat.Coprime, Nat.gcd_comm]; exact g1) (by rw [en]; exact Nat.dvd_mul_left _ _))
  have d2 : d.natAbs ∣ b.natAbs := (Nat.Coprime.dvd_of_dvd_mul_left (k := d.natAbs) (m := c.natAbs) (n := b.natAbs) (by rw [Nat.Coprime, Nat.gcd_comm]; exact g2) (by rw [← en]; exact Nat.dvd_mul_left _ _))
  have e3 : b.natAbs = d.natAbs := Nat.dvd_antisymm d1 d2
  have e4 : b = d := by omega
  subst e4
  exact ⟨Int.eq_of_mul_eq_mul_right (by omega) e, rfl⟩
theorem n_uniq {a b t u : Int} (hu : u ≠ 0) (hb : 0 < b) (g : Nat.gcd a.natAbs b.natAbs = 1) (e : a * u = t * b) : a = nT t u ∧ b = nU t u := by
  refine low_one hb (nU_pos hu) g (n_gcd hu) ?_
  have e1 := n_cross t u
  refine Int.eq_of_mul_eq_mul_right hu ?_
  calc a * nU t u * u = a * u * nU t u := by rw [Int.mul_assoc, Int.mul_comm (nU t u), ← Int.mul_assoc]
    _ = t * b * nU t u := by rw [e]
    _ = t * nU t u * b := by rw [Int.mul_assoc, Int.mul_comm b, ← Int.mul_assoc]
    _ = nT t u * u * b := by rw [e1]
    _ = nT t u * b * u := by rw [Int.mul_assoc, Int.mul_comm u, ← Int.mul_assoc]
theorem n_self {a b : Int} (hb : 0 < b) (g : Nat.gcd a.natAbs b.natAbs = 1) : nT a b = a ∧ nU a b = b := by
  obtain ⟨h1, h2⟩ := n_uniq (a := a) (b := b) (t := a) (u := b) (by omega) hb g rfl
  exact ⟨h1.symm, h2.symm⟩
theorem n_one (t : Int) : nT t 1 = t ∧ nU t 1 = 1 := n_self (by decide) (by simp)
theorem n_scale {t u f : Int} (hu : u ≠ 0) (hf : f ≠ 0) : nT (t * f) (u * f) = nT t u ∧ nU (t * f) (u * f) = nU t u := by
  have hne : u * f ≠ 0 := Int.mul_ne_zero hu hf
  obtain ⟨h1, h2⟩ := n_uniq (a := nT t u) (b := nU t u) (t := t * f) (u := u * f) hne (nU_pos hu) (n_gcd hu) (by
    have e1 := n_cross t u
    calc nT t u * (u * f) = nT t u * u * f := by rw [Int.mul_assoc]
      _ = t * nU t u * f := by rw [e1]
      _ = t * f * nU t u := by rw [Int.mul_assoc, Int.mul_comm (nU t u), ← Int.mul_assoc])
  exact ⟨h1.symm, h2.symm⟩
/-! ### instances of Ratio -/
def rf (t u : Int) : List (Str × V) := putF "under" (.int u) (putF "top" (.int t) [])
theorem tu : ¬ (("top" : Str) = "under") := by decide +kernel
theorem ut : ¬ (("under" : Str) = "top") := by decide +kernel
theorem rf_top (t u : Int) : (rf t u).lookup ("top" : Str) = some (.int t) := by
  unfold rf
  rw [lookup_putF, if_neg tu, lookup_putF, if_pos rfl]
theorem rf_under (t u : Int) : (rf t u).lookup ("under" : Str) = some (.int u) := by
  unfold rf
  rw [lookup_putF, if_pos rfl]
theorem rf_no (t u : Int) {m : Str} (h1 : ¬ m = "under") (h2 : ¬ m = "top") : (rf t u).lookup m = none := by
  unfold rf
  rw [lookup_putF, if_neg h1, lookup_putF, if_neg h2]
  rfl
/-- a Ratio t / u stands at x -/
def RatAt (C : Addr) (H : Hp) (x : Addr) (t u : Int) : Prop := ∃ dx, H x = some (.ins C dx (rf t u))
theorem RatAt.keep {C p : Addr} {H H' : Hp} {x : Addr} {t u : Int} (h : RatAt C H x t u) (k : Keeps H H' p) (hp : x ≠ p) : RatAt C H' x t u := by
  obtain ⟨dx, h⟩ := h
  exact ⟨dx, k _ _ h hp⟩
theorem RatAt.same {C : Addr} {H H' : Hp} {x : Addr} {t u : Int} (h : RatAt C H x t u) (k : Same H H') : RatAt C H' x t u := by
  obtain ⟨dx, h⟩ := h
  exact ⟨dx, k _ _ h⟩
theorem RatAt.ne_pool {C : Addr} {p : Pla} {H : Hp} {x : Addr} {t u : Int} (h : RatAt C H x t u) (hp : Pool H p) : x ≠ p := by
  obtain ⟨dx, h⟩ := h
  obtain ⟨ns, i, b, c, d, h1, _⟩ := hp
  exact ne_of h h1 (by intro z; cases z)
/-- the class Ratio as the top has left it -/
structure RatC (K : PySem.W.Frag) (mg : Str → Option Value) (C : Addr) : Prop where
  cl : Cls K C
  nT : NoAttr K C "top"
  nU : NoAttr K C "under"
  g : mg "Ratio" = some (.ref C)
  ha : PySem.W.findIn K (.ref C) "__class__" = some (some (.builtin "object.__class__"))
  hn : PySem.W.specialIn K (.builtin "object.__class__") "__get__" = some (some (.builtin "getset_descriptor.__get__"))
  htk : PySem.W.takesIn K (.builtin "object.__class__") = some true
  hm : PySem.W.mroIn K C (.type "object") = some true
  ki : PySem.W.kitOne K (.type "int") (.ref C) = some false
theorem RatC.tyX {K : PySem.W.Frag} {mg : Str → Option Value} {C : Addr} (T : RatC K mg C) {H : Hp} {x dx : Addr} {fs : List (Str × V)} (h : H x = some (.ins C dx fs)) : TyX K H (.ref x) (.ref C) := .base (.ins h T.cl T.ha T.hn T.htk T.hm)
theorem kit_self {K : PySem.W.Frag} (v : Value) : PySem.W.kitOne K v v = some true := by
  unfold PySem.W.kitOne
  rw [if_pos (beq_self_eq_true v)]
/-- an error class of the program without __init__ -/
structure ExC (K : PySem.W.Frag) (mg : Str → Option Value) (nm : Str) (C : Addr) : Prop where
  x : PySem.W.excIn K C [.type "ValueError", .type "Exception", .type "BaseException", .type "object"] "ValueError.__new__" = true
  g : mg nm = some (.ref C)
  k : PySem.W.keepIn K (.ref C) = true
  b : PySem.W.subIn K (.ref C) (.type "BaseException") = some true
  t : PySem.W.typeIn K (.ref C) = some (.type "type")
  s : PySem.W.subIn K (.ref C) (.ref C) = some true
  e : ExcC K C
theorem ExC.exm {K : PySem.W.Frag} {mg : Str → Option Value} {x : Str} {C : Addr} (T : ExC K mg x C) : PySem.W.exmOne K (.ref C) (.ref C) = some true := exm_self T.b T.e.hd T.t T.s
theorem beq_ref_ne {a b : Addr} (h : a ≠ b) : (Value.ref a == Value.ref b) = false := by
  rw [beq_eq_false_iff_ne]
  intro e
  injection e with e
  exact h e
end Fl

set_option Elab.async false
set_option linter.all false
set_option maxRecDepth 100000
set_option maxHeartbeats 4000000
namespace Fl
open PySem PySem.Spec PyProof.Rows L2
/-! ### the error with a name and a value -/
structure BnC (K : PySem.W.Frag) (mg : Str → Option Value) (C : Addr) : Prop where
  o : OexC K C
  g : mg "BadNumber" = some (.ref C)
  nN : PySem.W.findIn K (.ref C) "name" = some none
  nV : PySem.W.findIn K (.ref C) "value" = some none
  e : ExcC K C
  s : PySem.W.subIn K (.ref C) (.ref C) = some true
theorem BnC.exm {K : PySem.W.Frag} {mg : Str → Option Value} {C : Addr} (T : BnC K mg C) : PySem.W.exmOne K (.ref C) (.ref C) = some true := exm_self T.o.exC T.e.hd T.o.tyC T.s
theorem BnC.xf {K : PySem.W.Frag} {mg : Str → Option Value} {C : Addr} (T : BnC K mg C) : XfC K C := ⟨T.e.hg, T.e.hk, T.e.hs, T.e.hd⟩
def bnf (n v : V) : List (Str × V) := [("value", v), ("name", n)]
theorem nv : ¬ (("name" : Str) = "value") := by decide +kernel
theorem look_ne {f g : Str} {v : V} {fs : List (Str × V)} (h : ¬ f = g) : List.lookup f ((g, v) :: fs) = List.lookup f fs := by
  have e : (f == g) = false := by simpa using h
  rw [List.lookup_cons, e]
theorem look_eq {f : Str} {v : V} {fs : List (Str × V)} : List.lookup f ((f, v) :: fs) = some v := by
  rw [List.lookup_cons, beq_self_eq_true]
theorem bnf_name (n v : V) : (bnf n v).lookup ("name" : Str) = some n := by
  unfold bnf
  rw [look_ne nv, look_eq]
theorem bnf_value (n v : V) : (bnf n v).lookup ("value" : Str) = some v := look_eq
def spBN (C : Addr) : Sp := fun vs H Q _ => ∃ (a : Addr) (n v : V), vs = [.ref a, n, v] ∧ H a = some (exo a C none) ∧ ∀ (dx : Addr), H dx = none → dx ≠ a → Q .non (upd (upd (upd H dx (exd dx [("name", n)])) a (exo a C (some dx))) dx (exd dx (bnf n v)))
structure CalE (P : Program) (w : World) (K : PySem.W.Frag) (mg : Str → Option Value) (base : Heap) (k : Nat) (C : Addr) : Prop where
  ex : ∃ (fI : Addr) (fd : FuncData), PySem.W.findIn K (.ref C) "__init__" = some (some (.ref fI)) ∧ PySem.W.typeIn K (.ref fI) = some (.type "function") ∧ FnOk P w K mg base CX0 k fI fd ["self", "name", "value"] (spBN C) ∧ Binds K fd ["self", "name", "value"] []
theorem pmk_bn {X : Cx} {k : Nat} {C : Addr} {p pos : Pos} {e : Expr} {es : List Expr} {ta : TA} (T : BnC X.K X.mg C) (B : CalE X.prog X.w X.K X.mg X.base k C) (hr : Room (k + 1) X.A) (ha : PA X (e :: es) ta) (hg : Gl X "BadNumber" := by rfl)
    (he : starEach (e :: es) X.env = (false, eval e X.env) :: starEach es X.env := by rfl) (hpl : (backTo pos (starEach es X.env)).any (·.1) = false := by rfl) : PMk X (.Call (.Name "BadNumber" p) (e :: es) [] pos) (tMkO C (spBN C) [] ta) := by
  obtain ⟨fI, fd, iC, tI, F, b⟩ := B.ex
  exact pmk_oex T.o iC tI F hr b .nil (fun _ _ _ _ _ _ _ h => h.elim) hg T.g ha (by decide +kernel) he hpl
/-- what is wished where BadNumber(n, v) leaves -/
def Ref (E : XK) (C : Addr) (H : Hp) (n : Str) (v : Int) : Prop := ∀ (d : Addr) (H' : Hp), Same H H' → H d = none → H' d = some (.xd (bnf (.str n) (.int v))) → E (.ref C) (some d) H'
theorem Ref.same {E : XK} {C : Addr} {H H1 : Hp} {n : Str} {v : Int} (h : Ref E C H n v) (s : Same H H1) : Ref E C H1 n v := fun d H' s' hd he => h d H' (s.trans s') (s.free hd) he
theorem bn_made {C : Addr} {n : Str} {v : Int} {H : Hp} {Q : XK} (k : Ref Q C H n v) : [V.str n, V.int v].length ≤ 1000 ∧ ∀ a, H a = none → spBN C (.ref a :: ([V.str n, V.int v] ++ [])) (upd H a (exo a C none))
    (fun z H2 => z = .non ∧ ∃ (d : Addr) (fs : List (Str × V)), H2 a = some (exo a C (some d)) ∧ H2 d = some (exd d fs) ∧ H d = none ∧ Q (.ref C) (some d) (upd (del H2 a) d (.xd fs))) (fun _ _ _ => False) := by
  refine ⟨(show 2 ≤ 1000 by decide), fun a ha => ⟨a, .str n, .int v, rfl, upd_same, fun dx hdx hne => ⟨rfl, dx, bnf (.str n) (.int v), ?_, upd_same, ?_, ?_⟩⟩⟩
  · rw [upd_ne (Ne.symm hne), upd_same]
  · rw [upd_ne hne] at hdx
    exact hdx
  · rw [upd_ne hne] at hdx
    refine k dx _ (fun b o e => ?_) hdx upd_same
    have h1 : b ≠ a := ne_of_none e ha
    have h2 : b ≠ dx := ne_of_none e hdx
    rw [upd_ne h2, del_ne h1, upd_ne h2, upd_ne h1, upd_ne h2, upd_ne h1]
    exact e
end Fl

set_option Elab.async false
set_option linter.all false
set_option maxRecDepth 100000
set_option maxHeartbeats 4000000
namespace Fl
/-! ### the sum of the whole parts of (a i + b) / m, i below n -/
def fs (m a b : Nat) : Nat → Nat
  | 0 => 0
  | n + 1 => fs m a b n + (a * n + b) / m
theorem tri_succ (n : Nat) : (n + 1) * n / 2 = n * (n - 1) / 2 + n := by
  cases n with
  | zero => rfl
  | succ k =>
    have e : (k + 1 + 1) * (k + 1) = (k + 1) * (k + 1 - 1) + 2 * (k + 1) := by
      rw [Nat.add_sub_cancel, show k + 1 + 1 = k + 2 from rfl, Nat.add_mul, Nat.mul_comm k (k + 1)]
    rw [e, Nat.add_mul_div_left _ _ (by decide)]
theorem fs_split {m : Nat} (hm : 0 < m) (a b : Nat) : ∀ n : Nat, fs m a b n = n * (n - 1) / 2 * (a / m) + n * (b / m) + fs m (a % m) (b % m) n
  | 0 => by simp [fs]
  | n + 1 => by
    have ih := fs_split hm a b n
    have e : (a * n + b) / m = n * (a / m) + b / m + ((a % m) * n + b % m) / m := by
      have e1 : a * n + b = (a % m * n + b % m) + m * (n * (a / m) + b / m) := by
        have h1 := Nat.mod_add_div a m
        have h2 := Nat.mod_add_div b m
        calc a * n + b = (a % m + m * (a / m)) * n + (b % m + m * (b / m)) := by rw [h1, h2]
          _ = (a % m * n + b % m) + m * (n * (a / m) + b / m) := by
            rw [Nat.add_mul, Nat.mul_add, Nat.mul_assoc, Nat.mul_comm (a / m) n]
            omega
      rw [e1, Nat.add_mul_div_left _ _ hm]
      omega
    show fs m a b n + (a * n + b) / m = (n + 1) * (n + 1 - 1) / 2 * (a / m) + (n + 1) * (b / m) + (fs m (a % m) (b % m) n + (a % m * n + b % m) / m)
    rw [Nat.add_sub_cancel, tri_succ, ih, e, Nat.add_mul, Nat.add_mul]
    omega
theorem fs_up {a m r : Nat} (ha : 0 < a) : ∀ k : Nat, fs a m (r + a) k = fs a m r k + k
  | 0 => rfl
  | k + 1 => by
    have ih := fs_up (m := m) (r := r) ha k
    show fs a m (r + a) k + (m * k + (r + a)) / a = fs a m r k + (m * k + r) / a + (k + 1)
    rw [ih, ← Nat.add_assoc, Nat.add_div_right _ ha]
    omega
theorem fs_shift {a m r : Nat} : ∀ k : Nat, fs a m r (k + 1) = r / a + fs a m (r + m) k
  | 0 => by
    show 0 + (m * 0 + r) / a = r / a + 0
    rw [Nat.mul_zero, Nat.zero_add, Nat.zero_add, Nat.add_zero]
  | k + 1 => by
    have ih := fs_shift (a := a) (m := m) (r := r) k
    show fs a m r (k + 1) + (m * (k + 1) + r) / a = r / a + (fs a m (r + m) k + (m * k + (r + m)) / a)
    rw [ih, Nat.mul_add, Nat.mul_one, Nat.add_assoc (m * k), Nat.add_comm m r]
    omega
theorem fs_swap {m a b : Nat} (ham : a < m) (hbm : b < m) (ha : 0 < a) : ∀ n : Nat, fs m a b n = fs a m ((a * n + b) % m) ((a * n + b) / m)
  | 0 => by
    have e : (a * 0 + b) / m = 0 := by
      rw [Nat.mul_zero, Nat.zero_add]
      exact Nat.div_eq_of_lt hbm
    rw [e]
    rfl
  | n + 1 => by
    have hm : 0 < m := by omega
    have ih := fs_swap ham hbm ha n
    show fs m a b n + (a * n + b) / m = _
    rw [ih]
    have hr := Nat.mod_lt (a * n + b) hm
    have hd := Nat.mod_add_div (a * n + b) m
    generalize hR : (a * n + b) % m = r at *
    generalize hK : (a * n + b) / m = K at *
    have e : a * (n + 1) + b = m * K + (r + a) := by
      rw [Nat.mul_add, Nat.mul_one]
      omega
    rw [e, Nat.mul_add_mod, Nat.mul_add_div hm]
    by_cases hc : r + a < m
    · rw [Nat.mod_eq_of_lt hc, Nat.div_eq_of_lt hc, Nat.add_zero, fs_up ha]
    · have h1 : (r + a) / m = 1 := by
        rw [Nat.div_eq_sub_div hm (by omega), Nat.div_eq_of_lt (by omega)]
      have h2 : (r + a) % m = r + a - m := by
        rw [Nat.mod_eq_sub_mod (by omega), Nat.mod_eq_of_lt (by omega)]
      rw [h1, h2, fs_shift, Nat.div_eq_of_lt (by omega : r + a - m < a), show r + a - m + m = r + a by omega, fs_up ha]
      omega
theorem fs_zero {m b : Nat} (hbm : b < m) : ∀ n : Nat, fs m 0 b n = 0
  | 0 => rfl
  | n + 1 => by
    show fs m 0 b n + (0 * n + b) / m = 0
    rw [fs_zero hbm n, Nat.zero_mul, Nat.zero_add, Nat.zero_add, Nat.div_eq_of_lt hbm]
/-- one turn of Euclid's rule -/
theorem fs_turn {m : Nat} (hm : 0 < m) (a b n : Nat) : fs m a b n = n * (n - 1) / 2 * (a / m) + n * (b / m) + fs (a % m) m ((a % m * n + b % m) % m) ((a % m * n + b % m) / m) := by
  rw [fs_split hm]
  have h1 := Nat.mod_lt a hm
  have h2 := Nat.mod_lt b hm
  by_cases h0 : a % m = 0
  · rw [h0, Nat.zero_mul, Nat.zero_add, fs_zero h2, Nat.div_eq_of_lt h2]
    rfl
  · rw [fs_swap h1 h2 (by omega)]
theorem fs_tot {n m a b tot : Nat} (hn : 0 < n) : (tot : Int) + (n : Int) * ((n : Int) - 1) / 2 * ((a : Int) / (m : Int)) + (n : Int) * ((b : Int) / (m : Int)) = ((tot + n * (n - 1) / 2 * (a / m) + n * (b / m) : Nat) : Int) := by
  have e : (n : Int) - 1 = ((n - 1 : Nat) : Int) := by omega
  rw [e]
  simp only [Int.natCast_add, Int.natCast_mul, Int.natCast_ediv]
  rfl
theorem fs_many_le {n m a b : Nat} (hm : 0 < m) (hn : 0 < n) : (a % m * n + b % m) / m ≤ n := by
  have h1 := Nat.mod_lt a hm
  have h2 := Nat.mod_lt b hm
  have h3 : a % m * n ≤ (m - 1) * n := Nat.mul_le_mul_right n (by omega)
  have h4 : (m - 1) * n = m * n - n := by rw [Nat.sub_mul, Nat.one_mul]
  have h5 : n ≤ m * n := Nat.le_mul_of_pos_left n hm
  refine Nat.le_of_lt_succ (Nat.div_lt_of_lt_mul ?_)
  rw [Nat.mul_succ]
  omega
end Fl

set_option Elab.async false
set_option linter.all false
set_option maxRecDepth 100000
set_option maxHeartbeats 4000000
namespace Fl
open PySem PySem.Spec PyProof.Rows L2
/-! ### several except clauses, each with a name -/
abbrev Suites := List (Value × Nat × (Addr → Value → Option Addr → TS))
inductive ClsOk (X : Cx) : List ExceptHandler → Suites → Prop
  | nil : ClsOk X [] []
  | cons {x n : Str} {c : Value} {i : Nat} {ts : Addr → Value → Option Addr → TS} {b : Stmt} {su : List Stmt} {p q : Pos} {hs : List ExceptHandler} {l : Suites} (at_ : X.N[i]? = some n) (lo : X.env.kindOf n = some .local) (nm : Names X x c)
      (go : ∀ (a : Addr) (o : Obj) (cls : Value) (d : Option Addr) (pn : List (Addr × Obj)), Zc cls d o → (∃ vs, o.data = .fields vs) → PSs (X.suite a ((a, o) :: pn)) (b :: su) (ts a cls d)) (r : ClsOk X hs l) : ClsOk X (.ExceptHandler (some (.Name x p)) (some n) (b :: su) q :: hs) ((c, i, ts) :: l)
def wCls (K : PySem.W.Frag) (Wo : WX) (D : Ends) : Suites → WX
  | [] => Wo
  | (c, i, ts) :: r => wAs K c i ts (wCls K Wo D r) D
theorem ps_try_cls {X : Cx} {body : List Stmt} {h : ExceptHandler} {hds : List ExceptHandler} {l : Suites} {pos : Pos} {tb : WX → TS} {Wo : WX} (hs : X.stack = X.env :: X.outer) (hf : X.env.frame = some X.env.locals) (nd : X.N.Nodup) (tk : Takes X Wo)
    (hb : ∀ (W : WX) (pn : List (Addr × Obj)) (xe : Value → Shared → Prop), Takes (X.tr pn xe) W → PassesOwn (model X.prog X.w) X.A X.env xe → PSs (X.tr pn xe) body (tb W)) (hh : ClsOk X (h :: hds) l) :
    PS X (.Try body (h :: hds) [] [] pos) (fun D σ H => tb (wCls X.K Wo D l) D σ H) := by
  refine ⟨fun pins s σ H D I hw => ?_⟩
  have ok := I.ok
  have fr1 : X.A.frames = some (X.env :: X.outer) := ok.frames.trans (by rw [hs])
  refine wpAny_Try_except (wpAny_mono ((hb (wCls X.K Wo D l) (X.pn ++ pins) (fun e t₁ => wpAny (model X.prog X.w) X.A (noteFrame e X.env) (fun _ t₂ => wpAny (model X.prog X.w) X.A (setFlight e none) (fun _ t₃ => wpAny (model X.prog X.w) X.A (handleBy e X.env (h :: hds)) (SP X pins D) X.xe t₃) X.xe t₂) X.xe t₁) (fun u s' xx => ?_) PassesOwn.looking).run [] s σ H D (I.toTry _) hw) (fun f s1 hsp => ?_) (fun e s1 he => he))
  · obtain ⟨a, B, sI, _, σ', H', cls, d, rfl, J0, nb, up, sk0, na, os, ag, wish⟩ := xx
    have J : Inv X pins σ' H' sI := J0.ofTry ok
    have sk1 : Sky B (X.env :: X.outer) a (Zc cls d) X.env.locals s'.heap := by rw [← hs]; exact sk0
    show wpAny (model X.prog X.w) X.A (noteFrame (.ref a) X.env) _ _ _
    refine Sky.land Zc.steady fr1 hf sk1 fun g3 f3 u3 => ?_
    have Jn : Inv X pins σ' H' { s' with heap := g3 } := J.landed nb f3.1 (up.trans u3) os ag
    obtain ⟨o3, vs3, ho3, hz3, hd3⟩ := f3.there
    have far : a ∉ frs (X.env :: X.outer) := fun m => by
      obtain ⟨_, o', e', bad⟩ := f3.2.2.1.mem m
      cases ho3.symm.trans e'
      exact bad _ hd3
    have nL : a ≠ X.env.locals := fun z => far (List.mem_filterMap.mpr ⟨X.env, List.mem_cons_self, by rw [hf, z]⟩)
    have nF : a ∉ X.fs := fun m => by
      obtain ⟨e, me, q⟩ := List.mem_filterMap.mp m
      exact far (List.mem_filterMap.mpr ⟨e, List.mem_cons_of_mem _ me, q⟩)
    have Sn := Jn.suite ho3 hd3 na nL nF
    have each : ∀ {gs : List ExceptHandler} {m : Suites}, ClsOk X gs m → wCls X.K Wo D m cls d σ' H' → wpAny (model X.prog X.w) X.A (handleBy (.ref a) X.env gs) (SP X pins D) X.xe { s' with heap := g3 } := by
      intro gs m hk
      induction hk with
      | nil =>
        intro w0
        refine wpAny_handleBy_nil ?_
        obtain ⟨_, _, _, oe, vs, T, oT, ts', he, hz, hd, h1, hr⟩ := id f3
        have fin : wpAny (model X.prog X.w) X.A (setFlight (.ref a) X.env.frame) (fun _ s4 => wpAny (model X.prog X.w) X.A (throw (.ref a) : Sem Flow) (SP X pins D) X.xe s4) X.xe { s' with heap := g3 } := by
          rw [hf]
          exact HandSPX.setFlight_upZ f3 fun h4 hh4 up4 => wpAny_throw (tk _ _ ⟨a, B, sI, pins, σ', H', cls, d, rfl, J, nb, (up.trans u3).trans up4, .inr (.inr (by rw [hs]; exact hh4)), na, os, ag, w0⟩)
        unfold PySem.passOn
        refine wpAny_bind (wpAny_field he hd h1 ?_)
        rw [if_neg (by simp : ¬ ((Value.ref T == Value.none) = true))]
        first | exact wpAny_bind (wpAny_pure (wpAny_bind fin)) | exact wpAny_bind fin
      | @cons x n c i ts b su p q hs' l' at_ lo nm go r ih =>
        rintro ⟨k, hk1, yes, no⟩
        refine wpAny_handleBy_cons (codeAny_handlers_test ?_) nofun
        have LM := PySem.W.exm_one (M := model X.prog X.w) Jn.kIn (fun A Q E s k q => wpAny_typeOf_ref (k _ _ ho3) (by rw [hz3.1]; exact q)) hk1
        have asked : ∀ {Q E : Value → Shared → Prop}, Q c { s' with heap := g3 } → wpAny (model X.prog X.w) (X.A.mark (some (.ref a))) (eval (.Name x p) X.env) Q E { s' with heap := g3 } := fun {Q E} y => by
          obtain ⟨g, db, hm | ⟨hm, hv, hn⟩⟩ := nm
          · exact ld_glob (X := X.suite a ((a, o3) :: (X.pn ++ pins))) Sn g hm y db
          · exact ld_blt (X := X.suite a ((a, o3) :: (X.pn ++ pins))) Sn g hm hv y hn db
        refine asked (LM.here ?_)
        cases k with
        | false => exact ih (no rfl)
        | true =>
          refine codeAny_handlers_suite_as (HandSPX.lands_againZ f3 fun g4 f4 u4 => ?_)
          have J4 : Inv X pins σ' H' { s' with heap := g4 } := J.landed nb f4.1 ((up.trans u3).trans u4) os ag
          obtain ⟨o4, vs4, ho4, hz4, hd4⟩ := f4.there
          have S4 := J4.suite ho4 hd4 na nL nF
          refine store_ok (X := X.suite a ((a, o4) :: (X.pn ++ pins))) (v := .ref a) S4 nd at_ (.inl lo) rfl (fun s5 S5 => ?_) (.inr lo)
          refine wpAny_mono ((go a o4 cls d (X.pn ++ pins) hz4 ⟨_, hd4⟩).run [] s5 _ H' _ S5 (yes rfl a na)) (fun f s6 z6 => ?_) (fun _ _ z => z.elim)
          have gone : ∀ {σ6 : L2.St} {H6 : Hp} {Q : Shared → Prop}, Inv (X.suite a ((a, o4) :: (X.pn ++ pins))) [] σ6 H6 s6 → (∀ s7, Inv X pins (σ6.set i none) H6 s7 → Q s7) → wpAny (model X.prog X.w) X.A (do bindName X.env n .none; unbindBehindTheSuite X.env n q) (fun _ s7 => Q s7) X.xe s6 := fun {σ6 H6 Q} S6 y => gone_ok (S6.unsuite ok) nd at_ lo y
          cases f with
          | ret u =>
            obtain ⟨v6, σ6, H6, S6, r6, q6⟩ := z6
            exact gone S6 fun s7 J7 => ⟨_, _, _, J7, r6, q6⟩
          | next => obtain ⟨σ6, H6, S6, q6⟩ := z6; exact gone S6 fun s7 J7 => ⟨_, _, J7, q6⟩
          | brk => obtain ⟨σ6, H6, S6, q6⟩ := z6; exact gone S6 fun s7 J7 => ⟨_, _, J7, q6⟩
          | cont => obtain ⟨σ6, H6, S6, q6⟩ := z6; exact gone S6 fun s7 J7 => ⟨_, _, J7, q6⟩
    exact each hh wish
  · cases f with
    | ret u => obtain ⟨v, σ', H', J', r, q⟩ := hsp; exact ⟨v, σ', H', J'.ofTry ok, r, q⟩
    | next => obtain ⟨σ', H', J', q⟩ := hsp; exact wpAny_execs_nil ⟨σ', H', J'.ofTry ok, q⟩
    | brk => obtain ⟨σ', H', J', q⟩ := hsp; exact ⟨σ', H', J'.ofTry ok, q⟩
    | cont => obtain ⟨σ', H', J', q⟩ := hsp; exact ⟨σ', H', J'.ofTry ok, q⟩
end Fl

set_option Elab.async false
set_option linter.all false
set_option maxRecDepth 100000
set_option maxHeartbeats 4000000
namespace Bx
open PySem PySem.Spec PyProof.Rows L2 Fl
theorem int_add_own (a : Int) (t : Tok) (x C dx : Addr) : Meets (Builtin.«int.__add__» ⟨[.int a t, .ref x], []⟩) (fun _ R s => s.heap.get? x = some (PySem.W.instObj C dx) ∧ R (.ok (.ret Value.notImplemented)) s) :=
  .of_wp fun prog w A R s h => by obtain ⟨hp, g, d, tk, os⟩ := s; obtain ⟨hl, h⟩ := h; unfold PySem.W.instObj at hl; wp_walk; exact ⟨_, rfl, h⟩
theorem int_sub_own (a : Int) (t : Tok) (x C dx : Addr) : Meets (Builtin.«int.__sub__» ⟨[.int a t, .ref x], []⟩) (fun _ R s => s.heap.get? x = some (PySem.W.instObj C dx) ∧ R (.ok (.ret Value.notImplemented)) s) :=
  .of_wp fun prog w A R s h => by obtain ⟨hp, g, d, tk, os⟩ := s; obtain ⟨hl, h⟩ := h; unfold PySem.W.instObj at hl; wp_walk; exact ⟨_, rfl, h⟩
theorem int_mul_own (a : Int) (t : Tok) (x C dx : Addr) : Meets (Builtin.«int.__mul__» ⟨[.int a t, .ref x], []⟩) (fun _ R s => s.heap.get? x = some (PySem.W.instObj C dx) ∧ R (.ok (.ret Value.notImplemented)) s) :=
  .of_wp fun prog w A R s h => by obtain ⟨hp, g, d, tk, os⟩ := s; obtain ⟨hl, h⟩ := h; unfold PySem.W.instObj at hl; wp_walk; exact ⟨_, rfl, h⟩
section
open PySem.W PySem.Calls
variable {prog : Program} {w : World} {A : Around} {E : Value → Shared → Prop} {s : Shared} {K : Frag} {x C L f g dx : Addr} {h₀ : Heap} {m : Str → Option Value} {od : Option Obj}
theorem bin_refl {op : Operator} {n : Int} {t : Tok} {id : String} {B : Builtin} {Q : Value → Shared → Prop} (F : Fr h₀ L s.heap m) (X₀ : K.In h₀) (I : PySem.W.InstAt s.heap x (PySem.W.instObj C dx) C od) (hc : selfFirst K C = true)
    (hs : findIn K (.ref C) (PySem.dunder op.info.2) = some (some (.ref f))) (hr : findIn K (.ref C) (dunderR op.info.2) = some (some (.ref g))) (hg : isFn K (.ref g) = true)
    (hsub : subIn K (.ref C) (.type "int") = some false) (fills : fillsNumberSlot (.type "int") op.info.2 = pure true) (slot : Slot "int" (PySem.dunder op.info.2) id) (entry : entryFor table id = some B) (args : argsOk id ⟨[.int n t, .ref x], []⟩)
    (mt : Meets (B ⟨[.int n t, .ref x], []⟩) (fun _ R s => s.heap.get? x = some (PySem.W.instObj C dx) ∧ R (.ok (.ret Value.notImplemented)) s))
    (h : wpAny (model prog w) A (call (.ref g) [.ref x, .int n t]) (PySem.W.CmpBack Q) E s) : wpAny (model prog w) A (binaryOp op (.int n t) (.ref x)) Q E s := by
  have X := X₀.keeps F.keep
  obtain ⟨cd, rest, hcd, hm⟩ := ksp_first hc
  rcases hi : op.info with ⟨sym, nm'⟩
  rw [hi] at hs hr fills slot
  dsimp only at hs hr fills slot
  have one := ksp_try X I hr hg h
  simp only [binaryOp, hi]
  refine wpAny_holding (wpAny_bind ?_)
  simp only [binaryOp1]
  refine wpAny_bind (wpAny_typeOf (typeIs_int s n t) (wpAny_bind (I.type.here (wpAny_bind (wpAny_of_eq fills ?_)))))
  have hne : (Value.type "int" == Value.ref C) = false := Bool.eq_false_iff.mpr fun q => by cases beq_iff_eq.mp q
  simp only [hne, Bool.false_eq_true, if_false]
  refine wpAny_bind ((fills_K X hcd hm hs).here ?_)
  simp only [Bool.and_self, if_true]
  refine wpAny_bind ((looks_subIn X hsub).here ?_)
  have hpy : numberSlotInPython (.type "int") nm' = pure false := rfl
  simp only [Bool.false_eq_true, if_false, pure_bind, Bool.not_false, Bool.and_self, if_true, hpy]
  refine wpAny_bind (wpAny_tryMethod_declines (typeIs_int s n t) slot (call_meets slot (typeIs_int s n t) entry args mt ⟨I.at_, ?_⟩))
  refine ⟨rfl, ?_⟩
  refine wpAny_bind (wpAny_mono one (fun r s' hr' => ?_) fun _ _ e => e)
  obtain ⟨v, rfl, hq⟩ := hr'
  exact wpAny_bind (wpAny_rule (wpAny_pure (wpAny_pure hq)))
end

section
open PySem.W PySem.Calls
variable {prog : Program} {w : World} {A : Around} {E : Value → Shared → Prop} {s : Shared} {K : Frag} {x C f : Addr} {ox : Obj} {od : Option Obj}
theorem call_abs_own {Q : Value → Shared → Prop} (X : K.In s.heap) (I : PySem.W.InstAt s.heap x ox C od) (hs : findIn K (.ref C) "__abs__" = some (some (.ref f))) (hf : isFn K (.ref f) = true)
    (h : wpAny (model prog w) A.in1 (call (.ref f) [.ref x]) Q E s) : wpAny (model prog w) A (call (.builtin "abs") [.ref x]) Q E s := by
  refine call_function_entry kind_abs plain_abs entry_abs (args_abs _) ?_
  unfold Builtin.«abs»
  refine wpAny_bind (wpAny_pure ?_)
  refine wpAny_bind (m := callSpecial? (.ref x) (Str.ofString "__abs__")) (special_fn X I hs (beq_iff_eq.mp hf) (wpAny_mono h (fun v s' hv => ?_) fun _ _ z => ?_))
  · exact wpAny_pure ⟨_, rfl, hv⟩
  · exact z
end
section
/-- the def that an operator's special name of the class C finds -/
structure OpOwn (P : Program) (w : World) (K : PySem.W.Frag) (mg : Str → Option Value) (base : Heap) (k : Nat) (C : Addr) (nm : Str) (ps : List Str) (sp : Sp) : Prop where
  ex : ∃ (f : Addr) (fd : FuncData), PySem.W.findIn K (.ref C) nm = some (some (.ref f)) ∧ PySem.W.isFn K (.ref f) = true ∧ FnOk P w K mg base CX0 k f fd ps sp ∧ Binds K fd ps []
def oR (Q : VK) : VK := fun v H2 => ∃ z, v = .ref z ∧ Q (.ref z) H2
def rOO (C : Addr) (sp : Sp) : R2 := fun x y H Q => ∃ (a dx : Addr) (gs : List (Str × V)) (b dy : Addr) (hs : List (Str × V)), x = .ref a ∧ H a = some (.ins C dx gs) ∧ y = .ref b ∧ H b = some (.ins C dy hs) ∧ sp [.ref a, .ref b] H (oR Q) E0
def rOI (C : Addr) (sp : Sp) : R2 := fun x y H Q => ∃ (a dx : Addr) (gs : List (Str × V)) (n : Int), x = .ref a ∧ H a = some (.ins C dx gs) ∧ y = .int n ∧ sp [.ref a, .int n] H (oR Q) E0
def rIO (C : Addr) (sp : Sp) : R2 := fun x y H Q => ∃ (a dx : Addr) (gs : List (Str × V)) (n : Int), y = .ref a ∧ H a = some (.ins C dx gs) ∧ x = .int n ∧ sp [.ref a, .int n] H (oR Q) E0
variable {X : Cx} {k : Nat} {C : Addr} {ps : List Str} {sp : Sp} {op : Operator}
theorem op_oo (M : OpOwn X.prog X.w X.K X.mg X.base k C (PySem.dunder op.info.2) ps sp) (hc : PySem.W.selfFirst X.K C = true) (hr : Room k X.A) : OpR X (binaryOp op) (rOO C sp) := by
  obtain ⟨f, fd, hs, hf, F, b⟩ := M.ex
  intro pins s σ H x y v u Q I rx ry h
  obtain ⟨a, dx, gs, b', dy, gs', rfl, ea, rfl, eb, q⟩ := h
  cases rx
  cases ry
  obtain ⟨mA, J, _⟩ := ins_get I.hok ea
  obtain ⟨od, J, _⟩ := J.look
  obtain ⟨mB, J', _⟩ := ins_get I.hok eb
  obtain ⟨od', J', _⟩ := J'.look
  obtain ⟨m, hF⟩ := I.fr
  refine PySem.W.binop_K hF I.ok.mod.kin J J'.type hc hs hf (wpAny_mono (run_fn F hr b (dvs := []) .nil pass0 I (.cons (show RelV (.ref a) (.ref a) from rfl) (.cons (show RelV (.ref b') (.ref b') from rfl) .nil)) q) (fun r s' hr => ?_) fun _ _ z => z)
  obtain ⟨z, H2, I2, rz, c, rfl, q2⟩ := hr
  cases rz
  exact ⟨V.ref c, H2, I2, rfl, q2⟩
theorem op_oi {rc : Option Value} {fo ro : Option Value} (M : OpOwn X.prog X.w X.K X.mg X.base k C (PySem.dunder op.info.2) ps sp) (hc : PySem.W.selfFirst X.K C = true) (hR : PySem.W.findIn X.K (.ref C) (dunderR op.info.2) = some rc) (hp : rc = none ∨ ∃ g : Addr, rc = some (.ref g))
    (h1 : PySem.W.findIn X.K (.type "int") (PySem.dunder op.info.2) = some fo) (h2 : PySem.W.findIn X.K (.type "int") (dunderR op.info.2) = some ro) (hsub : PySem.W.subIn X.K (.type "int") (.ref C) = some false) (hr : Room k X.A) : OpR X (binaryOp op) (rOI C sp) := by
  obtain ⟨f, fd, hs, hf, F, b⟩ := M.ex
  intro pins s σ H x y v u Q I rx ry h
  obtain ⟨a, dx, gs, n, rfl, ea, rfl, q⟩ := h
  cases rx
  obtain ⟨t, rfl⟩ := ry
  obtain ⟨mA, J, _⟩ := ins_get I.hok ea
  obtain ⟨od, J, _⟩ := J.look
  obtain ⟨m, hF⟩ := I.fr
  refine PySem.W.ksp_binT hF I.ok.mod.kin J (T := "int") rfl hc hs hf hR hp h1 h2 hsub (wpAny_mono (run_fn F hr b (dvs := []) .nil pass0 I (.cons (show RelV (.ref a) (.ref a) from rfl) (.cons (show RelV (.int n) (.int n t) from ⟨_, rfl⟩) .nil)) q) (fun r s' hr => ?_) fun _ _ z => z)
  obtain ⟨z, H2, I2, rz, c, rfl, q2⟩ := hr
  cases rz
  exact ⟨V.ref c, H2, I2, rfl, q2⟩
theorem op_io {f0 : Addr} {id : String} {B : Builtin} (M : OpOwn X.prog X.w X.K X.mg X.base k C (dunderR op.info.2) ps sp) (hc : PySem.W.selfFirst X.K C = true) (hs0 : PySem.W.findIn X.K (.ref C) (PySem.dunder op.info.2) = some (some (.ref f0))) (hsub : PySem.W.subIn X.K (.ref C) (.type "int") = some false)
    (fills : fillsNumberSlot (.type "int") op.info.2 = pure true) (slot : Slot "int" (PySem.dunder op.info.2) id) (entry : entryFor table id = some B) (args : ∀ a b, argsOk id ⟨[a, b], []⟩)
    (mt : ∀ (n : Int) (t : Tok) (x C dx : Addr), Meets (B ⟨[.int n t, .ref x], []⟩) (fun _ R s => s.heap.get? x = some (PySem.W.instObj C dx) ∧ R (.ok (.ret Value.notImplemented)) s)) (hr : Room k X.A) : OpR X (binaryOp op) (rIO C sp) := by
  obtain ⟨f, fd, hs, hf, F, b⟩ := M.ex
  intro pins s σ H x y v u Q I rx ry h
  obtain ⟨a, dx, gs, n, rfl, ea, rfl, q⟩ := h
  cases ry
  obtain ⟨t, rfl⟩ := rx
  obtain ⟨mA, J, _⟩ := ins_get I.hok ea
  obtain ⟨od, J, _⟩ := J.look
  obtain ⟨m, hF⟩ := I.fr
  refine bin_refl hF I.ok.mod.kin J hc hs0 hs hf hsub fills slot entry (args _ _) (mt n t a C dx) (wpAny_mono (run_fn F hr b (dvs := []) .nil pass0 I (.cons (show RelV (.ref a) (.ref a) from rfl) (.cons (show RelV (.int n) (.int n t) from ⟨_, rfl⟩) .nil)) q) (fun r s' hr => ?_) fun _ _ z => z)
  obtain ⟨z, H2, I2, rz, c, rfl, q2⟩ := hr
  cases rz
  exact ⟨V.ref c, H2, I2, rfl, q2⟩
def rNegO (C : Addr) (sp : Sp) : V → Hp → VK → Prop := fun x H Q => ∃ (a dx : Addr) (gs : List (Str × V)), x = .ref a ∧ H a = some (.ins C dx gs) ∧ sp [.ref a] H Q E0
theorem un_negO (M : OpOwn X.prog X.w X.K X.mg X.base k C "__neg__" ps sp) (hr : Room k X.A) : UnR X (unaryOp .USub) (rNegO C sp) := by
  obtain ⟨f, fd, hs, hf, F, b⟩ := M.ex
  intro pins s σ H x v Q I rx h
  obtain ⟨a, dx, gs, rfl, ea, q⟩ := h
  cases rx
  obtain ⟨mA, J, _⟩ := ins_get I.hok ea
  obtain ⟨od, J, _⟩ := J.look
  obtain ⟨m, hF⟩ := I.fr
  exact PySem.W.ksp_neg hF I.ok.mod.kin J hs hf (run_fn F hr b (dvs := []) .nil pass0 I (.cons (show RelV (.ref a) (.ref a) from rfl) .nil) q)
def rAbsO (C : Addr) (sp : Sp) : List V → Hp → VK → Prop := fun xs H Q => ∃ (a dx : Addr) (gs : List (Str × V)), xs = [.ref a] ∧ H a = some (.ins C dx gs) ∧ sp [.ref a] H Q E0
theorem call_absO (M : OpOwn X.prog X.w X.K X.mg X.base k C "__abs__" ps sp) (hr : Room (k + 1) X.A) : CallR X (.builtin "abs") (rAbsO C sp) := by
  obtain ⟨f, fd, hs, hf, F, b⟩ := M.ex
  intro pins s σ H xs us Q I r h
  obtain ⟨a, dx, gs, rfl, ea, q⟩ := h
  obtain ⟨u, rfl, rx⟩ := vals1 r
  cases rx
  obtain ⟨mA, J, _⟩ := ins_get I.hok ea
  obtain ⟨od, J, _⟩ := J.look
  have hl := F.len _ _ _ _ q
  have r2 : Vals [V.ref a] [Value.ref a] := .cons (show RelV (.ref a) (.ref a) from rfl) .nil
  have bb := b s [.ref a] I.kIn (by simpa using hl)
  rw [List.append_nil] at bb
  refine call_abs_own I.kIn J hs hf (wpAny_call (codeAny_mono (F.run X.A.in1 X.stack s H ⟨[.ref a], []⟩ [.ref a] [.ref a] Q E0 hr.in1 I.env0.in1 bb r2 q) fun r s' hq => ?_))
  cases r with
  | error e => exact (pass0 pins σ H s e s' I hq)
  | ok fl =>
    cases fl with
    | ret z => exact I.after hq
    | next => exact False.elim hq
    | brk => exact False.elim hq
    | cont => exact False.elim hq
end
end Bx

set_option Elab.async false
set_option linter.all false
set_option maxRecDepth 100000
set_option maxHeartbeats 4000000
namespace Bx
open PySem PySem.Spec PyProof.Rows L2 Fl
section
/-- a def of the class that may raise what its spec says -/
structure OwnX (P : Program) (w : World) (K : PySem.W.Frag) (mg : Str → Option Value) (base : Heap) (k : Nat) (C : Addr) (nm : Str) (ps : List Str) (sp : Sp) : Prop where
  ex : ∃ (f : Addr) (fd : FuncData), PySem.W.findIn K (.ref C) nm = some (some (.ref f)) ∧ PySem.W.isFn K (.ref f) = true ∧ PySem.W.keepIn K (.ref f) = true ∧ FnOk P w K mg base (L2.CX P w) k f fd ps sp ∧ Binds K fd ps []
variable {X : Cx} {k : Nat} {C : Addr} {ps : List Str} {sp : Sp} {op : Operator} {E : L2.St → XK}
def tMethX (C : Addr) (m : Str) (sp : Sp) (E : L2.St → XK) (ta : TE) (t : TA) : TE := fun σ H Q => ta σ H fun x H1 => ∃ a dx fs, x = .ref a ∧ H1 a = some (.ins C dx fs) ∧ fs.lookup m = none ∧ t σ H1 fun vs H2 => sp (x :: vs) H2 Q (E σ)
theorem pe_methX {pl : Sem Bool} {m : Str} {o e : Expr} {es : List Expr} {apos pos : Pos} {ta : TE} {t : TA} (M : OwnX X.prog X.w X.K X.mg X.base k C m ps sp) (c : Cls X.K C) (hx : ∀ σ, PassesAt (L2.CX X.prog X.w) X σ (E σ)) (hr : Room k X.A) (he : PE X o ta) (ha : PA X (e :: es) t)
    (hst : starEach (e :: es) X.env = (false, eval e X.env) :: starEach es X.env := by rfl) (hpl : (backTo pos (starEach es X.env)).any (·.1) = false := by rfl)
    (ht : eval (.Call (.Attribute o m apos) (e :: es) [] pos) X.env = (do
      let ov ← eval o X.env
      standAt apos.atName
      let (f, first) ← holding [ov] (getMethod ov m pl)
      callWith pos f first (backTo pos (starEach (e :: es) X.env)) (backToKw pos (keywordEach [] X.env))) := by rfl) :
    PE X (.Call (.Attribute o m apos) (e :: es) [] pos) (tMethX C m sp E ta t) := by
  obtain ⟨f, fd, h1, h2, h3, F, b⟩ := M.ex
  refine ⟨fun pins s σ H Q I h => ?_⟩
  refine PySem.W.methodCall_KW (pl := pl) (thn (he.run pins s σ H _ I h) fun u s1 ⟨x, H1, I1, rx, a, dx, fs, ex, ea, l, q⟩ => ?_) ht
  subst ex
  obtain rfl : u = Value.ref a := rx
  refine getmeth_ok I1 ea c ⟨h1, h2, h3⟩ l ?_
  refine PySem.W.callWith_K (first := [.ref a]) (h₀ := X.base) I.ok.mod.kin h3 (thn (ha.run pos pins s1 σ H1 _ I1 q) fun us s2 ⟨vs, H2, I2, r, q2⟩ => ⟨I2.kIn, ?_⟩) hst hpl
  exact run_fnS (us := .ref a :: us) (vs := .ref a :: vs) (E := E) F hr b (hx σ) I2 (.cons rfl r) q2
/-- what comes back: a reference or a whole number -/
def oA (Q : VK) : VK := fun v H2 => ((∃ z, v = .ref z) ∨ ∃ i, v = .int i) ∧ Q v H2
def rOwnX (C : Addr) (sp : Sp) (E : L2.St → XK) : L2.St → R2 := fun σ x y H Q => ∃ (a dx : Addr) (gs : List (Str × V)), x = .ref a ∧ H a = some (.ins C dx gs) ∧ ((∃ (b dy : Addr) (hs : List (Str × V)), y = .ref b ∧ H b = some (.ins C dy hs)) ∨ ∃ n : Int, y = .int n) ∧ sp [x, y] H (oA Q) (E σ)
def tOpS (R : L2.St → R2) (ta tb : TE) : TE := fun σ H Q => ta σ H fun x H1 => tb σ H1 fun y H2 => R σ x y H2 Q
theorem back {pins : List (Addr × Obj)} {σ : L2.St} {Q : VK} {r : Value} {s' : Shared} (h : EP X pins σ (oA Q) r s') : PySem.W.CmpBack (EP X pins σ Q) r s' := by
  obtain ⟨z, H2, I2, rz, c, q2⟩ := h
  rcases c with ⟨c, rfl⟩ | ⟨i, rfl⟩
  · cases rz
    exact ⟨V.ref c, H2, I2, rfl, q2⟩
  · obtain ⟨t, rfl⟩ := rz
    exact ⟨V.int i, H2, I2, ⟨t, rfl⟩, q2⟩
theorem pe_ownX {rc fo ro : Option Value} {a b : Expr} {ta tb : TE} {pos : Pos} (M : OwnX X.prog X.w X.K X.mg X.base k C (PySem.dunder op.info.2) ps sp) (hx : ∀ σ, PassesAt (L2.CX X.prog X.w) X σ (E σ)) (hc : PySem.W.selfFirst X.K C = true)
    (hR : PySem.W.findIn X.K (.ref C) (dunderR op.info.2) = some rc) (hp : rc = none ∨ ∃ g : Addr, rc = some (.ref g)) (h1 : PySem.W.findIn X.K (.type "int") (PySem.dunder op.info.2) = some fo) (h2 : PySem.W.findIn X.K (.type "int") (dunderR op.info.2) = some ro)
    (hsub : PySem.W.subIn X.K (.type "int") (.ref C) = some false) (hr : Room k X.A) (ha : PE X a ta) (hb : PE X b tb) : PE X (.BinOp a op b pos) (tOpS (rOwnX C sp E) ta tb) := by
  obtain ⟨f, fd, hs, hf, hk, F, bd⟩ := M.ex
  refine ⟨fun pins s σ H Q I h => ?_⟩
  refine wpAny_BinOp (binT ha hb I h fun v u s2 x y H2 I2 rx ry q => ?_)
  obtain ⟨a', dx, gs, rfl, ea, hy, q⟩ := q
  cases rx
  obtain ⟨mA, J, _⟩ := ins_get I2.hok ea
  obtain ⟨od, J, _⟩ := J.look
  obtain ⟨m, hF⟩ := I2.fr
  have run := run_fnS (E := E) F hr bd (hx σ) I2 (.cons (show RelV (.ref a') (.ref a') from rfl) (.cons ry .nil)) q
  rcases hy with ⟨b', dy, gs', rfl, eb⟩ | ⟨n, rfl⟩
  · cases ry
    obtain ⟨mB, J', _⟩ := ins_get I2.hok eb
    obtain ⟨od', J', _⟩ := J'.look
    exact PySem.W.binop_K hF I2.ok.mod.kin J J'.type hc hs hf (wpAny_mono run (fun r s' hr => back hr) fun _ _ z => z)
  · obtain ⟨t, rfl⟩ := ry
    exact PySem.W.ksp_binT hF I2.ok.mod.kin J (T := "int") rfl hc hs hf hR hp h1 h2 hsub (wpAny_mono run (fun r s' hr => back hr) fun _ _ z => z)
theorem op_or {f : Value → Value → Sem Value} {r1 r2 : R2} (h1 : OpR X f r1) (h2 : OpR X f r2) : OpR X f (fun x y H Q => r1 x y H Q ∨ r2 x y H Q) := fun pins s σ H x y v u Q I rx ry h => h.elim (h1 pins s σ H x y v u Q I rx ry) (h2 pins s σ H x y v u Q I rx ry)
end
end Bx

set_option Elab.async false
set_option linter.all false
set_option maxRecDepth 100000
set_option maxHeartbeats 4000000
namespace Bx
open PySem PySem.Spec PyProof.Rows L2 Fl
theorem int_lt_own (a : Int) (t : Tok) (x C dx : Addr) : Meets (Builtin.«int.__lt__» ⟨[.int a t, .ref x], []⟩) (fun _ R s => s.heap.get? x = some (PySem.W.instObj C dx) ∧ R (.ok (.ret Value.notImplemented)) s) :=
  .of_wp fun prog w A R s h => by obtain ⟨hp, g, d, tk, os⟩ := s; obtain ⟨hl, h⟩ := h; unfold PySem.W.instObj at hl; wp_walk; exact ⟨_, rfl, h⟩
theorem int_le_own (a : Int) (t : Tok) (x C dx : Addr) : Meets (Builtin.«int.__le__» ⟨[.int a t, .ref x], []⟩) (fun _ R s => s.heap.get? x = some (PySem.W.instObj C dx) ∧ R (.ok (.ret Value.notImplemented)) s) :=
  .of_wp fun prog w A R s h => by obtain ⟨hp, g, d, tk, os⟩ := s; obtain ⟨hl, h⟩ := h; unfold PySem.W.instObj at hl; wp_walk; exact ⟨_, rfl, h⟩
theorem int_gt_own (a : Int) (t : Tok) (x C dx : Addr) : Meets (Builtin.«int.__gt__» ⟨[.int a t, .ref x], []⟩) (fun _ R s => s.heap.get? x = some (PySem.W.instObj C dx) ∧ R (.ok (.ret Value.notImplemented)) s) :=
  .of_wp fun prog w A R s h => by obtain ⟨hp, g, d, tk, os⟩ := s; obtain ⟨hl, h⟩ := h; unfold PySem.W.instObj at hl; wp_walk; exact ⟨_, rfl, h⟩
theorem int_ge_own (a : Int) (t : Tok) (x C dx : Addr) : Meets (Builtin.«int.__ge__» ⟨[.int a t, .ref x], []⟩) (fun _ R s => s.heap.get? x = some (PySem.W.instObj C dx) ∧ R (.ok (.ret Value.notImplemented)) s) :=
  .of_wp fun prog w A R s h => by obtain ⟨hp, g, d, tk, os⟩ := s; obtain ⟨hl, h⟩ := h; unfold PySem.W.instObj at hl; wp_walk; exact ⟨_, rfl, h⟩
theorem int_eq_own (a : Int) (t : Tok) (x C dx : Addr) : Meets (Builtin.«int.__eq__» ⟨[.int a t, .ref x], []⟩) (fun _ R s => s.heap.get? x = some (PySem.W.instObj C dx) ∧ R (.ok (.ret Value.notImplemented)) s) :=
  .of_wp fun prog w A R s h => by obtain ⟨hp, g, d, tk, os⟩ := s; obtain ⟨hl, h⟩ := h; unfold PySem.W.instObj at hl; wp_walk; exact ⟨_, rfl, h⟩
theorem int_ne_own (a : Int) (t : Tok) (x C dx : Addr) : Meets (Builtin.«int.__ne__» ⟨[.int a t, .ref x], []⟩) (fun _ R s => s.heap.get? x = some (PySem.W.instObj C dx) ∧ R (.ok (.ret Value.notImplemented)) s) :=
  .of_wp fun prog w A R s h => by obtain ⟨hp, g, d, tk, os⟩ := s; obtain ⟨hl, h⟩ := h; unfold PySem.W.instObj at hl; wp_walk; exact ⟨_, rfl, h⟩
section
open PySem.W PySem.Calls
variable {prog : Program} {w : World} {A : Around} {E : Value → Shared → Prop} {s : Shared} {K : Frag} {x C L f g dx : Addr} {h₀ : Heap} {m : Str → Option Value} {od : Option Obj}
theorem cmp_refl {op : CmpOp} {n : Int} {t : Tok} {id : String} {B : Builtin} {Q : Value → Shared → Prop} (hu : A.units < cLine) (F : Fr h₀ L s.heap m) (X₀ : K.In h₀) (I : PySem.W.InstAt s.heap x (PySem.W.instObj C dx) C od)
    (hr : findIn K (.ref C) (cmpInfo op).2.2 = some (some (.ref g))) (hg : isFn K (.ref g) = true)
    (hsub : subIn K (.ref C) (.type "int") = some false) (slot : Slot "int" (cmpInfo op).2.1 id) (entry : entryFor table id = some B) (args : argsOk id ⟨[.int n t, .ref x], []⟩)
    (mt : Meets (B ⟨[.int n t, .ref x], []⟩) (fun _ R s => s.heap.get? x = some (PySem.W.instObj C dx) ∧ R (.ok (.ret Value.notImplemented)) s))
    (h : wpAny (model prog w) A (call (.ref g) [.ref x, .int n t]) (PySem.W.CmpBack Q) E s) : wpAny (model prog w) A (richCompare op (.int n t) (.ref x)) Q E s := by
  have X := X₀.keeps F.keep
  have one : wpAny (model prog w) A (tryCompare (.ref x) (cmpInfo op).2.2 (.int n t)) (fun r s' => ∃ v, r = some v ∧ Q v s') E s := by
    unfold tryCompare
    refine wpAny_bind (ifBound_K X I hr hg (wpAny_mono h (fun v s' hv => ?_) fun _ _ e => e))
    cases v <;> first | exact hv.elim | exact wpAny_pure ⟨_, rfl, hv⟩
  have ot : oneThing? op (.int n t) (.ref x) = none := rfl
  unfold richCompare
  simp only [ot]
  refine wpAny_holding (wpAny_bind (wpAny_cRoomFor hu ?_))
  refine wpAny_bind (wpAny_typeOf (typeIs_int s n t) (wpAny_bind (I.type.here ?_)))
  have hne : (Value.type "int" != Value.ref C) = true := by
    rw [bne_iff_ne]
    intro q
    cases q
  simp only [hne, if_true]
  refine wpAny_bind ((looks_subIn X hsub).here ?_)
  simp only [Bool.false_eq_true, if_false, Bool.not_false, if_true]
  refine wpAny_bind (wpAny_tryCompare_declines (typeIs_int s n t) slot (call_meets slot (typeIs_int s n t) entry args mt ⟨I.at_, ?_⟩))
  refine ⟨rfl, ?_⟩
  refine wpAny_bind (wpAny_mono one (fun r s' hr' => ?_) fun _ _ e => e)
  obtain ⟨v, rfl, hq⟩ := hr'
  exact wpAny_pure hq
end
section
variable {X : Cx} {k : Nat} {C : Addr} {ps : List Str} {sp : Sp} {op : CmpOp}
def oB (Q : VK) : VK := fun v H2 => ∃ b, v = .bl b ∧ Q (.bl b) H2
/-- own op y: y of the same class -/
def cOO (C : Addr) (sp : Sp) : R2 := fun x y H Q => ∃ (a dx : Addr) (gs : List (Str × V)) (b dy : Addr) (hs : List (Str × V)), x = .ref a ∧ H a = some (.ins C dx gs) ∧ y = .ref b ∧ H b = some (.ins C dy hs) ∧ sp [.ref a, .ref b] H (oB Q) E0
def cOI (C : Addr) (sp : Sp) : R2 := fun x y H Q => ∃ (a dx : Addr) (gs : List (Str × V)) (n : Int), x = .ref a ∧ H a = some (.ins C dx gs) ∧ y = .int n ∧ sp [.ref a, .int n] H (oB Q) E0
def cIO (C : Addr) (sp : Sp) : R2 := fun x y H Q => ∃ (a dx : Addr) (gs : List (Str × V)) (n : Int), y = .ref a ∧ H a = some (.ins C dx gs) ∧ x = .int n ∧ sp [.ref a, .int n] H (oB Q) E0
theorem backB {pins : List (Addr × Obj)} {σ : L2.St} {Q : VK} {r : Value} {s' : Shared} (h : EP X pins σ (oB Q) r s') : PySem.W.CmpBack (EP X pins σ Q) r s' := by
  obtain ⟨z, H2, I2, rz, c, rfl, q2⟩ := h
  cases rz
  exact ⟨V.bl c, H2, I2, rfl, q2⟩
theorem cmp_oo (hop : ∀ a b, compareOp op a b = richCompare op a b) (M : OpOwn X.prog X.w X.K X.mg X.base k C (cmpInfo op).2.1 ps sp) (hu : X.A.units < cLine) (hr : Room k X.A) : OpR X (compareOp op) (cOO C sp) := by
  obtain ⟨f, fd, hs, hf, F, b⟩ := M.ex
  intro pins s σ H x y v u Q I rx ry h
  obtain ⟨a, dx, gs, b', dy, gs', rfl, ea, rfl, eb, q⟩ := h
  cases rx
  cases ry
  obtain ⟨mA, J, _⟩ := ins_get I.hok ea
  obtain ⟨od, J, _⟩ := J.look
  obtain ⟨mB, J', _⟩ := ins_get I.hok eb
  obtain ⟨od', J', _⟩ := J'.look
  obtain ⟨m, hF⟩ := I.fr
  rw [hop]
  refine PySem.W.cmp_K hu hF I.ok.mod.kin J J'.type (by unfold PySem.W.notFirst; simp) hs hf (wpAny_mono (run_fn F hr b (dvs := []) .nil pass0 I (.cons (show RelV (.ref a) (.ref a) from rfl) (.cons (show RelV (.ref b') (.ref b') from rfl) .nil)) q) (fun r s' hr => backB hr) fun _ _ z => z)
theorem cmp_oi (hop : ∀ a b, compareOp op a b = richCompare op a b) (M : OpOwn X.prog X.w X.K X.mg X.base k C (cmpInfo op).2.1 ps sp) (hsub : PySem.W.subIn X.K (.type "int") (.ref C) = some false) (hu : X.A.units < cLine) (hr : Room k X.A) : OpR X (compareOp op) (cOI C sp) := by
  obtain ⟨f, fd, hs, hf, F, b⟩ := M.ex
  intro pins s σ H x y v u Q I rx ry h
  obtain ⟨a, dx, gs, n, rfl, ea, rfl, q⟩ := h
  cases rx
  obtain ⟨t, rfl⟩ := ry
  obtain ⟨mA, J, _⟩ := ins_get I.hok ea
  obtain ⟨od, J, _⟩ := J.look
  obtain ⟨m, hF⟩ := I.fr
  rw [hop]
  refine PySem.W.cmp_K (tb := .type "int") hu hF I.ok.mod.kin J (PySem.W.Looks.of_pure rfl) (by unfold PySem.W.notFirst; rw [hsub]; simp) hs hf (wpAny_mono (run_fn F hr b (dvs := []) .nil pass0 I (.cons (show RelV (.ref a) (.ref a) from rfl) (.cons (show RelV (.int n) (.int n t) from ⟨_, rfl⟩) .nil)) q) (fun r s' hr => backB hr) fun _ _ z => z)
theorem cmp_io {id : String} {B : Builtin} (hop : ∀ a b, compareOp op a b = richCompare op a b) (M : OpOwn X.prog X.w X.K X.mg X.base k C (cmpInfo op).2.2 ps sp) (hsub : PySem.W.subIn X.K (.ref C) (.type "int") = some false) (slot : Slot "int" (cmpInfo op).2.1 id) (entry : entryFor table id = some B) (args : ∀ a b, argsOk id ⟨[a, b], []⟩)
    (mt : ∀ (n : Int) (t : Tok) (x C dx : Addr), Meets (B ⟨[.int n t, .ref x], []⟩) (fun _ R s => s.heap.get? x = some (PySem.W.instObj C dx) ∧ R (.ok (.ret Value.notImplemented)) s)) (hu : X.A.units < cLine) (hr : Room k X.A) : OpR X (compareOp op) (cIO C sp) := by
  obtain ⟨f, fd, hs, hf, F, b⟩ := M.ex
  intro pins s σ H x y v u Q I rx ry h
  obtain ⟨a, dx, gs, n, rfl, ea, rfl, q⟩ := h
  cases ry
  obtain ⟨t, rfl⟩ := rx
  obtain ⟨mA, J, _⟩ := ins_get I.hok ea
  obtain ⟨od, J, _⟩ := J.look
  obtain ⟨m, hF⟩ := I.fr
  rw [hop]
  refine cmp_refl hu hF I.ok.mod.kin J hs hf hsub slot entry (args _ _) (mt n t a C dx) (wpAny_mono (run_fn F hr b (dvs := []) .nil pass0 I (.cons (show RelV (.ref a) (.ref a) from rfl) (.cons (show RelV (.int n) (.int n t) from ⟨_, rfl⟩) .nil)) q) (fun r s' hr => backB hr) fun _ _ z => z)
end
end Bx

set_option Elab.async false
set_option linter.all false
set_option maxRecDepth 100000
set_option maxHeartbeats 4000000
namespace Bx
open PySem PySem.Spec PyProof.Rows L2 Fl
section
variable {X : Cx} {k : Nat} {C : Addr} {x m : Str} {ps : List Str} {dvs : List V} {sp : Sp} {E : L2.St → XK} {p pos apos : Pos} {e o : Expr} {es : List Expr} {t : TA} {tv ta : TE}
/-- v(e, ..), v a local that holds the class at C -/
def tMakeV (C : Addr) (sp : Sp) (dvs : List V) (E : L2.St → XK) (tv : TE) (t : TA) : TE := fun σ H Q => tv σ H fun v H1 => v = .ref C ∧ t σ H1 fun vs H2 => ∀ x dx, H2 x = none → H2 dx = none → dx ≠ x →
  sp (.ref x :: (vs ++ dvs)) (upd (upd H2 dx (.own x)) x (.ins C dx [])) (fun v H2 => v = .non ∧ Q (.ref x) H2) (E σ)
theorem pe_mkV (M : CalC X.prog X.w X.K X.mg X.base (L2.CX X.prog X.w) k C x ps dvs sp) (hx : ∀ σ, PassesAt (L2.CX X.prog X.w) X σ (E σ)) (hr : Room (k + 1) X.A) {y : Str} (hv : PE X (.Name y p) tv) (ha : PA X (e :: es) t)
    (he : starEach (e :: es) X.env = (false, eval e X.env) :: starEach es X.env := by rfl) (hpl : (backTo pos (starEach es X.env)).any (·.1) = false := by rfl) :
    PE X (.Call (.Name y p) (e :: es) [] pos) (tMakeV C sp dvs E tv t) := by
  obtain ⟨f, fd, ds, M, F, hm, hb, hd⟩ := M.ex
  refine ⟨fun pins s σ H Q I h => ?_⟩
  refine wpAny_Call_Name_kw (thn (hv.run pins s σ H _ I h) fun u s1 ⟨v, H1, I1, rv, ev, q⟩ => ?_)
  subst ev
  cases rv
  refine PySem.W.callWith_K (h₀ := X.base) I1.ok.mod.kin M.kp (thn (ha.run pos pins s1 σ H1 _ I1 q) fun us s2 ⟨vs, H2, I2, r, q2⟩ => ⟨I2.kIn, ?_⟩) he hpl
  exact run_makeS (E := E) M F hr hb hd (hx σ) I2 r q2
/-- a classmethod of C by the name m -/
structure CalCM (P : Program) (w : World) (K : PySem.W.Frag) (mg : Str → Option Value) (base : Heap) (k : Nat) (C : Addr) (m : Str) (ps : List Str) (sp : Sp) : Prop where
  ex : ∃ (mc : Value) (p g : Addr) (fd : FuncData), ClX.CRead K C mc ∧ ClX.CMet K C mc m p g ∧ FnOk P w K mg base (L2.CX P w) k g fd ps sp ∧ Binds K fd ps []
def tCMethS (C : Addr) (sp : Sp) (E : L2.St → XK) (ta : TE) (t : TA) : TE := fun σ H Q => ta σ H fun x H1 => x = .ref C ∧ t σ H1 fun vs H2 => sp (.ref C :: vs) H2 Q (E σ)
theorem pe_cm {pl : Sem Bool} (M : CalCM X.prog X.w X.K X.mg X.base k C m ps sp) (hx : ∀ σ, PassesAt (L2.CX X.prog X.w) X σ (E σ)) (hr : Room k X.A) (he : PE X o ta) (ha : PA X (e :: es) t)
    (hst : starEach (e :: es) X.env = (false, eval e X.env) :: starEach es X.env := by rfl) (hpl : (backTo pos (starEach es X.env)).any (·.1) = false := by rfl)
    (ht : eval (.Call (.Attribute o m apos) (e :: es) [] pos) X.env = (do
      let ov ← eval o X.env
      standAt apos.atName
      let (f, first) ← holding [ov] (getMethod ov m pl)
      callWith pos f first (backTo pos (starEach (e :: es) X.env)) (backToKw pos (keywordEach [] X.env))) := by rfl) :
    PE X (.Call (.Attribute o m apos) (e :: es) [] pos) (tCMethS C sp E ta t) := by
  obtain ⟨mc, pp, g, fd, r, c, F, b⟩ := M.ex
  refine ⟨fun pins s σ H Q I h => ?_⟩
  refine PySem.W.methodCall_KW (pl := pl) (thn (he.run pins s σ H _ I h) fun u s1 ⟨x, H1, I1, rx, ex, q⟩ => ?_) ht
  subst ex
  obtain rfl : u = Value.ref C := rx
  refine ClX.getmethcm_ok I1 r c fun s2 I2 => ?_
  refine ClX.callwith_cm I2 (ClX.base_none I1 (Nat.le_refl _)) c.fi (thn (ha.run pos _ s2 σ H1 _ I2 q) fun us s3 ⟨vs, H2, I3, rv, q2⟩ => ⟨⟨ClX.pin_at I3, I3.kIn⟩, ?_⟩) hst hpl
  have hl := F.len _ _ _ _ q2
  have r2 : Vals (V.ref C :: vs) (Value.ref C :: us) := .cons (show RelV (.ref C) (.ref C) from rfl) rv
  have bb := b s3 (Value.ref C :: us) I3.kIn (by rw [List.append_nil, ← r2.length]; exact hl)
  rw [List.append_nil] at bb
  have z : wpAny (model X.prog X.w) X.A (call (.ref s1.heap.objs.size) us) (EP X ((s1.heap.objs.size, PySem.W.methodObj (.ref g) (.ref C)) :: pins) σ Q) X.xe s3 := by
    refine wpAny_call (PySem.W.method_call (ClX.pin_at I3) (codeAny_mono (F.run X.A X.stack s3 H2 ⟨Value.ref C :: us, []⟩ (Value.ref C :: us) (V.ref C :: vs) Q (E σ) hr I3.env0 bb r2 q2) fun r s' hq => ?_))
    cases r with
    | error e => exact hx σ _ H2 s3 e s' I3 hq
    | ok fl =>
      cases fl with
      | ret u => exact I3.after hq
      | next => exact False.elim hq
      | brk => exact False.elim hq
      | cont => exact False.elim hq
  exact thn z fun _ _ y => ClX.unpinE y
end
end Bx

set_option Elab.async false
set_option linter.all false
set_option maxRecDepth 100000
set_option maxHeartbeats 4000000
namespace Fl
open PySem PySem.Spec PyProof.Rows L2
/-! ### what stands in a heap, as a list of places and objects -/
def Al (fs : List (Addr × HO)) (H : Hp) : Prop := ∀ a o, (a, o) ∈ fs → H a = some o
theorem Al.nil {H : Hp} : Al [] H := fun _ _ h => nomatch h
theorem Al.at {fs : List (Addr × HO)} {H : Hp} {a : Addr} {o : HO} (W : Al fs H) (h : (a, o) ∈ fs) : H a = some o := W a o h
theorem Al.same {fs : List (Addr × HO)} {H H' : Hp} (W : Al fs H) (s : Same H H') : Al fs H' := fun a o h => s a o (W a o h)
theorem Al.got {fs : List (Addr × HO)} {H : Hp} {a : Addr} {o : HO} (W : Al fs H) (h : H a = some o) : Al ((a, o) :: fs) H := fun b u hm => by
  rcases List.mem_cons.mp hm with e | e
  · cases e
    exact h
  · exact W b u e
theorem Al.new {fs : List (Addr × HO)} {H : Hp} {a : Addr} {o : HO} (W : Al fs H) (h : H a = none) : Al ((a, o) :: fs) (upd H a o) := (W.same (same_upd h)).got upd_same
structure Wd (p : Pla) (fs : List (Addr × HO)) (H : Hp) : Prop where
  P : Pool H p
  W : Al fs H
  n : ∀ a o, (a, o) ∈ fs → a ≠ p.p
theorem Wd.nil {p : Pla} {H : Hp} (h : Pool H p) : Wd p [] H := ⟨h, Al.nil, fun _ _ h => nomatch h⟩
theorem Wd.at {p : Pla} {fs : List (Addr × HO)} {H : Hp} {a : Addr} {o : HO} (W : Wd p fs H) (h : (a, o) ∈ fs) : H a = some o := W.W a o h
theorem Wd.same {p : Pla} {fs : List (Addr × HO)} {H H' : Hp} (W : Wd p fs H) (s : Same H H') : Wd p fs H' := ⟨W.P.same s, W.W.same s, W.n⟩
theorem Wd.keep {p : Pla} {fs : List (Addr × HO)} {H H' : Hp} (W : Wd p fs H) (hP : Pool H' p) (k : Keeps H H' p.p) : Wd p fs H' := ⟨hP, fun a o h => k a o (W.W a o h) (W.n a o h), W.n⟩
theorem Wd.got {p : Pla} {fs : List (Addr × HO)} {H : Hp} {a : Addr} {o : HO} (W : Wd p fs H) (h : H a = some o) (ne : ∀ xs, o ≠ .lst xs) : Wd p ((a, o) :: fs) H := ⟨W.P, W.W.got h, fun b u hm => by
  rcases List.mem_cons.mp hm with e | e
  · cases e
    obtain ⟨ns, i, b, c, d, h1, _⟩ := W.P
    exact ne_of h h1 (ne _)
  · exact W.n b u e⟩
theorem Wd.new {p : Pla} {fs : List (Addr × HO)} {H : Hp} {a : Addr} {o : HO} (W : Wd p fs H) (h : H a = none) : Wd p ((a, o) :: fs) (upd H a o) := ⟨W.P.upd h, W.W.new h, fun b u hm => by
  rcases List.mem_cons.mp hm with e | e
  · cases e
    exact (W.P.apart h).1
  · exact W.n b u e⟩
/-! ### tests whose answer is known -/
theorem itT {p : Prop} [Decidable p] {A B : Prop} (h : p) (a : A) : if decide p = true then A else B := by rw [decide_eq_true h]; exact iteT a
theorem itF {p : Prop} [Decidable p] {A B : Prop} (h : ¬ p) (b : B) : if decide p = true then A else B := by rw [decide_eq_false h]; exact iteF b
theorem niT {p : Prop} [Decidable p] {A B : Prop} (h : p) (b : B) : if (!decide p) = true then A else B := by rw [decide_eq_true h]; exact iteF b
theorem niF {p : Prop} [Decidable p] {A B : Prop} (h : ¬ p) (a : A) : if (!decide p) = true then A else B := by rw [decide_eq_false h]; exact iteT a
theorem ieT {a b : Int} {A B : Prop} (h : a = b) (x : A) : if decide (V.int a = V.int b) = true then A else B := itT (by rw [h]) x
theorem ieF {a b : Int} {A B : Prop} (h : a ≠ b) (x : B) : if decide (V.int a = V.int b) = true then A else B := itF (fun e => h (V.int.inj e)) x
theorem jeT {a b : Int} {A B : Prop} (h : a = b) (x : B) : if (!decide (V.int a = V.int b)) = true then A else B := niT (by rw [h]) x
theorem jeF {a b : Int} {A B : Prop} (h : a ≠ b) (x : A) : if (!decide (V.int a = V.int b)) = true then A else B := niF (fun e => h (V.int.inj e)) x
/-! ### values that are known -/
theorem vT {Q : VK} {H : Hp} {p : Prop} [Decidable p] (h : p) (q : Q (.bl true) H) : Q (.bl (decide p)) H := by rw [decide_eq_true h]; exact q
theorem vF {Q : VK} {H : Hp} {p : Prop} [Decidable p] (h : ¬ p) (q : Q (.bl false) H) : Q (.bl (decide p)) H := by rw [decide_eq_false h]; exact q
theorem veT {Q : VK} {H : Hp} {a b : Int} (h : a = b) (q : Q (.bl true) H) : Q (.bl (decide (V.int a = V.int b))) H := vT (by rw [h]) q
theorem veF {Q : VK} {H : Hp} {a b : Int} (h : a ≠ b) (q : Q (.bl false) H) : Q (.bl (decide (V.int a = V.int b))) H := vF (fun e => h (V.int.inj e)) q
/-! ### bounds -/
theorem ba {i j : Int} {a : Nat} (h1 : i.natAbs < 2 ^ a) (h2 : j.natAbs < 2 ^ a) : (i + j).natAbs < 2 ^ (a + 1) := by
  rw [Nat.pow_succ]
  generalize 2 ^ a = z at *
  omega
theorem bs {i j : Int} {a : Nat} (h1 : i.natAbs < 2 ^ a) (h2 : j.natAbs < 2 ^ a) : (i - j).natAbs < 2 ^ (a + 1) := by
  rw [Nat.pow_succ]
  generalize 2 ^ a = z at *
  omega
theorem bn {i : Int} {a : Nat} (h1 : i.natAbs < 2 ^ a) : (-i).natAbs < 2 ^ a := by
  rw [Int.natAbs_neg]
  exact h1
theorem ub {n : Int} {a b : Nat} (h : n.natAbs < 2 ^ a) (k : a ≤ b) : n.natAbs < 2 ^ b := Nat.lt_of_lt_of_le h (Nat.pow_le_pow_right (by decide) k)
end Fl
namespace Fl
open PySem PySem.Spec PyProof.Rows L2
theorem Al.drop {x : Addr × HO} {fs : List (Addr × HO)} {H : Hp} (W : Al (x :: fs) H) : Al fs H := fun a o h => W a o (List.mem_cons_of_mem _ h)
theorem Wd.drop {p : Pla} {x : Addr × HO} {fs : List (Addr × HO)} {H : Hp} (W : Wd p (x :: fs) H) : Wd p fs H := ⟨W.P, W.W.drop, fun a o h => W.n a o (List.mem_cons_of_mem _ h)⟩
end Fl

set_option Elab.async false
set_option linter.all false
set_option maxRecDepth 100000
set_option maxHeartbeats 4000000
namespace Bx
open PySem PySem.Spec PyProof.Rows L2 Fl
section
open PySem.W PySem.Calls
variable {prog : Program} {w : World} {A : Around} {E : Value → Shared → Prop} {s : Shared} {K : Frag} {x C L f dx : Addr} {h₀ : Heap} {m : Str → Option Value} {od : Option Obj} {ox : Obj} {b tb : Value}
open Builtin in
theorem obj_ne {Q : Value → Shared → Prop} (hu : A.in1.units < cLine) (X : K.In s.heap) (I : PySem.W.InstAt s.heap x ox C od) (hm : mroIn K C (.type "object") = some true) (hs : findIn K (.ref C) "__eq__" = some (some (.ref f))) (hf : isFn K (.ref f) = true)
    (h : wpAny (model prog w) A.in1 (call (.ref f) [.ref x, b]) (fun v s' => ∃ c, v = .bool c ∧ Q (.bool (!c)) s') E s) : wpAny (model prog w) A (call (.builtin "object.__ne__") [.ref x, b]) Q E s := by
  refine wpAny_call (codeAny_call_builtin PySem.F.slot_object_ne.plain PySem.F.entry_object_ne (check_slot (i := "object.__ne__") (owner := "object") (n := "__ne__") (by decide +kernel) (by decide +kernel) (I.type.andThen (looks_mroIn X hm)) (PySem.F.args_object_ne_2 _ _) ?_))
  unfold Builtin.«object.__ne__»
  refine wpAny_bind (m := slotArgs "__ne__" 1 _) (wpAny_pure ?_)
  refine wpAny_bind (m := cRoomFor _ _) (wpAny_cRoomFor hu ?_)
  refine wpAny_bind (m := callSpecialIfBound? (.ref x) (Str.ofString "__eq__") _) (ifBound_K X I hs hf (wpAny_mono h (fun r s' hq => ?_) fun _ _ y => y))
  obtain ⟨c, rfl, hq⟩ := hq
  exact wpAny_bind (m := truthy (.bool _)) (wpAny_truthy_bool (wpAny_pure hq))
theorem try_ne {Q : Value → Shared → Prop} (hu : A.in1.units < cLine) (X : K.In s.heap) (I : PySem.W.InstAt s.heap x ox C od) (hm : mroIn K C (.type "object") = some true) (hN : findIn K (.ref C) "__ne__" = some (some (.builtin "object.__ne__"))) (hs : findIn K (.ref C) "__eq__" = some (some (.ref f))) (hf : isFn K (.ref f) = true)
    (h : wpAny (model prog w) A.in1 (call (.ref f) [.ref x, b]) (fun v s' => ∃ c, v = .bool c ∧ Q (.bool (!c)) s') E s) : wpAny (model prog w) A (tryCompare (.ref x) "__ne__" b) (fun r s' => ∃ v, r = some v ∧ Q v s') E s := by
  have fin : wpAny (model prog w) A (call (.builtin "object.__ne__") [.ref x, b] >>= fun v => pure (some v)) (fun r s' => ∃ c, r = some (.bool c) ∧ Q (.bool c) s') E s :=
    wpAny_bind (wpAny_mono (obj_ne (Q := fun v s' => ∃ c, v = .bool c ∧ Q (.bool c) s') hu X I hm hs hf (wpAny_mono h (fun v s' ⟨c, e, q⟩ => ⟨c, e, _, rfl, q⟩) fun _ _ e => e)) (fun v s' ⟨c, e, q⟩ => wpAny_pure ⟨c, by rw [e], q⟩) fun _ _ e => e)
  unfold tryCompare
  refine wpAny_bind (wpAny_mono (Q := fun r s' => ∃ c, r = some (.bool c) ∧ Q (.bool c) s') ?_ (fun r s' ⟨c, e, q⟩ => ?_) fun _ _ e => e)
  · simp only [callSpecialIfBound?, bindSpecialIfBound?]
    refine wpAny_holding (wpAny_bind (wpAny_bind (wpAny_bind (I.type.here ((looks_findIn X hN).here ?_)))))
    refine wpAny_bind (wpAny_askSetting (wpAny_ite ?_))
    split
    · exact wpAny_bind ((Looks.of_pure (PySem.F.slot_object_ne.bind _)).here (wpAny_pure (by exact fin)))
    · exact wpAny_tryCatch (wpAny_bind ((Looks.of_pure (PySem.F.slot_object_ne.bind _)).here (wpAny_pure (by exact fin))))
  · subst e
    exact wpAny_pure ⟨_, rfl, q⟩
theorem ne_K {Q : Value → Shared → Prop} (hu : A.in1.units < cLine) (hu0 : A.units < cLine) (F : Fr h₀ L s.heap m) (X₀ : K.In h₀) (I : PySem.W.InstAt s.heap x ox C od) (hb : Looks (model prog w) s.heap (typeOf b) tb) (hn : notFirst K C tb = true) (hm : mroIn K C (.type "object") = some true)
    (hN : findIn K (.ref C) "__ne__" = some (some (.builtin "object.__ne__"))) (hs : findIn K (.ref C) "__eq__" = some (some (.ref f))) (hf : isFn K (.ref f) = true)
    (h : wpAny (model prog w) A.in1 (call (.ref f) [.ref x, b]) (fun v s' => ∃ c, v = .bool c ∧ Q (.bool (!c)) s') E s) : wpAny (model prog w) A (richCompare .NotEq (.ref x) b) Q E s := by
  have X := X₀.keeps F.keep
  have one := try_ne (Q := Q) hu X I hm hN hs hf h
  unfold richCompare
  simp only [oneThing_ref]
  refine wpAny_holding (wpAny_bind (wpAny_cRoomFor hu0 ?_))
  refine wpAny_bind (I.type.here (wpAny_bind (hb.here ?_)))
  unfold notFirst at hn
  by_cases hne : (Value.ref C != tb) = true
  · simp only [hne, if_true]
    by_cases h0 : subIn K tb (.ref C) = some false
    · refine wpAny_bind ((looks_subIn X h0).here ?_)
      simp only [Bool.false_eq_true, if_false]
      refine wpAny_bind (wpAny_mono one (fun r s' hr' => ?_) fun _ _ e => e)
      obtain ⟨v, rfl, hq⟩ := hr'
      exact wpAny_pure hq
    · exfalso
      have e : (tb == Value.ref C) = false := by
        rw [beq_eq_false_iff_ne]
        intro q
        rw [q] at hne
        simp at hne
      simp [e, h0] at hn
  · simp only [hne, Bool.false_eq_true, if_false]
    refine wpAny_bind (wpAny_pure ?_)
    simp only [Bool.false_eq_true, if_false]
    refine wpAny_bind (wpAny_mono one (fun r s' hr' => ?_) fun _ _ e => e)
    obtain ⟨v, rfl, hq⟩ := hr'
    exact wpAny_pure hq
theorem ne_refl {n : Int} {t : Tok} {Q : Value → Shared → Prop} (hu : A.in1.units < cLine) (hu0 : A.units < cLine) (F : Fr h₀ L s.heap m) (X₀ : K.In h₀) (I : PySem.W.InstAt s.heap x (PySem.W.instObj C dx) C od) (hm : mroIn K C (.type "object") = some true)
    (hN : findIn K (.ref C) "__ne__" = some (some (.builtin "object.__ne__"))) (hs : findIn K (.ref C) "__eq__" = some (some (.ref f))) (hf : isFn K (.ref f) = true) (hsub : subIn K (.ref C) (.type "int") = some false)
    (h : wpAny (model prog w) A.in1 (call (.ref f) [.ref x, .int n t]) (fun v s' => ∃ c, v = .bool c ∧ Q (.bool (!c)) s') E s) : wpAny (model prog w) A (richCompare .NotEq (.int n t) (.ref x)) Q E s := by
  have X := X₀.keeps F.keep
  have one := try_ne (Q := Q) hu X I hm hN hs hf h
  have ot : oneThing? .NotEq (.int n t) (.ref x) = none := rfl
  unfold richCompare
  simp only [ot]
  refine wpAny_holding (wpAny_bind (wpAny_cRoomFor hu0 ?_))
  refine wpAny_bind (wpAny_typeOf (typeIs_int s n t) (wpAny_bind (I.type.here ?_)))
  have hne : (Value.type "int" != Value.ref C) = true := by
    rw [bne_iff_ne]
    intro q
    cases q
  simp only [hne, if_true]
  refine wpAny_bind ((looks_subIn X hsub).here ?_)
  simp only [Bool.false_eq_true, if_false, Bool.not_false, if_true]
  refine wpAny_bind (wpAny_tryCompare_declines (typeIs_int s n t) PySem.F.slot_int_ne (call_meets PySem.F.slot_int_ne (typeIs_int s n t) PySem.F.entry_int_ne (PySem.F.args_int_ne_2 _ _) (int_ne_own n t x C dx) ⟨I.at_, ?_⟩))
  refine ⟨rfl, ?_⟩
  refine wpAny_bind (wpAny_mono one (fun r s' hr' => ?_) fun _ _ e => e)
  obtain ⟨v, rfl, hq⟩ := hr'
  exact wpAny_pure hq
end
end Bx

set_option Elab.async false
set_option linter.all false
set_option maxRecDepth 100000
set_option maxHeartbeats 4000000
namespace Bx
open PySem PySem.Spec PyProof.Rows L2 Fl
section
open PySem.W PySem.Calls
variable {prog : Program} {w : World} {A : Around} {E : Value → Shared → Prop} {s : Shared}
theorem bool_in (x : Value) : MeetsIn prog w (Builtin.«bool.__new__» ⟨[.type "bool", x], []⟩) (fun A R s => wpAny (model prog w) A.in1 (truthy x) (fun c s' => R (.ok (.ret (.bool c))) s') (fun e s' => R (.error e) s') s) :=
  .of_wp fun A R s h => by
    have f1 := F.conv_sub_bool
    obtain ⟨hp, g, d, tk, os⟩ := s
    repeat (any_goals (first | assumption | (with_reducible refine wpAny_mono h (fun c s' q => ?_) fun _ _ z => z) | wp_step))
    all_goals first | exact ⟨_, rfl, q⟩ | exact q | skip
theorem call_bool_own {x : Value} {Q : Value → Shared → Prop} (h : wpAny (model prog w) A.in1.in1 (truthy x) (fun c s' => Q (.bool c) s') E s) : wpAny (model prog w) A (call (.type "bool") [x]) Q E s :=
  callType_newIn F.called_bool F.newNe_bool (F.typeCall_bool_1 x) (F.newCall_bool_1 x) (fun obj => F.args_object_init_2 obj x) F.entry_bool_new (bool_in x) (wpAny_mono h (fun c s' q => ⟨rfl, q⟩) fun _ _ z => z)
end
end Bx
namespace Bx
open PySem PySem.Spec PyProof.Rows L2 Fl
section
variable {X : Cx} {k : Nat} {C : Addr} {ps : List Str} {sp : Sp}
/-- a def of one's own run one frame in -/
theorem run_in1 {pins : List (Addr × Obj)} {s : Shared} {σ : L2.St} {H : Hp} {f : Addr} {fd : FuncData} {us : List Value} {vs : List V} {Q : VK} (F : FnOk X.prog X.w X.K X.mg X.base CX0 k f fd ps sp) (bd : Binds X.K fd ps []) (hr : Room (k + 1) X.A) (I : Inv X pins σ H s) (r : Vals vs us) (q : sp vs H Q E0) :
    wpAny (model X.prog X.w) X.A.in1 (call (.ref f) us) (EP X pins σ Q) X.xe s := by
  have hl := F.len _ _ _ _ q
  have bb := bd s us I.kIn (by rw [List.append_nil]; rw [← r.length]; exact hl)
  rw [List.append_nil] at bb
  refine wpAny_call (codeAny_mono (F.run X.A.in1 X.stack s H ⟨us, []⟩ us vs Q E0 hr.in1 I.env0.in1 bb r q) fun r s' hq => ?_)
  cases r with
  | error e => exact pass0 pins σ H s e s' I hq
  | ok fl =>
    cases fl with
    | ret z => exact I.after hq
    | next => exact False.elim hq
    | brk => exact False.elim hq
    | cont => exact False.elim hq
theorem run_in2 {pins : List (Addr × Obj)} {s : Shared} {σ : L2.St} {H : Hp} {f : Addr} {fd : FuncData} {us : List Value} {vs : List V} {Q : VK} (F : FnOk X.prog X.w X.K X.mg X.base CX0 k f fd ps sp) (bd : Binds X.K fd ps []) (hr : Room (k + 2) X.A) (I : Inv X pins σ H s) (r : Vals vs us) (q : sp vs H Q E0) :
    wpAny (model X.prog X.w) X.A.in1.in1 (call (.ref f) us) (EP X pins σ Q) X.xe s := by
  have hl := F.len _ _ _ _ q
  have bb := bd s us I.kIn (by rw [List.append_nil]; rw [← r.length]; exact hl)
  rw [List.append_nil] at bb
  refine wpAny_call (codeAny_mono (F.run X.A.in1.in1 X.stack s H ⟨us, []⟩ us vs Q E0 hr.in1.in1 I.env0.in1.in1 bb r q) fun r s' hq => ?_)
  cases r with
  | error e => exact pass0 pins σ H s e s' I hq
  | ok fl =>
    cases fl with
    | ret z => exact I.after hq
    | next => exact False.elim hq
    | brk => exact False.elim hq
    | cont => exact False.elim hq
def oN (Q : VK) : VK := fun v H2 => ∃ c, v = .bl c ∧ Q (.bl (!c)) H2
theorem backN {pins : List (Addr × Obj)} {σ : L2.St} {Q : VK} {r : Value} {s' : Shared} (h : EP X pins σ (oN Q) r s') : ∃ c, r = .bool c ∧ EP X pins σ Q (.bool (!c)) s' := by
  obtain ⟨z, H2, I2, rz, c, rfl, q2⟩ := h
  cases rz
  exact ⟨c, rfl, V.bl (!c), H2, I2, rfl, q2⟩
structure NeC (K : PySem.W.Frag) (C : Addr) : Prop where
  hm : PySem.W.mroIn K C (.type "object") = some true
  hN : PySem.W.findIn K (.ref C) "__ne__" = some (some (.builtin "object.__ne__"))
  si : PySem.W.subIn K (.type "int") (.ref C) = some false
  sc : PySem.W.subIn K (.ref C) (.type "int") = some false
def nOX (C : Addr) (sp : Sp) : R2 := fun x y H Q => ∃ (a dx : Addr) (gs : List (Str × V)), x = .ref a ∧ H a = some (.ins C dx gs) ∧ ((∃ n : Int, y = .int n) ∨ ∃ (b dy : Addr) (hs : List (Str × V)), y = .ref b ∧ H b = some (.ins C dy hs)) ∧ sp [.ref a, y] H (oN Q) E0
def nIO (C : Addr) (sp : Sp) : R2 := fun x y H Q => ∃ (a dx : Addr) (gs : List (Str × V)) (n : Int), y = .ref a ∧ H a = some (.ins C dx gs) ∧ x = .int n ∧ sp [.ref a, .int n] H (oN Q) E0
theorem op_ne_ox (N : NeC X.K C) (M : OpOwn X.prog X.w X.K X.mg X.base k C "__eq__" ps sp) (hr : Room (k + 1) X.A) : OpR X (compareOp .NotEq) (nOX C sp) := by
  obtain ⟨f, fd, hs, hf, F, b⟩ := M.ex
  intro pins s σ H x y v u Q I rx ry h
  obtain ⟨a, dx, gs, rfl, ea, hy, q⟩ := h
  cases rx
  obtain ⟨mA, J, _⟩ := ins_get I.hok ea
  obtain ⟨od, J, _⟩ := J.look
  obtain ⟨m, hF⟩ := I.fr
  have run := run_in1 F b hr I (.cons (show RelV (.ref a) (.ref a) from rfl) (.cons ry .nil)) q
  have fin := wpAny_mono run (fun r s' z => backN z) fun _ _ z => z
  rcases hy with ⟨n, rfl⟩ | ⟨b', dy, gs', rfl, eb⟩
  · obtain ⟨t, rfl⟩ := ry
    exact ne_K (tb := .type "int") hr.in1.units0 hr.units0 hF I.ok.mod.kin J (PySem.W.Looks.of_pure rfl) (by unfold PySem.W.notFirst; rw [N.si]; simp) N.hm N.hN hs hf fin
  · cases ry
    obtain ⟨mB, J', _⟩ := ins_get I.hok eb
    obtain ⟨od', J', _⟩ := J'.look
    exact ne_K hr.in1.units0 hr.units0 hF I.ok.mod.kin J J'.type (by unfold PySem.W.notFirst; simp) N.hm N.hN hs hf fin
theorem op_ne_io (N : NeC X.K C) (M : OpOwn X.prog X.w X.K X.mg X.base k C "__eq__" ps sp) (hr : Room (k + 1) X.A) : OpR X (compareOp .NotEq) (nIO C sp) := by
  obtain ⟨f, fd, hs, hf, F, b⟩ := M.ex
  intro pins s σ H x y v u Q I rx ry h
  obtain ⟨a, dx, gs, n, rfl, ea, rfl, q⟩ := h
  cases ry
  obtain ⟨t, rfl⟩ := rx
  obtain ⟨mA, J, _⟩ := ins_get I.hok ea
  obtain ⟨od, J, _⟩ := J.look
  obtain ⟨m, hF⟩ := I.fr
  have run := run_in1 F b hr I (.cons (show RelV (.ref a) (.ref a) from rfl) (.cons (show RelV (.int n) (.int n t) from ⟨_, rfl⟩) .nil)) q
  exact ne_refl hr.in1.units0 hr.units0 hF I.ok.mod.kin J N.hm N.hN hs hf N.sc (wpAny_mono run (fun r s' z => backN z) fun _ _ z => z)
/-- own == y, y of a built-in type -/
def cOX (K : PySem.W.Frag) (C : Addr) (sp : Sp) : R2 := fun x y H Q => ∃ (a dx : Addr) (gs : List (Str × V)) (T : String), x = .ref a ∧ H a = some (.ins C dx gs) ∧ TyX K H y (.type T) ∧ PySem.W.subIn K (.type T) (.ref C) = some false ∧ sp [.ref a, y] H (oB Q) E0
theorem cmp_ox (M : OpOwn X.prog X.w X.K X.mg X.base k C "__eq__" ps sp) (hr : Room (k + 1) X.A) : OpR X (compareOp .Eq) (cOX X.K C sp) := by
  obtain ⟨f, fd, hs, hf, F, b⟩ := M.ex
  intro pins s σ H x y v u Q I rx ry h
  obtain ⟨a, dx, gs, T, rfl, ea, ty, hsub, q⟩ := h
  cases rx
  obtain ⟨mA, J, _⟩ := ins_get I.hok ea
  obtain ⟨od, J, _⟩ := J.look
  obtain ⟨m, hF⟩ := I.fr
  obtain ⟨P, kx, hp, _⟩ := kit_of I ry ty
  refine PySem.W.cmp_K (op := .Eq) hr.units0 hF I.ok.mod.kin J (kx.ty _ _ I.kIn hp) (by unfold PySem.W.notFirst; rw [hsub]; simp) hs hf ?_
  exact wpAny_mono (run_fn F (hr.mono (Nat.le_succ _)) b (dvs := []) .nil pass0 I (.cons (show RelV (.ref a) (.ref a) from rfl) (.cons ry .nil)) q) (fun r s' hr => backB hr) fun _ _ z => z
def rBoolO (C : Addr) (sp : Sp) : List V → Hp → VK → Prop := fun xs H Q => ∃ (a dx : Addr) (gs : List (Str × V)), xs = [.ref a] ∧ H a = some (.ins C dx gs) ∧ sp [.ref a] H (oB Q) E0
theorem call_boolO (M : OpOwn X.prog X.w X.K X.mg X.base k C "__bool__" ps sp) (hr : Room (k + 2) X.A) : CallR X (.type "bool") (rBoolO C sp) := by
  obtain ⟨f, fd, hs, hf, F, b⟩ := M.ex
  intro pins s σ H xs us Q I r h
  obtain ⟨a, dx, gs, rfl, ea, q⟩ := h
  obtain ⟨u, rfl, rx⟩ := vals1 r
  cases rx
  obtain ⟨mA, J, _⟩ := ins_get I.hok ea
  obtain ⟨od, J, _⟩ := J.look
  obtain ⟨m, hF⟩ := I.fr
  refine call_bool_own (PySem.W.truthy_K hF I.ok.mod.kin J hs hf (wpAny_mono (run_in2 F b hr I r q) (fun v s' hv => ?_) fun _ _ z => z))
  obtain ⟨z, H2, I2, rz, c, rfl, q2⟩ := hv
  cases rz
  exact ⟨V.bl c, H2, I2, rfl, q2⟩
def oS (Q : VK) : VK := fun v H2 => ∃ z, v = .str z ∧ Q (.str z) H2
def rStrO (C : Addr) (sp : Sp) : List V → Hp → VK → Prop := fun xs H Q => ∃ (a dx : Addr) (gs : List (Str × V)), xs = [.ref a] ∧ H a = some (.ins C dx gs) ∧ sp [.ref a] H (oS Q) E0
theorem call_strO (M : OpOwn X.prog X.w X.K X.mg X.base k C "__str__" ps sp) (hr : Room (k + 2) X.A) : CallR X (.type "str") (rStrO C sp) := by
  obtain ⟨f, fd, hs, hf, F, b⟩ := M.ex
  intro pins s σ H xs us Q I r h
  obtain ⟨a, dx, gs, rfl, ea, q⟩ := h
  obtain ⟨u, rfl, rx⟩ := vals1 r
  cases rx
  obtain ⟨mA, J, _⟩ := ins_get I.hok ea
  obtain ⟨od, J, _⟩ := J.look
  refine PySem.W.kso_call hr.in1.in1.units0 I.kIn J hs hf (wpAny_mono (run_in2 F b hr I r q) (fun v s' hv => ?_) fun _ _ z => z)
  obtain ⟨z, H2, I2, rz, c, rfl, q2⟩ := hv
  obtain ⟨t, rfl⟩ := rz
  exact ⟨V.str c, H2, I2, ⟨t, rfl⟩, q2⟩
def CPowW (i j : Int) : Prop := 0 ≤ j ∧ (Builtin.Int.intBits i : Int) * j ≤ 2 ^ 27
theorem op_powW : OpR X (binaryOp .Pow) (rI CPowW fun i j => .int (i ^ j.toNat)) := opI fun _ _ _ _ _ _ _ hc q => PyProof.Rows.pow_int hc.1 hc.2 q
end
end Bx

set_option Elab.async false
set_option linter.all false
set_option maxRecDepth 100000
set_option maxHeartbeats 4000000
namespace Fl
open PySem PySem.Spec PyProof.Rows L2
/-! ### a heap without one place -/
def wo (H : Hp) (d : Addr) : Hp := fun a => if a = d then none else H a
theorem wo_sub (H : Hp) (d : Addr) : Same (wo H d) H := fun a o h => by
  unfold wo at h
  split at h
  · cases h
  · exact h
theorem wo_same {H H' : Hp} (d : Addr) (s : Same H H') : Same (wo H d) (wo H' d) := fun a o h => by
  unfold wo at *
  split at h
  · cases h
  · rename_i n
    rw [if_neg n]
    exact s a o h
theorem wo_keep {H H' : Hp} {d : Addr} (s : Keeps H H' d) : Same (wo H d) (wo H' d) := fun a o h => by
  unfold wo at *
  split at h
  · cases h
  · rename_i n
    rw [if_neg n]
    exact s a o h n
theorem wo_upd {H : Hp} {d : Addr} {o : HO} : Same (wo H d) (wo (upd H d o) d) := fun a u h => by
  unfold wo at *
  split at h
  · cases h
  · rename_i n
    rw [if_neg n, upd_ne n]
    exact h
theorem wo_of {H : Hp} {d : Addr} (h : H d = none) : Same H (wo H d) := fun a o e => by
  unfold wo
  rw [if_neg (ne_of_none e h)]
  exact e
theorem wo_at {H : Hp} {d a : Addr} {o : HO} (h : H a = some o) (n : a ≠ d) : wo H d a = some o := by
  unfold wo
  rw [if_neg n]
  exact h
theorem same_late {H0 H : Hp} {D : Addr} {o : HO} (s : Same H0 H) (h : H0 D = none) : Same H0 (upd H D o) := fun b u e => by
  rw [upd_ne (ne_of_none e h)]
  exact s b u e
/-! ### lists whose items are told one by one -/
def LAt {α : Type} (R : Hp → V → α → Prop) (H : Hp) (a : Addr) (xs : List α) : Prop := ∃ vs : List V, H a = some (.lst vs) ∧ vs.length = xs.length ∧ ∀ (i : Nat) (x : α), xs[i]? = some x → ∃ v, vs[i]? = some v ∧ R H v x
def Mono {α : Type} (R : Hp → V → α → Prop) : Prop := ∀ (H H' : Hp) (v : V) (x : α), Same H H' → R H v x → R H' v x
theorem LAt.same {α : Type} {R : Hp → V → α → Prop} (m : Mono R) {H H' : Hp} {a : Addr} {xs : List α} (h : LAt R H a xs) (k : Same H H') : LAt R H' a xs := by
  obtain ⟨vs, h1, h2, h3⟩ := h
  refine ⟨vs, k _ _ h1, h2, fun i x hx => ?_⟩
  obtain ⟨v, hv, r⟩ := h3 i x hx
  exact ⟨v, hv, m _ _ _ _ k r⟩
theorem LAt.imp {α β : Type} {R : Hp → V → α → Prop} {S : Hp → V → β → Prop} {f : α → β} {H : Hp} {a : Addr} {xs : List α} (h : LAt R H a xs) (k : ∀ v x, R H v x → S H v (f x)) : LAt S H a (xs.map f) := by
  obtain ⟨vs, h1, h2, h3⟩ := h
  refine ⟨vs, h1, by rw [List.length_map]; exact h2, fun i y hy => ?_⟩
  rw [List.getElem?_map] at hy
  cases hx : xs[i]? with
  | none => rw [hx] at hy; cases hy
  | some x =>
    rw [hx] at hy
    cases hy
    obtain ⟨v, hv, r⟩ := h3 i x hx
    exact ⟨v, hv, k v x r⟩
theorem LAt.map {α : Type} {R : Hp → V → α → Prop} {H : Hp} {a : Addr} {xs : List α} {f : α → V} (h : LAt R H a xs) (k : ∀ v x, R H v x → v = f x) : H a = some (.lst (xs.map f)) := by
  obtain ⟨vs, h1, h2, h3⟩ := h
  rw [h1]
  congr 2
  refine List.ext_getElem? fun i => ?_
  rw [List.getElem?_map]
  cases hx : xs[i]? with
  | none =>
    rw [List.getElem?_eq_none_iff] at hx
    exact List.getElem?_eq_none (by omega)
  | some x =>
    obtain ⟨v, hv, r⟩ := h3 i x hx
    rw [hv, k v x r]
    rfl
theorem item {vs : List V} {α : Type} {xs : List α} {i : Nat} {v : V} (hl : vs.length = xs.length) (hv : vs[i]? = some v) : ∃ x, xs[i]? = some x := by
  have h : i < vs.length := (List.getElem?_eq_some_iff.mp hv).1
  exact ⟨_, List.getElem?_eq_getElem (by omega)⟩
/-- a comprehension over a list, one new item for each -/
theorem lc_build {K : PySem.W.Frag} {a : Addr} {xs : List V} {g : TG} {tt : TT} {te : TE} {vs : List Nat} {σ : L2.St} {Hc : Hp} {D : Addr} {Qd : Hp → Prop} {β : Type} (S : Hp → V → β → Prop) (ys : List β) (mono : Mono S)
    (hD : Hc D = none) (hlen : xs.length = ys.length) (hl : SqL K Hc a xs) (small : ys.length ≤ 1000)
    (hs : ∀ (i : Nat) (x : V) (y : β) (H : Hp) (Kc : VK) (Ke : Hp → Prop), xs[i]? = some x → ys[i]? = some y → Same Hc H → (∃ acc, H D = some (.lst acc)) → (∀ v H4, Same H H4 → S (wo H4 D) v y → Kc v H4) →
      g x (wipe σ vs) H fun σ2 H2 => wipe σ2 vs = wipe σ vs ∧ tt σ2 H2 fun b H3 => if b = true then te σ2 H3 Kc else Ke H3)
    (hd : ∀ H', Same Hc H' → LAt S H' D ys → Qd H') :
    ∃ W : Nat → Nat → Hp → Prop, (∃ m, W 0 m (upd Hc D (.lst []))) ∧ ∀ i m H, W i m H →
      ((Itl K a).stop i H ∧ Qd H) ∨ ((Itl K a).go i H ∧ ∃ Nx : Hp → Prop, (∀ H', Nx H' → ∃ m', m' < m ∧ W (i + 1) m' H') ∧ ∀ x H', (Itl K a).yld i H x H' → g x (wipe σ vs) H' fun σ2 H2 => wipe σ2 vs = wipe σ vs ∧ tt σ2 H2 fun b H3 =>
        if b = true then te σ2 H3 fun y H4 => ∃ acc, H4 D = some (.lst acc) ∧ acc.length < sizeLine ∧ Nx (upd H4 D (.lst (acc ++ [y]))) else Nx H3) := by
  refine lc_list (xs := xs) (fun i H' => Same Hc H' ∧ ∃ acc : List V, H' D = some (.lst acc) ∧ acc.length = i ∧ ∀ (j : Nat) (y : β), j < i → ys[j]? = some y → ∃ v, acc[j]? = some v ∧ S (wo H' D) v y)
    ⟨same_upd hD, [], upd_same, rfl, fun j y hj => absurd hj (by omega)⟩ (fun i H' _ h => h.1.seq hl) ?_ ?_
  · rintro i x H hx ⟨s, acc, hacc, hlen2, hall⟩
    have hi : i < xs.length := (List.getElem?_eq_some_iff.mp hx).1
    have hy : ys[i]? = some ys[i] := List.getElem?_eq_getElem (by omega)
    refine hs i x ys[i] H _ _ hx hy s ⟨acc, hacc⟩ fun v H4 s4 hS => ?_
    have hacc4 := s4 _ _ hacc
    refine ⟨acc, hacc4, by rw [hlen2]; exact small1000 (by omega), same_late (s.trans s4) hD, acc ++ [v], upd_same, by rw [List.length_append, hlen2]; rfl, fun j y hj hyj => ?_⟩
    by_cases hji : j < i
    · obtain ⟨u, hu, hSu⟩ := hall j y hji hyj
      refine ⟨u, by rw [List.getElem?_append_left (by omega)]; exact hu, ?_⟩
      exact mono _ _ _ _ ((wo_same D s4).trans wo_upd) hSu
    · have e : j = i := by omega
      subst e
      rw [hy] at hyj
      cases hyj
      refine ⟨v, by rw [List.getElem?_append_right (by omega), hlen2, Nat.sub_self]; rfl, mono _ _ _ _ wo_upd hS⟩
  · rintro H' ⟨s, acc, hacc, hlen2, hall⟩
    refine hd H' s ⟨acc, hacc, by omega, fun j y hy => ?_⟩
    have hj : j < ys.length := (List.getElem?_eq_some_iff.mp hy).1
    obtain ⟨v, hv, hS⟩ := hall j y (by omega) hy
    exact ⟨v, hv, mono _ _ _ _ (wo_sub H' D) hS⟩
end Fl

set_option Elab.async false
set_option linter.all false
set_option maxRecDepth 100000
set_option maxHeartbeats 4000000
set_option pp.maxSteps 160
set_option pp.deepTerms false
namespace L
open PySem PySem.Spec PyProof.Rows L2 Fl
local macro_rules | `(tactic| walk_at "side") => `(tactic| first | (exact .inl ⟨by omega, by omega⟩) | (exact .inr ⟨by omega, by omega⟩) | (exact .inr ⟨by decide, by decide⟩) | (show (_ : Int) ≠ _; omega) | (exact ⟨by omega, by decide⟩) | (exact ⟨by decide, by decide, by decide⟩))
local macro_rules | `(tactic| walk_at "go") => `(tactic| repeat (first | refine ⟨_, rfl, ?_⟩ | refine ⟨_, _, rfl, rfl, ?_⟩ | refine .inl ⟨_, rfl, ?_⟩ | refine ⟨rfl, ?_⟩ | refine ⟨(by walk_at "side"), ?_⟩))
local macro_rules | `(tactic| walk_at "see") => `(tactic| (set_option pp.maxSteps 110 in set_option pp.deepTerms false in trace_state))
local macro_rules | `(tactic| walk_at "if") => `(tactic| first | refine ifE ?_ ?_ | refine ifNE ?_ ?_ | refine ifD ?_ ?_ | refine ifN ?_ ?_ | refine ifB ?_ ?_)
def topS (i : Nat) : Stmt := PySem.Challenge.pw_fieldlots_k42_spreads_counted.main.body.getD i (.Pass ⟨0, 0, 0, 0⟩)
abbrev s_wall : Stmt := topS 0
theorem sc_wall : FnScope ["k"] ["k"] (defScope s_wall) := ⟨rfl, rfl, rfl, by decide +kernel, rfl, by decide +kernel, by decide +kernel⟩
abbrev s_BadNumber_init : Stmt := inClass (topS 3) 0
theorem sc_BadNumber_init : FnScope ["self", "name", "value"] ["self", "name", "value"] (defScope s_BadNumber_init) := ⟨rfl, rfl, rfl, by decide +kernel, rfl, by decide +kernel, by decide +kernel⟩
abbrev s_TooMany_init : Stmt := inClass (topS 4) 0
theorem sc_TooMany_init : FnScope ["self", "name", "most"] ["self", "name", "most"] (defScope s_TooMany_init) := ⟨rfl, rfl, rfl, by decide +kernel, rfl, by decide +kernel, by decide +kernel⟩
abbrev s_check_worth : Stmt := topS 8
theorem sc_check_worth : FnScope ["worth"] ["worth"] (defScope s_check_worth) := ⟨rfl, rfl, rfl, by decide +kernel, rfl, by decide +kernel, by decide +kernel⟩
abbrev s_check_forces : Stmt := topS 11
theorem sc_check_forces : FnScope ["name", "number"] ["name", "number"] (defScope s_check_forces) := ⟨rfl, rfl, rfl, by decide +kernel, rfl, by decide +kernel, by decide +kernel⟩
abbrev s_check_classes : Stmt := topS 12
theorem sc_check_classes : FnScope ["classes", "worth", "many", "_"] ["classes"] (defScope s_check_classes) := ⟨rfl, rfl, rfl, by decide +kernel, rfl, by decide +kernel, by decide +kernel⟩
abbrev s_is_row : Stmt := topS 13
theorem sc_is_row : FnScope ["row", "many", "greater", "less"] ["row", "many"] (defScope s_is_row) := ⟨rfl, rfl, rfl, by decide +kernel, rfl, by decide +kernel, by decide +kernel⟩
abbrev s_rows_within : Stmt := topS 14
abbrev s_spreads_from : Stmt := topS 15
abbrev s_Ground_init : Stmt := inClass (topS 16) 2
theorem sc_Ground_init : FnScope ["self", "classes", "_", "many"] ["self", "classes"] (defScope s_Ground_init) := ⟨rfl, rfl, rfl, by decide +kernel, rfl, by decide +kernel, by decide +kernel⟩
abbrev s_Ground_plain : Stmt := inClass (topS 16) 3
theorem sc_Ground_plain : FnScope ["cls", "fields"] ["cls", "fields"] (defScope s_Ground_plain) := ⟨rfl, rfl, rfl, by decide +kernel, rfl, by decide +kernel, by decide +kernel⟩
abbrev s_Ground_total : Stmt := inClass (topS 16) 4
theorem sc_Ground_total : FnScope ["self", "spread", "row", "_", "many", "forces"] ["self", "spread"] (defScope s_Ground_total) := ⟨rfl, rfl, rfl, by decide +kernel, rfl, by decide +kernel, by decide +kernel⟩
abbrev s_Ground_spreads : Stmt := inClass (topS 16) 5
abbrev s_Ground_count_spreads : Stmt := inClass (topS 16) 6
theorem sc_Ground_count_spreads : FnScope ["self", "total", "ways", "_", "many", "size", "forces"] ["self", "total"] (defScope s_Ground_count_spreads) := ⟨rfl, rfl, rfl, by decide +kernel, rfl, by decide +kernel, by decide +kernel⟩
abbrev s_Ground_eq : Stmt := inClass (topS 16) 7
theorem sc_Ground_eq : FnScope ["self", "other"] ["self", "other"] (defScope s_Ground_eq) := ⟨rfl, rfl, rfl, by decide +kernel, rfl, by decide +kernel, by decide +kernel⟩
abbrev s_pool : Stmt := topS 18
theorem sc_pool : FnScope ["_law_script", "_law_cell"] ["_law_script"] (defScope s_pool) := ⟨rfl, rfl, rfl, by decide +kernel, rfl, by decide +kernel, by decide +kernel⟩
abbrev s_mix : Stmt := topS 19
theorem sc_mix : FnScope ["_law_state", "_law_turn", "_law_many", "_law_first", "_law_second"] ["_law_state", "_law_turn", "_law_many"] (defScope s_mix) := ⟨rfl, rfl, rfl, by decide +kernel, rfl, by decide +kernel, by decide +kernel⟩
abbrev s_draw : Stmt := topS 20
theorem sc_draw : FnScope ["_law_pool_here", "_law_many", "_law_spare", "_law_found", "_law_cell"] ["_law_pool_here", "_law_many"] (defScope s_draw) := ⟨rfl, rfl, rfl, by decide +kernel, rfl, by decide +kernel, by decide +kernel⟩
abbrev s_whole : Stmt := topS 21
theorem sc_whole : FnScope ["_law_actual"] ["_law_actual"] (defScope s_whole) := ⟨rfl, rfl, rfl, by decide +kernel, rfl, by decide +kernel, by decide +kernel⟩
abbrev s_classes : Stmt := topS 22
theorem sc_classes : FnScope ["_law_pool_here", "_law_most", "_law_many", "_law_extra", "_law_classes_here", "_law_index", "_law_own", "_law_worth"] ["_law_pool_here", "_law_most"] (defScope s_classes) := ⟨rfl, rfl, rfl, by decide +kernel, rfl, by decide +kernel, by decide +kernel⟩
abbrev s_ground : Stmt := topS 23
theorem sc_ground : FnScope ["_law_classes_here"] ["_law_classes_here"] (defScope s_ground) := ⟨rfl, rfl, rfl, by decide +kernel, rfl, by decide +kernel, by decide +kernel⟩
abbrev s_counts : Stmt := topS 24
theorem sc_counts : FnScope ["_law_classes_here", "_law_total_here", "_law_ways", "_law_force", "_law_row", "_law_part"] ["_law_classes_here", "_law_total_here"] (defScope s_counts) := ⟨rfl, rfl, rfl, by decide +kernel, rfl, by decide +kernel, by decide +kernel⟩
abbrev s_total : Stmt := topS 25
theorem sc_total : FnScope ["_law_pool_here", "_law_way"] ["_law_pool_here"] (defScope s_total) := ⟨rfl, rfl, rfl, by decide +kernel, rfl, by decide +kernel, by decide +kernel⟩
abbrev s_near : Stmt := topS 26
theorem sc_near : FnScope ["_law_classes_here", "_law_at", "_law_worth", "_law_many", "_law_row"] ["_law_classes_here", "_law_at"] (defScope s_near) := ⟨rfl, rfl, rfl, by decide +kernel, rfl, by decide +kernel, by decide +kernel⟩
abbrev s_right : Stmt := topS 27
theorem sc_right : FnScope ["_law_classes_here", "_law_total_here", "_law_due", "_law_counted"] ["_law_classes_here", "_law_total_here", "_law_due"] (defScope s_right) := ⟨rfl, rfl, rfl, by decide +kernel, rfl, by decide +kernel, by decide +kernel⟩
abbrev s_law : Stmt := topS 28
theorem sc_law : FnScope ["_law_script", "_law_pool_here", "_law_classes_here", "_law_total_here", "_law_ways", "_law_less", "_law_near_here", "_law_turned", "_law_row", "_law_ground_here", "_law_first", "_law_second", "_law_beside"] ["_law_script"] (defScope s_law) := ⟨rfl, rfl, rfl, by decide +kernel, rfl, by decide +kernel, by decide +kernel⟩
section
variable {P : Program} {w : World} {K : PySem.W.Frag} {mg : Str → Option Value} {base : Heap}

def spMix : Sp := fun vs H Q _ => ∃ (s t m : Int), vs = [.int s, .int t, .int m] ∧ 2 ≤ m ∧ m < 1073741824 ∧ ∀ r : Int, 0 ≤ r → r < m → Q (.int r) H
abbrev CalMix (P : Program) (w : World) (K : PySem.W.Frag) (mg : Str → Option Value) (base : Heap) := Cal P w K mg base 1 "_law_mix" ["_law_state", "_law_turn", "_law_many"] spMix
theorem ok_mix (B : Blt mg) (D : Dfn K mg "_law_mix" "_law_mix" s_mix ["_law_state", "_law_turn", "_law_many"]) : CalMix P w K mg base := by
  refine D.cal sc_mix (fun vs H Q E h => ?_) (fun f cdv A outer st H vs Q E hr h => ?_)
  · obtain ⟨s, t, m, rfl, _⟩ := h
    rfl
  · obtain ⟨s, t, m, rfl, h2, h3, q⟩ := h
    refine ⟨_, (pss_cons (ps_set (i := 3) sc_mix.nd rfl (Or.inl rfl) (pe_op op_modN (pe_callTy call_int1 (by rfl) B.int (by decide +kernel) (pa_cons (pe_op op_add (pe_op op_add (pe_op op_mul (pv 0) (pe_int)) (pe_op op_mul (pv 1) (pe_int))) (pe_int)) pa_nil)) (pe_int)))
      (pss_cons (ps_set (i := 4) sc_mix.nd rfl (Or.inl rfl) (pe_op op_modN (pe_callTy call_int1 (by rfl) B.int (by decide +kernel) (pa_cons (pe_op op_add (pe_op op_add (pe_op op_mul (pv 3) (pv 3)) (pe_op op_mul (pv 1) (pe_int))) (pv 0)) pa_nil)) (pe_int)))
      (pss_one (ps_ret (pe_op op_modN (pe_callTy call_int1 (by rfl) B.int (by decide +kernel) (pa_cons (pe_op op_fdivA (pv 4) (pe_int)) pa_nil)) (pv 2)))))), ?_⟩
    walk_at "go"
    have b1 := fm (s * 16807 + t * 7919 + 101) (show (0 : Int) < 2147483629 by decide)
    refine ⟨.inl ⟨by omega, by omega⟩, ?_⟩
    walk_at "go"
    have b2 := fm (((((s * 16807 + t * 7919 + 101).fmod 2147483629 * (s * 16807 + t * 7919 + 101).fmod 2147483629) + t * 104729 + s).fmod 2147483587).fdiv 11) (show (0 : Int) < m by omega)
    exact q _ b2.1 b2.2
def spDraw : Sp := fun vs H Q _ => ∃ (p : Pla) (m : Int), vs = [.ref p, .int m] ∧ Pool H p ∧ 2 ≤ m ∧ m < 1073741824 ∧ ∀ (r : Int) (H' : Hp), 0 ≤ r → r < m → Pool H' p → Keeps H H' p → Q (.int r) H'
abbrev CalDraw (P : Program) (w : World) (K : PySem.W.Frag) (mg : Str → Option Value) (base : Heap) := Cal P w K mg base 2 "_law_draw" ["_law_pool_here", "_law_many"] spDraw
theorem ok_draw (B : Blt mg) (D : Dfn K mg "_law_draw" "_law_draw" s_draw ["_law_pool_here", "_law_many"]) (C_mix : CalMix P w K mg base) : CalDraw P w K mg base := by
  refine D.cal sc_draw (fun vs H Q E h => ?_) (fun f cdv A outer st H vs Q E hr h => ?_)
  · obtain ⟨p, m, rfl, _⟩ := h
    rfl
  · obtain ⟨p, m, rfl, ⟨ns, i, b, c, d, hp, hq, hi, hqp⟩, h2, h3, k⟩ := h
    refine ⟨_, (pss_cons (ps_if (PW.pt (pw_or (pt_cmpR op_lt (pv 1) (pe_int) (nomark _)) (pw_or1 (pt_cmpR op_eq (pe_callB call_len_seq (by rfl) B.len PySem.boot_len (pa_cons (pe_ix ix_list (pv 0) (pe_int) (fun _ _ => rfl)) pa_nil)) (pe_int) (nomark _))))) (pss_one (ps_ret (pe_int))) pss_nil)
      (pss_cons (ps_asg (pe_op op_add (pe_ix ix_list (pv 0) (pe_int) (fun _ _ => rfl)) (pe_int)) (pg_sub (pv 0) (pe_int) set_list))
      (pss_cons (ps_for PassesOwn.never rfl (pi_range1 (by rfl) B.range (pa_cons (pe_int) pa_nil)) (pg_name (i := 2) sc_draw.nd rfl (Or.inl rfl)) (pss_cons (ps_if (pt_cmpR op_gt (pe_ix ix_list (pv 0) (pe_int) (fun _ _ => rfl)) (pe_int) (nomark _)) (pss_cons (ps_set (i := 3) sc_draw.nd rfl (Or.inl rfl) (pe_op op_modN (pe_callTy call_int1 (by rfl) B.int (by decide +kernel) (pa_cons (pe_ix ix_list (pv 0) (pe_int) (fun _ _ => rfl)) pa_nil)) (pv 1)))
      (pss_cons (ps_asg (pe_op op_fdivA (pe_ix ix_list (pv 0) (pe_int) (fun _ _ => rfl)) (pv 1)) (pg_sub (pv 0) (pe_int) set_list))
      (pss_one (ps_ret (pv 3))))) pss_nil)
      (pss_cons (ps_if (pt_cmpR op_ge (pe_ix ix_list (pv 0) (pe_int) (fun _ _ => rfl)) (pe_callB call_len_seq (by rfl) B.len PySem.boot_len (pa_cons (pe_ix ix_list (pv 0) (pe_int) (fun _ _ => rfl)) pa_nil)) (nomark _)) (pss_one (ps_ret (pe_cal C_mix (hr.mono (by decide)) (pa_cons (pe_ix ix_list (pv 0) (pe_int) (fun _ _ => rfl)) (pa_cons (pe_ix ix_list (pv 0) (pe_int) (fun _ _ => rfl)) (pa_cons (pv 1) pa_nil)))))) pss_nil)
      (pss_cons (ps_set (i := 4) sc_draw.nd rfl (Or.inl rfl) (pe_ix ix_list (pe_ix ix_list (pv 0) (pe_int) (fun _ _ => rfl)) (pe_ix ix_list (pv 0) (pe_int) (fun _ _ => rfl)) (fun _ _ => rfl)))
      (pss_cons (ps_asg (pe_op op_add (pe_ix ix_list (pv 0) (pe_int) (fun _ _ => rfl)) (pe_int)) (pg_sub (pv 0) (pe_int) set_list))
      (pss_cons (ps_asg (pe_op op_modN (pe_callTy call_int1 (by rfl) B.int (by decide +kernel) (pa_cons (pe_op op_add (pe_op op_add (pe_op op_mul (pe_ix ix_list (pv 0) (pe_int) (fun _ _ => rfl)) (pe_int)) (pe_op op_mul (pv 4) (pe_int))) (pe_int)) pa_nil)) (pe_int)) (pg_sub (pv 0) (pe_int) set_list))
      (pss_cons (ps_if (pt_cmpR op_lt (pv 4) (pe_op op_pow (pe_int) (pe_int)) (nomark _)) (pss_one (ps_ret (pe_cal C_mix (hr.mono (by decide)) (pa_cons (pe_ix ix_list (pv 0) (pe_int) (fun _ _ => rfl)) (pa_cons (pe_ix ix_list (pv 0) (pe_int) (fun _ _ => rfl)) (pa_cons (pv 1) pa_nil)))))) pss_nil)
      (pss_one (ps_asg (pe_op op_sub (pv 4) (pe_op op_pow (pe_int) (pe_int))) (pg_sub (pv 0) (pe_int) set_list))))))))))
      (pss_one (ps_ret (pe_cal C_mix (hr.mono (by decide)) (pa_cons (pe_ix ix_list (pv 0) (pe_int) (fun _ _ => rfl)) (pa_cons (pe_ix ix_list (pv 0) (pe_int) (fun _ _ => rfl)) (pa_cons (pv 1) pa_nil))))))))), ?_⟩
    walk_at "go"
    rw [decide_eq_false (by omega)]
    refine iteF ?_
    walk_at "go"
    refine ⟨_, _, _, _, rfl, rfl, SqL.of hp, rfl, ?_⟩
    refine ⟨_, _, rfl, .inl (SqL.of hq), ?_⟩
    walk_at "go"
    walk_at "if"
    · intro _
      walk_at "go"
      exact k 0 H (by omega) (by omega) ⟨ns, i, b, c, d, hp, hq, hi, hqp⟩ (Keeps.refl _ _)
    intro hlen
    refine ⟨_, rfl, _, _, _, _, rfl, rfl, SqL.of hp, rfl, ?_⟩
    walk_at "go"
    refine ⟨_, _, _, _, rfl, rfl, hp, rfl, ?_⟩
    refine ⟨64, rfl, by decide, by decide, for_range (n := 64) (fun _ σ H' => ∃ v2 v3 v4 : Option V, σ = [some (.ref (p : Addr)), some (.int m), v2, v3, v4] ∧ ∃ i b c d : Int, H' p = some (.lst [.ref p.q, .int i, .int b, .int c, .int d]) ∧ H' p.q = some (.lst (ns.map V.int)) ∧ 0 ≤ i ∧ Keeps H H' p)
      ⟨none, none, none, rfl, i, b, c, d + 1, upd_same, by rw [upd_ne hqp]; exact hq, hi, Keeps.upd⟩ ?_ ?_⟩
    · rintro j σ H1 hj ⟨v2, v3, v4, rfl, i, b, c, d, hp, hq, hi, hk⟩
      refine ⟨_, rfl, _, _, _, _, rfl, rfl, SqL.of hp, rfl, ?_⟩
      walk_at "go"
      walk_at "if"
      · intro hb
        refine ⟨_, rfl, _, _, _, _, rfl, rfl, SqL.of hp, rfl, ?_⟩
        walk_at "go"
        refine ⟨_, _, _, _, rfl, rfl, SqL.of hp, rfl, ?_⟩
        walk_at "go"
        refine ⟨divA (b := 30) (by omega) (by omega) (by decide) (by decide), ?_⟩
        walk_at "go"
        refine ⟨_, _, _, _, rfl, rfl, hp, rfl, ?_⟩
        walk_at "go"
        have b2 := fm b (show (0 : Int) < m by omega)
        exact k _ _ b2.1 b2.2 ⟨ns, i, _, c, d, upd_same, by rw [upd_ne hqp]; exact hq, hi, hqp⟩ (hk.trans Keeps.upd)
      · intro hb
        refine ⟨_, rfl, _, _, _, _, rfl, rfl, SqL.of hp, rfl, ?_⟩
        walk_at "go"
        refine ⟨_, _, _, _, rfl, rfl, SqL.of hp, rfl, ?_⟩
        refine ⟨_, _, rfl, .inl (SqL.of hq), ?_⟩
        walk_at "go"
        walk_at "if"
        · intro hl
          refine ⟨_, rfl, _, _, _, _, rfl, rfl, SqL.of hp, rfl, ?_⟩
          refine ⟨_, rfl, _, _, _, _, rfl, rfl, SqL.of hp, rfl, ?_⟩
          walk_at "go"
          refine ⟨_, _, _, rfl, h2, h3, fun r r0 r1 => ?_⟩
          exact k _ _ r0 r1 ⟨ns, i, b, c, d, hp, hq, hi, hqp⟩ hk
        · intro hl
          have hl2 : i < (ns.length : Int) := by
            have hl' : ¬ ((ns.map V.int).length : Int) ≤ i := hl
            rw [List.length_map] at hl'
            omega
          obtain ⟨n, rfl⟩ : ∃ n : Nat, i = (n : Int) := ⟨i.toNat, by omega⟩
          have hn : n < ns.length := by omega
          refine ⟨_, rfl, _, _, _, _, rfl, rfl, SqL.of hp, rfl, ?_⟩
          refine ⟨_, rfl, _, _, _, _, rfl, rfl, SqL.of hp, rfl, ?_⟩
          refine ⟨_, _, _, _, rfl, rfl, SqL.of hq, atI_nat (ints_at hn), ?_⟩
          refine ⟨_, rfl, _, _, _, _, rfl, rfl, SqL.of hp, rfl, ?_⟩
          walk_at "go"
          refine ⟨_, _, _, _, rfl, rfl, hp, rfl, ?_⟩
          refine ⟨_, rfl, _, _, _, _, rfl, rfl, SqL.of upd_same, rfl, ?_⟩
          walk_at "go"
          refine ⟨_, _, _, _, rfl, rfl, upd_same, rfl, ?_⟩
          walk_at "go"
          walk_at "if"
          · intro hcell
            refine ⟨_, rfl, _, _, _, _, rfl, rfl, SqL.of upd_same, rfl, ?_⟩
            refine ⟨_, rfl, _, _, _, _, rfl, rfl, SqL.of upd_same, rfl, ?_⟩
            walk_at "go"
            refine ⟨_, _, _, rfl, h2, h3, fun r r0 r1 => ?_⟩
            exact k _ _ r0 r1 ⟨ns, _, b, _, d, upd_same, by rw [upd_ne hqp, upd_ne hqp]; exact hq, by omega, hqp⟩ ((hk.trans Keeps.upd).trans Keeps.upd)
          · intro hcell
            walk_at "go"
            refine ⟨_, _, _, _, rfl, rfl, upd_same, rfl, ?_⟩
            exact ⟨_, _, _, rfl, _, _, _, d, upd_same, by rw [upd_ne hqp, upd_ne hqp, upd_ne hqp]; exact hq, by omega, ((hk.trans Keeps.upd).trans Keeps.upd).trans Keeps.upd⟩
    · rintro σ H1 ⟨v2, v3, v4, rfl, i, b, c, d, hp, hq, hi, hk⟩
      refine ⟨_, rfl, _, _, _, _, rfl, rfl, SqL.of hp, rfl, ?_⟩
      refine ⟨_, rfl, _, _, _, _, rfl, rfl, SqL.of hp, rfl, ?_⟩
      walk_at "go"
      refine ⟨_, _, _, rfl, h2, h3, fun r r0 r1 => ?_⟩
      exact k _ _ r0 r1 ⟨ns, i, b, c, d, hp, hq, hi, hqp⟩ hk

def spPool (K : PySem.W.Frag) : Sp := fun vs H Q _ => ∃ (a : Addr) (ns : List Int), vs = [.ref a] ∧ SqL K H a (ns.map V.int) ∧ ns.length ≤ 63 ∧ ∀ (p : Pla) (H' : Hp), Same H H' → H p = none → H p.q = none → Pool H' p → Q (.ref p) H'
abbrev CalPool (P : Program) (w : World) (K : PySem.W.Frag) (mg : Str → Option Value) (base : Heap) := Cal P w K mg base 1 "_law_pool" ["_law_script"] (spPool K)
theorem ok_pool (B : Blt mg) (D : Dfn K mg "_law_pool" "_law_pool" s_pool ["_law_script"]) : CalPool P w K mg base := by
  refine D.cal sc_pool (fun vs H Q E h => ?_) (fun f cdv A outer st H vs Q E hr h => ?_)
  · obtain ⟨a, ns, rfl, _⟩ := h
    rfl
  · obtain ⟨a, ns, rfl, hS, hl, k⟩ := h
    refine ⟨_, (pss_one (ps_ret (pe_lst (pa_cons (pe_lc (own := [("_law_cell", 1)]) (g := gName 1) rfl sc_pool.nd (pi_list (pv 0)) (blkOk_by (N := ["_law_script", "_law_cell"]) (sc := defScope s_pool) (by decide +kernel)) (fun _ _ _ _ _ => pg_name (i := 1) sc_pool.nd rfl (Or.inl rfl)) (fun _ _ _ _ _ => pts_nil) (fun _ _ _ _ _ => (pe_callTy call_int1 (by rfl) B.int (by decide +kernel) (pa_cons (pv 1) pa_nil)))) (pa_cons (pe_int) (pa_cons (pe_int) (pa_cons (pe_int) (pa_cons (pe_int) pa_nil)))))))), ?_⟩
    refine ⟨_, rfl, a, rfl, ⟨_, hS⟩, fun D hD => lc_list (K := K) (a := a) (xs := ns.map V.int) (fun i H' => H' = upd H D (.lst ((ns.take i).map V.int))) rfl (fun i H' _ e => by rw [e]; exact (same_upd hD).seq hS) ?_ ?_⟩
    · rintro i x H' hx rfl
      obtain ⟨z, hz, rfl⟩ := int_of_map hx
      refine ⟨rfl, ?_⟩
      refine ⟨_, rfl, .inl ⟨_, rfl, _, upd_same, ?_, ?_⟩⟩
      · rw [List.length_map, List.length_take]
        exact small1000 (by omega)
      · rw [upd_upd, List.take_add_one, hz, List.map_append]
        rfl
    · rintro H' rfl
      refine ⟨(by show 5 ≤ sizeLine; decide), fun p hp => ?_⟩
      have hne : D ≠ p := ne_of_none upd_same hp
      have hp0 : H p = none := by rw [upd_ne hne.symm] at hp; exact hp
      refine k ⟨p, D⟩ _ ((same_upd hD).trans (same_upd hp)) hp0 hD ⟨ns, 0, 0, 1, 0, upd_same, ?_, by decide, hne⟩
      show upd _ p _ D = _
      rw [upd_ne hne, upd_same, List.length_map, List.take_length]

theorem kit_own {K : PySem.W.Frag} {t : Value} {C : Addr} {b : Bool} (hd : PySem.W.hasDictIn K C = true) (ht : PySem.W.typeIn K (.ref C) = some (.type "type")) (hs : PySem.W.subIn K t (.ref C) = some b) (hself : PySem.W.subIn K t t = some true) : PySem.W.kitOne K t (.ref C) = some b := by
  unfold PySem.W.kitOne
  by_cases h : (t == Value.ref C) = true
  · rw [if_pos h]
    have e := beq_iff_eq.mp h
    subst e
    rw [hs] at hself
    exact hself.symm
  · rw [if_neg h]
    obtain ⟨cd, hc, _⟩ := PySem.W.any_some hd
    have e2 : ((PySem.W.clsIn K C).isSome && PySem.W.typeIn K (.ref C) == some (.type "type")) = true := by rw [hc, ht] <;> rfl
    show (if ((PySem.W.clsIn K C).isSome && PySem.W.typeIn K (.ref C) == some (.type "type")) = true then PySem.W.subIn K t (.ref C) else none) = some b
    rw [if_pos e2]
    exact hs
theorem kit_int {K : PySem.W.Frag} {C : Addr} {b : Bool} (hd : PySem.W.hasDictIn K C = true) (ht : PySem.W.typeIn K (.ref C) = some (.type "type")) (hs : PySem.W.subIn K (.type "int") (.ref C) = some b) : PySem.W.kitOne K (.type "int") (.ref C) = some b := by
  unfold PySem.W.kitOne
  rw [if_neg (by intro h; cases beq_iff_eq.mp h)]
  obtain ⟨cd, hc, _⟩ := PySem.W.any_some hd
  have e2 : ((PySem.W.clsIn K C).isSome && PySem.W.typeIn K (.ref C) == some (.type "type")) = true := by rw [hc, ht] <;> rfl
  show (if ((PySem.W.clsIn K C).isSome && PySem.W.typeIn K (.ref C) == some (.type "type")) = true then PySem.W.subIn K (.type "int") (.ref C) else none) = some b
  rw [if_pos e2]
  exact hs
def spWhole : Sp := fun vs H Q _ => ∃ (i : Int), vs = [.int i] ∧ Q (.bl true) H
abbrev CalWhole (P : Program) (w : World) (K : PySem.W.Frag) (mg : Str → Option Value) (base : Heap) := Cal P w K mg base 1 "_law_whole" ["_law_actual"] spWhole
theorem ok_whole (B : Blt mg) (D : Dfn K mg "_law_whole" "_law_whole" s_whole ["_law_actual"]) : CalWhole P w K mg base := by
  refine D.cal sc_whole (fun vs H Q E h => ?_) (fun f cdv A outer st H vs Q E hr h => ?_)
  · obtain ⟨i, rfl, _⟩ := h
    rfl
  · obtain ⟨i, rfl, q⟩ := h
    refine ⟨_, (pss_one (ps_ret ((pe_and (pe_callB call_isi (by rfl) B.isinstance (by decide +kernel) (pa_cons (pv 0) (pa_cons (pe_bltn (v := .ty "int") (by rfl) B.int (by decide +kernel) rfl) pa_nil))) (pe_one (pe_not (pe_callB call_isi (by rfl) B.isinstance (by decide +kernel) (pa_cons (pv 0) (pa_cons (pe_bltn (v := .ty "bool") (by rfl) B.bool (by decide +kernel) rfl) pa_nil))))))))), ?_⟩
    refine ⟨_, rfl, _, _, _, _, true, rfl, .ty _, .base (.int _), kit_ty (by decide +kernel), _, rfl, iteT ?_⟩
    refine ⟨_, rfl, _, _, _, _, false, rfl, .ty _, .base (.int _), kit_ty (by decide +kernel), _, rfl, ?_⟩
    exact q
end

theorem keeps_late {H0 H : Hp} {D p : Addr} {o : HO} (s : Keeps H0 H p) (h : H0 D = none) : Keeps H0 (upd H D o) p := fun b u e n => by
  rw [upd_ne (ne_of_none e h)]
  exact s b u e n
theorem call_len_K {X : Cx} {K : PySem.W.Frag} (e : X.K = K) : CallR X (.builtin "len") (fun xs H Q => ∃ p ys, xs = [.ref p] ∧ (SqL K H p ys ∨ SqT K H p ys) ∧ Q (.int (ys.length : Int)) H) := by
  subst e
  exact call_len_seq
theorem ix_list_K {X : Cx} {K : PySem.W.Frag} (e : X.K = K) : IxR X (rIxL K) := by
  subst e
  exact ix_list
theorem ix_tup_K {X : Cx} {K : PySem.W.Frag} (e : X.K = K) : IxR X (rIxT K) := by
  subst e
  exact ix_tup
theorem pe_or {X : Cx} {e : Expr} {t u : TE} (h : PE X e t) (k : PE X e u) : PE X e (fun σ H Q => t σ H Q ∨ u σ H Q) := ⟨fun pins s σ H Q I q => by
  rcases q with q | q
  · exact h.run pins s σ H Q I q
  · exact k.run pins s σ H Q I q⟩
theorem made {C x dx : Addr} {fs : List (Str × V)} {H H' : Hp} (nx : H x = none) (ndx : H dx = none) (hk : Keeps (upd (upd H dx (.own x)) x (.ins C dx fs)) H' x) : Same H H' := fun b o e =>
  hk b o (by rw [upd_ne (ne_of_none e nx), upd_ne (ne_of_none e ndx)]; exact e) (ne_of_none e nx)
/-! ### numbers of partitions, one part size after the other -/
def stp (s : Nat) (w : Nat → Int) (f : Nat) : Int := if 1 ≤ s ∧ s ≤ f then w f + stp s w (f - s) else w f
termination_by f
decreasing_by omega
theorem stp_ge {s f : Nat} {w : Nat → Int} (h1 : 1 ≤ s) (h2 : s ≤ f) : stp s w f = w f + stp s w (f - s) := by
  rw [stp, if_pos ⟨h1, h2⟩]
theorem stp_lt {s f : Nat} {w : Nat → Int} (h : f < s) : stp s w f = w f := by
  rw [stp, if_neg (by omega)]
theorem stp_uniq {s : Nat} {w u : Nat → Int} (hs : 1 ≤ s) (h : ∀ f, u f = w f + (if s ≤ f then u (f - s) else 0)) : ∀ n f, f ≤ n → u f = stp s w f
  | n, f, hn => by
    rw [h f]
    by_cases c : s ≤ f
    · rw [if_pos c, stp_ge hs c]
      cases n with
      | zero => omega
      | succ n => rw [stp_uniq hs h n (f - s) (by omega)]
    · rw [if_neg c, stp_lt (by omega)]
      omega
theorem stp_comm {s t : Nat} {w : Nat → Int} (hs : 1 ≤ s) (ht : 1 ≤ t) : stp s (stp t w) = stp t (stp s w) := by
  funext f
  refine stp_uniq ht (w := stp s w) (u := stp s (stp t w)) (fun f => ?_) f f (Nat.le_refl _)
  have hy : ∀ f, (stp s (stp t w) f - (if t ≤ f then stp s (stp t w) (f - t) else 0)) = stp s w f := fun f => by
    refine stp_uniq hs (w := w) (u := fun f => stp s (stp t w) f - (if t ≤ f then stp s (stp t w) (f - t) else 0)) (fun f => ?_) f f (Nat.le_refl _)
    show stp s (stp t w) f - (if t ≤ f then stp s (stp t w) (f - t) else 0) = w f + (if s ≤ f then stp s (stp t w) (f - s) - (if t ≤ f - s then stp s (stp t w) (f - s - t) else 0) else 0)
    by_cases c1 : s ≤ f
    · by_cases c2 : t ≤ f
      · by_cases c3 : s + t ≤ f
        · rw [if_pos c1, if_pos c2, if_pos (by omega), stp_ge hs c1, stp_ge ht c2, stp_ge hs (show s ≤ f - t by omega), show f - t - s = f - s - t by omega]
          omega
        · rw [if_pos c1, if_pos c2, if_neg (by omega), stp_ge hs c1, stp_ge ht c2, stp_lt (show f - t < s by omega)]
          omega
      · rw [if_pos c1, if_neg c2, if_neg (by omega), stp_ge hs c1, stp_lt (show f < t by omega)]
        omega
    · by_cases c2 : t ≤ f
      · rw [if_neg c1, if_pos c2, stp_lt (show f < s by omega), stp_ge ht c2, stp_lt (show f - t < s by omega)]
        omega
      · rw [if_neg c1, if_neg c2, stp_lt (show f < s by omega), stp_lt (show f < t by omega)]
        omega
  have := hy f
  omega
theorem fold_thru {α β : Type} {F : α → β → α} {g : α → α} (h : ∀ a x, g (F a x) = F (g a) x) : ∀ (l : List β) (a : α), g (l.foldl F a) = l.foldl F (g a)
  | [], _ => rfl
  | x :: r, a => by
    show g (r.foldl F (F a x)) = r.foldl F (F (g a) x)
    rw [fold_thru h r, h]
theorem fold_rev {α β : Type} {F : α → β → α} (h : ∀ a x y, F (F a x) y = F (F a y) x) : ∀ (l : List β) (a : α), l.reverse.foldl F a = l.foldl F a
  | [], _ => rfl
  | x :: r, a => by
    rw [List.reverse_cons, List.foldl_append, fold_rev h r]
    show F (r.foldl F a) x = r.foldl F (F a x)
    exact fold_thru (g := fun a => F a x) (fun a y => h a y x) r a
/-- the sizes 1 to m -/
def upto (m : Nat) (w : Nat → Int) : Nat → Int := (List.range m).foldl (fun w i => stp (i + 1) w) w
theorem upto_stp {m s : Nat} {w : Nat → Int} (hs : 1 ≤ s) : stp s (upto m w) = upto m (stp s w) := fold_thru (g := stp s) (fun a x => stp_comm hs (by omega)) _ _
theorem upto_comm {m n : Nat} {w : Nat → Int} : upto n (upto m w) = upto m (upto n w) := by
  show upto n ((List.range m).foldl (fun w i => stp (i + 1) w) w) = _
  exact fold_thru (g := upto n) (F := fun w i => stp (i + 1) w) (fun a x => (upto_stp (by omega)).symm) _ _
theorem upto_succ {m : Nat} {w : Nat → Int} : (List.range (m + 1)).foldl (fun w i => stp (i + 1) w) w = stp (m + 1) ((List.range m).foldl (fun w i => stp (i + 1) w) w) := by
  rw [List.range_succ, List.foldl_append]
  rfl
def dlt (f : Nat) : Int := if f = 0 then 1 else 0
abbrev Cls2 := Int × Int
def cnt (cs : List Cls2) : Nat → Int := cs.foldl (fun w c => upto c.2.toNat w) dlt
theorem cnt_snoc {cs : List Cls2} {i : Nat} {c : Cls2} (h : cs[i]? = some c) : cnt (cs.take (i + 1)) = upto c.2.toNat (cnt (cs.take i)) := by
  unfold cnt
  rw [List.take_add_one, h, List.foldl_append]
  rfl
theorem cnt_rev {cs : List Cls2} : cnt cs.reverse = cnt cs := fold_rev (fun a x y => upto_comm) _ _
theorem cnt_map {cs : List Cls2} {g : Int → Int} : cnt (cs.map (fun c => (g c.1, c.2))) = cnt cs := by
  unfold cnt
  rw [List.foldl_map]
/-- the table of the ways, as a list -/
def wl (T : Nat) (w : Nat → Int) : List Int := (List.range (T + 1)).map w
theorem wl_len {T : Nat} {w : Nat → Int} : (wl T w).length = T + 1 := by unfold wl; rw [List.length_map, List.length_range]
theorem wl_at {T f : Nat} {w : Nat → Int} (h : f ≤ T) : (wl T w)[f]? = some (w f) := by
  unfold wl
  rw [List.getElem?_map, List.getElem?_range (by omega)]
  rfl
theorem wl_ext {T : Nat} {w u : Nat → Int} (h : ∀ f, f ≤ T → w f = u f) : wl T w = wl T u := by
  unfold wl
  refine List.map_congr_left fun f hf => h f ?_
  have := List.mem_range.mp hf
  omega
/-- the sizes below s + j are done -/
def mix (s j : Nat) (w : Nat → Int) (f : Nat) : Int := if f < s + j then stp s w f else w f
theorem mix_0 {s T : Nat} {w : Nat → Int} : wl T (mix s 0 w) = wl T w := wl_ext fun f _ => by
  unfold mix
  split
  · exact stp_lt (by omega)
  · rfl
theorem mix_end {s T : Nat} {w : Nat → Int} : wl T (mix s (T + 1 - s) w) = wl T (stp s w) := wl_ext fun f hf => by
  unfold mix
  rw [if_pos (by omega)]
theorem mix_set {s j T : Nat} {w : Nat → Int} (h : s + j ≤ T) : (wl T (mix s j w)).set (s + j) (stp s w (s + j)) = wl T (mix s (j + 1) w) := by
  refine List.ext_getElem? fun f => ?_
  by_cases hf : f ≤ T
  · by_cases e : f = s + j
    · rw [e, List.getElem?_set_self (by rw [wl_len]; omega), wl_at h]
      unfold mix
      rw [if_pos (by omega)]
    · rw [List.getElem?_set_ne (by omega), wl_at hf, wl_at hf]
      unfold mix
      by_cases c : f < s + j
      · rw [if_pos c, if_pos (by omega)]
      · rw [if_neg c, if_neg (by omega)]
  · rw [List.getElem?_eq_none (by rw [List.length_set, wl_len]; omega), List.getElem?_eq_none (by rw [wl_len]; omega)]
theorem mix_new {s j : Nat} {w : Nat → Int} (hs : 1 ≤ s) : mix s j w (s + j) + mix s j w j = stp s w (s + j) := by
  unfold mix
  rw [if_neg (by omega), if_pos (by omega), stp_ge (f := s + j) hs (by omega), Nat.add_sub_cancel_left]
/-! ### classes -/
def ClP (H : Hp) (v : V) (c : Cls2) : Prop := ∃ t, v = .ref t ∧ H t = some (.tup [.int c.1, .int c.2])
theorem clP_mono : Mono ClP := fun H H' v x s h => by
  obtain ⟨t, e, ht⟩ := h
  exact ⟨t, e, s _ _ ht⟩
def fds (cs : List Cls2) : Int := (cs.map (fun c => c.2)).sum
structure ClsV (cs : List Cls2) : Prop where
  l1 : 1 ≤ cs.length
  l4 : cs.length ≤ 4
  at_ : ∀ c, c ∈ cs → 1 ≤ c.1 ∧ c.1 ≤ 1000 ∧ 1 ≤ c.2
  sm : fds cs ≤ 12
def grf (n : Int) (M : Addr) : List (Str × V) := putF "fields" (.int n) (putF "classes" (.ref M) [])
theorem nfc : ¬ (("classes" : Str) = "fields") := by decide +kernel
theorem grf_classes (n : Int) (M : Addr) : (grf n M).lookup ("classes" : Str) = some (.ref M) := by
  unfold grf
  rw [lookup_putF, if_neg nfc, lookup_putF, if_pos rfl]
theorem grf_fields (n : Int) (M : Addr) : (grf n M).lookup ("fields" : Str) = some (.int n) := by
  unfold grf
  rw [lookup_putF, if_pos rfl]
theorem grf_no (n : Int) (M : Addr) {m : Str} (h1 : ¬ m = "fields") (h2 : ¬ m = "classes") : (grf n M).lookup m = none := by
  unfold grf
  rw [lookup_putF, if_neg h1, lookup_putF, if_neg h2]
  rfl
/-- the ground x of these classes -/
def GrAt (G : Addr) (H : Hp) (x : Addr) (cs : List Cls2) : Prop := ∃ dx M, H x = some (.ins G dx (grf (fds cs) M)) ∧ LAt ClP H M cs
theorem GrAt.same {G : Addr} {H H' : Hp} {x : Addr} {cs : List Cls2} (h : GrAt G H x cs) (s : Same H H') : GrAt G H' x cs := by
  obtain ⟨dx, M, h1, h2⟩ := h
  exact ⟨dx, M, s _ _ h1, h2.same clP_mono s⟩
structure GrC (K : PySem.W.Frag) (mg : Str → Option Value) (G : Addr) : Prop where
  cl : Cls K G
  nC : NoAttr K G "classes"
  nF : NoAttr K G "fields"
  g : mg "Ground" = some (.ref G)
/-- a tuple of classes, given one by one -/
def TAt (H : Hp) (p : Addr) (cs : List Cls2) : Prop := ∃ vs : List V, H p = some (.tup vs) ∧ vs.length = cs.length ∧ ∀ (i : Nat) (c : Cls2), cs[i]? = some c → ∃ v, vs[i]? = some v ∧ ClP H v c
theorem TAt.same {H H' : Hp} {p : Addr} {cs : List Cls2} (h : TAt H p cs) (s : Same H H') : TAt H' p cs := by
  obtain ⟨vs, h1, h2, h3⟩ := h
  refine ⟨vs, s _ _ h1, h2, fun i c hc => ?_⟩
  obtain ⟨v, hv, r⟩ := h3 i c hc
  exact ⟨v, hv, clP_mono _ _ _ _ s r⟩
end L

set_option Elab.async false
set_option linter.all false
set_option maxRecDepth 100000
set_option maxHeartbeats 4000000
set_option pp.maxSteps 160
set_option pp.deepTerms false
namespace L
open PySem PySem.Spec PyProof.Rows L2 Fl
local macro_rules | `(tactic| walk_at "side") => `(tactic| first | (exact .inl ⟨by omega, by omega⟩) | (exact .inr ⟨by omega, by omega⟩) | (exact .inr ⟨by decide, by decide⟩) | (show (_ : Int) ≠ _; omega) | (exact ⟨by omega, by decide⟩) | (exact ⟨by decide, by decide, by decide⟩))
local macro_rules | `(tactic| walk_at "go") => `(tactic| repeat (first | refine ⟨_, rfl, ?_⟩ | refine ⟨_, _, rfl, rfl, ?_⟩ | refine .inl ⟨_, rfl, ?_⟩ | refine ⟨rfl, ?_⟩ | refine ⟨(by walk_at "side"), ?_⟩))
local macro_rules | `(tactic| walk_at "see") => `(tactic| (set_option pp.maxSteps 110 in set_option pp.deepTerms false in trace_state))
local macro_rules | `(tactic| walk_at "if") => `(tactic| first | refine ifE ?_ ?_ | refine ifNE ?_ ?_ | refine ifD ?_ ?_ | refine ifN ?_ ?_ | refine ifB ?_ ?_)
section
variable {P : Program} {w : World} {K : PySem.W.Frag} {mg : Str → Option Value} {base : Heap}

def spCW : Sp := fun vs H Q _ => ∃ (n : Int), vs = [.int n] ∧ 1 ≤ n ∧ n ≤ 1000 ∧ Q .non H
abbrev CalCW (P : Program) (w : World) (K : PySem.W.Frag) (mg : Str → Option Value) (base : Heap) := Cal P w K mg base 1 "check_worth" ["worth"] spCW
theorem ok_cw {tk : Tok} (gMW : mg "MOST_WORTH" = some (.int 1000 tk)) (D : Dfn K mg "check_worth" "check_worth" s_check_worth ["worth"]) : CalCW P w K mg base := by
  refine D.cal sc_check_worth (fun vs H Q E h => ?_) (fun f cdv A outer st H vs Q E hr h => ?_)
  · obtain ⟨n, rfl, _⟩ := h
    rfl
  · obtain ⟨n, rfl, h1, h2, q⟩ := h
    refine ⟨_, (pss_one (ps_if (pt_not (pt_chain op_le op_le pe_int (pv 0) (pe_glob (v := .int 1000) (by rfl) gMW ⟨_, rfl⟩))) (pss_one (ps_never)) pss_nil)), ?_⟩
    exact ⟨_, rfl, _, _, rfl, rfl, _, rfl, ifD (fun _ => ⟨_, _, rfl, rfl, _, rfl, ifN (fun h => absurd h2 h) (fun _ => q)⟩) (fun h => absurd h1 h)⟩
def spCF : Sp := fun vs H Q _ => ∃ (z : Str) (n : Int), vs = [.str z, .int n] ∧ 0 ≤ n ∧ n ≤ 40 ∧ Q .non H
abbrev CalCF (P : Program) (w : World) (K : PySem.W.Frag) (mg : Str → Option Value) (base : Heap) := Cal P w K mg base 1 "check_forces" ["name", "number"] spCF
theorem ok_cf {G : Addr} {mc : Value} {tk : Tok} (TG : GrC K mg G) (CR : ClX.CRead K G mc) (C40 : ClX.CVal K G mc "MOST_FORCES" (.int 40) (.int 40 tk)) (D : Dfn K mg "check_forces" "check_forces" s_check_forces ["name", "number"]) : CalCF P w K mg base := by
  refine D.cal sc_check_forces (fun vs H Q E h => ?_) (fun f cdv A outer st H vs Q E hr h => ?_)
  · obtain ⟨z, n, rfl, _⟩ := h
    rfl
  · obtain ⟨z, n, rfl, h1, h2, q⟩ := h
    refine ⟨_, (pss_one (ps_if (pt_not (pt_chain op_le op_le pe_int (pv 1) (ClX.pe_cval (pe_glob (v := .ref _) (by rfl) TG.g rfl)))) (pss_one (ps_never)) pss_nil)), ?_⟩
    exact ⟨_, rfl, _, _, rfl, rfl, _, rfl, ifD (fun _ => ⟨G, mc, _, _, rfl, CR, C40, _, _, rfl, rfl, _, rfl, ifN (fun h => absurd h2 h) (fun _ => q)⟩) (fun h => absurd h1 h)⟩
theorem fds_sum {cs : List Cls2} : ((cs.map (fun c => c.2))).sum = fds cs := rfl
def spCC : Sp := fun vs H Q _ => ∃ (p : Addr) (cs : List Cls2), vs = [.ref p] ∧ TAt H p cs ∧ ClsV cs ∧ ∀ H', Same H H' → Q .non H'
abbrev CalCC (P : Program) (w : World) (K : PySem.W.Frag) (mg : Str → Option Value) (base : Heap) := Cal P w K mg base 2 "_check_classes" ["classes"] spCC
theorem ok_cc {G : Addr} {mc : Value} {tk tk2 : Tok} (B : Blt mg) (TG : GrC K mg G) (CR : ClX.CRead K G mc) (C12 : ClX.CVal K G mc "MOST_FIELDS" (.int 12) (.int 12 tk)) (gMC : mg "MOST_CLASSES" = some (.int 4 tk2)) (C_check_worth : CalCW P w K mg base) (D : Dfn K mg "_check_classes" "_check_classes" s_check_classes ["classes"]) : CalCC P w K mg base := by
  refine D.cal sc_check_classes (fun vs H Q E h => ?_) (fun f cdv A outer st H vs Q E hr h => ?_)
  · obtain ⟨p, cs, rfl, _⟩ := h
    rfl
  · obtain ⟨p, cs, rfl, ⟨vs, hp, hlen, hat⟩, ok, q⟩ := h
    have l1 := ok.l1
    have l4 := ok.l4
    refine ⟨_, (pss_cons (ps_if (pt_not (pt_truth (pv 0) (by intro _; rfl))) (pss_one (ps_never)) pss_nil)
      (pss_cons (ps_if (pt_cmpR op_gt (pe_callB call_len_seq (by rfl) B.len PySem.boot_len (pa_cons (pv 0) pa_nil)) (pe_glob (v := .int 4) (by rfl) gMC ⟨_, rfl⟩) (nomark _)) (pss_one (ps_never)) pss_nil)
      (pss_cons (ps_for PassesOwn.never rfl (pi_tup (pv 0)) (pg_tup rfl (pgs_cons (pg_name (i := 1) sc_check_classes.nd rfl (Or.inl rfl)) (pgs_cons (pg_name (i := 2) sc_check_classes.nd rfl (Or.inl rfl)) pgs_nil))) (pss_cons (ps_expr (pe_cal C_check_worth (hr.mono (by decide)) (pa_cons (pv 1) pa_nil)))
      (pss_one (ps_if (pt_cmpR op_lt (pv 2) (pe_int) (nomark _)) (pss_one (ps_never)) pss_nil))))
      (pss_one (ps_if (pt_cmpR op_gt (pe_callB (cr_sum rfl) (by rfl) B.sum (by decide +kernel) (pa_cons (pe_lc (own := [("_", 3), ("many", 2)]) (g := (gTup K 2 (gCons (gName 3) (gCons (gName 2) gNil)))) rfl sc_check_classes.nd (pi_tup (pv 0)) (blkOk_by (N := ["classes", "worth", "many", "_"]) (sc := defScope s_check_classes) (by decide +kernel)) (fun _ _ _ _ _ => (pg_tup rfl (pgs_cons (pg_name (i := 3) sc_check_classes.nd rfl (Or.inl rfl)) (pgs_cons (pg_name (i := 2) sc_check_classes.nd rfl (Or.inl rfl)) pgs_nil)))) (fun _ _ _ _ _ => pts_nil) (fun _ _ _ _ _ => (pv 2))) pa_nil)) (ClX.pe_cval (pe_glob (v := .ref _) (by rfl) TG.g rfl)) (nomark _)) (pss_one (ps_never)) pss_nil))))), ?_⟩
    refine ⟨_, rfl, _, .inr (.inl ⟨_, SqT.of hp, rfl⟩), ?_⟩
    rw [show vs.isEmpty = false by cases vs with | nil => (rw [← hlen] at l1; exact absurd l1 (by decide)) | cons _ _ => rfl]
    refine iteF ?_
    refine ⟨_, rfl, _, _, rfl, .inr (SqT.of hp), _, _, rfl, rfl, _, rfl, ifD (fun h => absurd h (by omega)) (fun _ => ?_)⟩
    refine ⟨_, rfl, p, rfl, ⟨_, SqT.of hp⟩, for_tup (K := K) (a := p) (xs := vs) (fun i σ H' => H' = H ∧ ∃ o1 o2 : Option V, σ = [some (.ref p), o1, o2, none]) ⟨rfl, none, none, rfl⟩ (fun i σ H' _ h => by rw [h.1]; exact SqT.of hp) ?_ ?_⟩
    · rintro i x σ H' hx ⟨rfl, o1, o2, rfl⟩
      have hi : i < vs.length := (List.getElem?_eq_some_iff.mp hx).1
      have hc : cs[i]? = some cs[i] := List.getElem?_eq_getElem (by omega)
      obtain ⟨v, hv, t, rfl, ht⟩ := hat i _ hc
      rw [hx] at hv
      cases hv
      obtain ⟨c1, c2, c3⟩ := ok.at_ _ (List.mem_of_getElem? hc)
      refine ⟨t, _, rfl, SqT.of ht, rfl, _, _, rfl, _, _, rfl, rfl, ?_⟩
      exact ⟨_, rfl, _, rfl, c1, c2, _, rfl, _, _, rfl, rfl, _, rfl, ifD (fun h => absurd h (by omega)) (fun _ => ⟨rfl, _, _, rfl⟩)⟩
    rintro σ Hz ⟨rfl, o1, o2, rfl⟩
    refine ⟨_, rfl, p, rfl, ⟨_, SqT.of hp⟩, fun D hD => lc_tup (K := K) (a := p) (xs := vs) (fun i H' => Same Hz H' ∧ H' D = some (.lst (((cs.take i).map (fun c => c.2)).map V.int))) ⟨same_upd hD, upd_same⟩ (fun i H' _ h => SqT.of (h.1 _ _ hp)) ?_ ?_⟩
    · rintro i x H' hx ⟨s1, hD1⟩
      have hi : i < vs.length := (List.getElem?_eq_some_iff.mp hx).1
      have hc : cs[i]? = some cs[i] := List.getElem?_eq_getElem (by omega)
      obtain ⟨v, hv, t, rfl, ht⟩ := hat i _ hc
      rw [hx] at hv
      cases hv
      refine ⟨t, _, rfl, SqT.of (s1 _ _ ( ht)), rfl, _, _, rfl, _, _, rfl, rfl, rfl, ?_⟩
      refine ⟨_, rfl, _, hD1, ?_, same_late s1 hD, ?_⟩
      · rw [List.length_map, List.length_map, List.length_take]
        exact small1000 (by omega)
      · rw [upd_same, List.take_add_one, hc, List.map_append, List.map_append]
        rfl
    rintro H9 ⟨s1, hD1⟩
    rw [List.take_of_length_le (by omega)] at hD1

    exact ⟨_, _, rfl, SqL.of hD1, G, mc, _, _, rfl, CR, C12, _, _, rfl, rfl, _, rfl, ifD (fun h => absurd ok.sm (by have e : fds cs = (cs.map (fun c => c.2)).sum := rfl; omega)) (fun _ => q H9 s1)⟩
end
end L

set_option Elab.async false
set_option linter.all false
set_option maxRecDepth 100000
set_option maxHeartbeats 4000000
set_option pp.maxSteps 160
set_option pp.deepTerms false
namespace L
open PySem PySem.Spec PyProof.Rows L2 Fl
local macro_rules | `(tactic| walk_at "side") => `(tactic| first | (exact .inl ⟨by omega, by omega⟩) | (exact .inr ⟨by omega, by omega⟩) | (exact .inr ⟨by decide, by decide⟩) | (show (_ : Int) ≠ _; omega) | (exact ⟨by omega, by decide⟩) | (exact ⟨by decide, by decide, by decide⟩))
local macro_rules | `(tactic| walk_at "go") => `(tactic| repeat (first | refine ⟨_, rfl, ?_⟩ | refine ⟨_, _, rfl, rfl, ?_⟩ | refine .inl ⟨_, rfl, ?_⟩ | refine ⟨rfl, ?_⟩ | refine ⟨(by walk_at "side"), ?_⟩))
local macro_rules | `(tactic| walk_at "see") => `(tactic| (set_option pp.maxSteps 110 in set_option pp.deepTerms false in trace_state))
local macro_rules | `(tactic| walk_at "if") => `(tactic| first | refine ifE ?_ ?_ | refine ifNE ?_ ?_ | refine ifD ?_ ?_ | refine ifN ?_ ?_ | refine ifB ?_ ?_)
section
variable {P : Program} {w : World} {K : PySem.W.Frag} {mg : Str → Option Value} {base : Heap}

theorem clP_ins {G x dx : Addr} {H : Hp} {fs : List (Str × V)} {o : HO} {v : V} {c : Cls2} (h : ClP H v c) (hx : H x = some (.ins G dx fs)) : ClP (upd H x o) v c := by
  obtain ⟨t, e, ht⟩ := h
  exact ⟨t, e, by rw [upd_ne (ne_of ht hx (by intro q; cases q))]; exact ht⟩
def spGI (G : Addr) : Sp := fun vs H Q _ => ∃ (x dx p : Addr) (cs : List Cls2), vs = [.ref x, .ref p] ∧ H x = some (.ins G dx []) ∧ TAt H p cs ∧ ClsV cs ∧ ∀ (M : Addr) (H' : Hp), Keeps H H' x → H' x = some (.ins G dx (grf (fds cs) M)) → LAt ClP H' M cs → Q .non H'
def spGround (G : Addr) : Sp := fun vs H Q E => ∃ ws rest, vs = ws ++ rest ∧ ws.length = (["self"] : List Str).length ∧ rest.length ≤ sizeLine ∧ ∀ p, H p = Option.none → spGI G (ws ++ [V.ref p]) (upd H p (.tup rest)) Q E
theorem ok_gr_init {G fI : Addr} {oc kV dc pm cd ct : Value} {od an : Option Addr} {sl : Array (Option Value)} (B : Blt mg) (TG : GrC K mg G) (lk : K.lookup fI = some ⟨oc, od, .func (PySem.W.fnOf "__init__" "Ground.__init__" (defArgs s_Ground_init) (defBody s_Ground_init) (defScope s_Ground_init) .none kV dc pm an cd ct), sl⟩) (hcd : PySem.W.codeIn K cd "Ground.__init__" = true) (C_check_classes : CalCC P w K mg base) :
    FnR P w K mg base CX0 3 fI (spGround G) := by
  refine StX.fn_star (ps := ["self"]) (pv := "classes") (N := ["self", "classes", "_", "many"]) (sp := spGI G) lk hcd sc_Ground_init StX.cxUp_none (StX.bind_star1 (B := fun us => bindArgs (PySem.W.fnOf "__init__" "Ground.__init__" (defArgs s_Ground_init) (defBody s_Ground_init) (defScope s_Ground_init) .none kV dc pm an cd ct) ⟨us, []⟩) (fun a => rfl) (fun a r rs => rfl)) (fun A outer st H vs Q E hr h => ?_)
  obtain ⟨x, dx, p, cs, rfl, hx, hp, ok, q⟩ := h
  have l4 := ok.l4
  refine ⟨_, (pss_cons (ps_expr (pe_cal C_check_classes (hr.mono (by decide)) (pa_cons (pv 1) pa_nil)))
      (pss_cons (ps_fld (pv 0) (pe_callTy call_list_of (by rfl) B.list (by decide +kernel) (pa_cons (pv 1) pa_nil)) rfl)
      (pss_one (ps_fld (pv 0) (pe_callB (cr_sum rfl) (by rfl) B.sum (by decide +kernel) (pa_cons (pe_lc (own := [("_", 2), ("many", 3)]) (g := (gTup K 2 (gCons (gName 2) (gCons (gName 3) gNil)))) rfl sc_Ground_init.nd (pi_tup (pv 1)) (blkOk_by (N := ["self", "classes", "_", "many"]) (sc := defScope s_Ground_init) (by decide +kernel)) (fun _ _ _ _ _ => (pg_tup rfl (pgs_cons (pg_name (i := 2) sc_Ground_init.nd rfl (Or.inl rfl)) (pgs_cons (pg_name (i := 3) sc_Ground_init.nd rfl (Or.inl rfl)) pgs_nil)))) (fun _ _ _ _ _ => pts_nil) (fun _ _ _ _ _ => (pv 3))) pa_nil)) rfl)))), ?_⟩
  refine ⟨_, rfl, p, cs, rfl, hp, ok, fun H1 s1 => ?_⟩
  have hx1 := s1 _ _ hx
  obtain ⟨vs, hp1, hlen, hat⟩ := hp.same s1
  refine ⟨_, rfl, p, _, rfl, .inr (SqT.of hp1), fun M hM => ?_⟩
  have sM := same_upd (o := .lst vs) hM
  have hx2 := sM _ _ hx1
  refine ⟨_, rfl, x, G, dx, [], rfl, hx2, TG.cl, TG.nC, (by show 0 < 1000; decide), ?_⟩
  have hMx : M ≠ x := fun e => by
    rw [e, hx1] at hM
    cases hM
  have kx : Keeps H (upd (upd H1 M (.lst vs)) x (.ins G dx (putF "classes" (.ref M) []))) x := (same_keeps (s1.trans sM)).trans Keeps.upd
  have hp2 : upd (upd H1 M (.lst vs)) x (.ins G dx (putF "classes" (.ref M) [])) p = some (.tup vs) := by
    rw [upd_ne (ne_of hp1 hx1 (by intro q; cases q))]
    exact sM _ _ hp1
  have hM2 : upd (upd H1 M (.lst vs)) x (.ins G dx (putF "classes" (.ref M) [])) M = some (.lst vs) := by
    rw [upd_ne hMx, upd_same]
  have hat : ∀ (i : Nat) (c : Cls2), cs[i]? = some c → ∃ v, vs[i]? = some v ∧ ClP (upd (upd H1 M (.lst vs)) x (.ins G dx (putF "classes" (.ref M) []))) v c := fun i c hc => by
    obtain ⟨v, hv, r⟩ := hat i c hc
    exact ⟨v, hv, clP_ins (clP_mono _ _ _ _ sM r) hx2⟩
  have hx3 : upd (upd H1 M (.lst vs)) x (.ins G dx (putF "classes" (.ref M) [])) x = some (.ins G dx (putF "classes" (.ref M) [])) := upd_same
  generalize upd (upd H1 M (.lst vs)) x (.ins G dx (putF "classes" (.ref M) [])) = Hz at *
  refine ⟨_, rfl, p, rfl, ⟨_, SqT.of hp2⟩, fun D hD => lc_tup (K := K) (a := p) (xs := vs) (fun i H' => Same Hz H' ∧ H' D = some (.lst (((cs.take i).map (fun c => c.2)).map V.int))) ⟨same_upd hD, upd_same⟩ (fun i H' _ h => SqT.of (h.1 _ _ hp2)) ?_ ?_⟩
  · rintro i x H' hx ⟨s1, hD1⟩
    have hi : i < vs.length := (List.getElem?_eq_some_iff.mp hx).1
    have hc : cs[i]? = some cs[i] := List.getElem?_eq_getElem (by omega)
    obtain ⟨v, hv, t, rfl, ht⟩ := hat i _ hc
    rw [hx] at hv
    cases hv
    refine ⟨t, _, rfl, SqT.of (s1 _ _ ht), rfl, _, _, rfl, _, _, rfl, rfl, rfl, ?_⟩
    refine ⟨_, rfl, _, hD1, ?_, same_late s1 hD, ?_⟩
    · rw [List.length_map, List.length_map, List.length_take]
      exact small1000 (by omega)
    · rw [upd_same, List.take_add_one, hc, List.map_append, List.map_append]
      rfl
  rintro H9 ⟨s1, hD1⟩
  rw [List.take_of_length_le (by omega)] at hD1

  have hx9 := s1 _ _ hx3
  refine ⟨_, _, rfl, SqL.of hD1, _, rfl, x, G, dx, _, rfl, hx9, TG.cl, TG.nF, (by show 1 < 1000; decide), ?_⟩
  refine q M _ ((kx.trans (same_keeps s1)).trans Keeps.upd) upd_same ⟨vs, by rw [upd_ne hMx]; exact s1 _ _ hM2, hlen, fun i c hc => ?_⟩
  obtain ⟨v, hv, r⟩ := hat i c hc
  exact ⟨v, hv, clP_ins (clP_mono _ _ _ _ s1 r) hx9⟩
def spCS (G : Addr) : Sp := fun vs H Q _ => ∃ (x : Addr) (cs : List Cls2) (T : Nat), vs = [.ref x, .int (T : Int)] ∧ GrAt G H x cs ∧ (∀ c, c ∈ cs → 1 ≤ c.2 ∧ c.2 ≤ 12) ∧ T ≤ 40 ∧ ∀ H', Same H H' → Q (.int (cnt cs T)) H'
theorem ok_cs {G fA : Addr} {fd : FuncData} (B : Blt mg) (TG : GrC K mg G) (C_check_forces : CalCF P w K mg base) (F : Fun K "count_spreads" "Ground.count_spreads" s_Ground_count_spreads fA fd) : FnOk P w K mg base CX0 2 fA fd ["self", "total"] (spCS G) := by
  refine F.ok sc_Ground_count_spreads (fun vs H Q E h => ?_) (fun cdv A outer st H vs Q E hr h => ?_)
  · obtain ⟨x, cs, T, rfl, _⟩ := h
    rfl
  · obtain ⟨x, cs, T, rfl, ⟨dx, M, hx, hM⟩, hc, hT, q⟩ := h
    refine ⟨_, (pss_cons (ps_expr (pe_cal C_check_forces (hr.mono (by decide)) (pa_cons (pe_str) (pa_cons (pv 1) pa_nil))))
      (pss_cons (ps_set (i := 2) sc_Ground_count_spreads.nd rfl (Or.inl rfl) (pe_op op_cat (pe_lst (pa_cons (pe_int) pa_nil)) (pe_lc (own := [("_", 3)]) (g := gName 3) rfl sc_Ground_count_spreads.nd (pi_range1 (by rfl) B.range (pa_cons (pv 1) pa_nil)) (blkOk_by (N := ["self", "total", "ways", "_", "many", "size", "forces"]) (sc := defScope s_Ground_count_spreads) (by decide +kernel)) (fun _ _ _ _ _ => pg_name (i := 3) sc_Ground_count_spreads.nd rfl (Or.inl rfl)) (fun _ _ _ _ _ => pts_nil) (fun _ _ _ _ _ => (pe_int)))))
      (pss_cons (ps_for PassesOwn.never rfl (pi_list (pe_fld (pv 0) rfl)) (pg_tup rfl (pgs_cons (pg_name (i := 3) sc_Ground_count_spreads.nd rfl (Or.inl rfl)) (pgs_cons (pg_name (i := 4) sc_Ground_count_spreads.nd rfl (Or.inl rfl)) pgs_nil))) (pss_one (ps_for PassesOwn.never rfl (pi_range2 (by rfl) B.range (pa_cons (pe_int) (pa_cons (pe_op op_add (pv 4) (pe_int)) pa_nil))) (pg_name (i := 5) sc_Ground_count_spreads.nd rfl (Or.inl rfl)) (pss_one (ps_for PassesOwn.never rfl (pi_range2 (by rfl) B.range (pa_cons (pv 5) (pa_cons (pe_op op_add (pv 1) (pe_int)) pa_nil))) (pg_name (i := 6) sc_Ground_count_spreads.nd rfl (Or.inl rfl)) (pss_one (ps_asg (pe_op op_add (pe_ix ix_list (pv 2) (pv 6) (fun _ _ => rfl)) (pe_ix ix_list (pv 2) (pe_op op_sub (pv 6) (pv 5)) (fun _ _ => rfl))) (pg_sub (pv 2) (pv 6) set_list))))))))
      (pss_one (ps_ret (pe_ix ix_list (pv 2) (pv 1) (fun _ _ => rfl))))))), ?_⟩
    refine ⟨_, rfl, _, _, rfl, by omega, by omega, ?_⟩
    refine ⟨(by show 1 ≤ sizeLine; decide), fun t1 ht1 => ?_⟩
    refine ⟨_, rfl, _, rfl, by omega, by omega, fun D hD => ?_⟩
    rw [Int.toNat_natCast]
    refine lc_range (lo := 0) (n := T) (fun i H' => H' = upd (upd H t1 (.lst [.int 1])) D (.lst ((List.replicate i (0 : Int)).map V.int))) rfl ?_ ?_
    · rintro i H' hi rfl
      refine ⟨rfl, _, upd_same, ?_, ?_⟩
      · rw [List.length_map, List.length_replicate]
        exact small1000 (by omega)
      · rw [upd_upd, List.replicate_succ', List.map_append]
        rfl
    rintro H1 rfl
    have st := same_upd (o := .lst [.int 1]) ht1
    have sD := same_upd (o := .lst ((List.replicate T (0 : Int)).map V.int)) hD
    have h1 : upd (upd H t1 (.lst [.int 1])) D (.lst ((List.replicate T (0 : Int)).map V.int)) t1 = some (.lst [.int 1]) := sD _ _ upd_same
    have h2 : upd (upd H t1 (.lst [.int 1])) D (.lst ((List.replicate T (0 : Int)).map V.int)) D = some (.lst ((List.replicate T (0 : Int)).map V.int)) := upd_same
    have sH := st.trans sD
    generalize upd (upd H t1 (.lst [.int 1])) D (.lst ((List.replicate T (0 : Int)).map V.int)) = H2 at *
    have e0 : [V.int 1] ++ (List.replicate T (0 : Int)).map V.int = (wl T dlt).map V.int := by
      rw [show [V.int 1] ++ (List.replicate T (0 : Int)).map V.int = ((1 : Int) :: List.replicate T 0).map V.int from rfl]
      congr 1
      refine List.ext_getElem? fun i => ?_
      by_cases hi : i ≤ T
      · rw [wl_at hi]
        cases i with
        | zero => rfl
        | succ i =>
          rw [List.getElem?_cons_succ, List.getElem?_replicate, if_pos (by omega)]
          unfold dlt
          rw [if_neg (by omega)]
      · rw [List.getElem?_eq_none (by rw [List.length_cons, List.length_replicate]; omega), List.getElem?_eq_none (by rw [wl_len]; omega)]
    refine ⟨t1, D, _, _, rfl, rfl, h1, h2, ?_, fun W hW0 => ?_⟩
    · rw [List.length_map, List.length_replicate]
      exact Nat.le_of_lt (small1000 (by show 1 + T ≤ 1000; omega))
    rw [e0]
    have hx := sH _ _ hx
    obtain ⟨vs, hM2, hlen, hat⟩ := hM.same clP_mono sH
    refine ⟨_, rfl, x, G, dx, _, _, rfl, same_upd hW0 _ _ hx, TG.cl, TG.nC, grf_classes _ _, M, rfl, ⟨_, SqL.of (same_upd hW0 _ _ hM2)⟩, for_list (K := K) (a := M) (xs := vs) (fun i σ H' => ∃ o1 o2 o3 o4 : Option V, σ = [some (.ref x), some (.int (T : Int)), some (.ref W), o1, o2, o3, o4] ∧ Same H2 H' ∧ H' W = some (.lst ((wl T (cnt (cs.take i))).map V.int))) ⟨none, none, none, none, rfl, same_upd hW0, upd_same⟩ (fun i σ H' _ h => by obtain ⟨_, _, _, _, _, s, _⟩ := h; exact SqL.of (s _ _ hM2)) ?_ ?_⟩
    · rintro i y σ H3 hy ⟨o1, o2, o3, o4, rfl, s3, hW⟩
      have hi : i < vs.length := (List.getElem?_eq_some_iff.mp hy).1
      have hci : cs[i]? = some cs[i] := List.getElem?_eq_getElem (by omega)
      obtain ⟨v, hv, t, rfl, ht⟩ := hat i _ hci
      rw [hy] at hv
      cases hv
      obtain ⟨m1, m12⟩ := hc _ (List.mem_of_getElem? hci)
      have hsn := cnt_snoc hci
      have ht3 := s3 _ _ ht
      generalize cs[i] = c at *
      obtain ⟨c1, c2⟩ := c
      obtain ⟨m, rfl⟩ : ∃ m : Nat, c2 = (m : Int) := ⟨c2.toNat, by have : 1 ≤ c2 := m1; omega⟩
      have m12 : (m : Int) ≤ 12 := m12
      rw [Int.toNat_natCast] at hsn
      rw [hsn]
      generalize cnt (cs.take i) = w0 at *
      refine ⟨t, _, rfl, SqT.of ht3, rfl, _, _, rfl, _, _, rfl, rfl, ?_⟩
      refine ⟨_, rfl, _, _, rfl, rfl, _, _, rfl, ⟨by decide, by decide, by omega, by omega⟩, ?_⟩
      rw [show ((m : Int) + 1 - 1).toNat = m by omega]
      refine for_range (lo := 1) (n := m) (fun j σ H' => ∃ o3 o4 : Option V, σ = [some (.ref x), some (.int (T : Int)), some (.ref W), some (.int c1), some (.int (m : Int)), o3, o4] ∧ Same H2 H' ∧ H' W = some (.lst ((wl T ((List.range j).foldl (fun w i => stp (i + 1) w) w0)).map V.int))) ⟨o3, o4, rfl, s3, hW⟩ ?_ ?_
      · rintro j σ H4 hj ⟨o3, o4, rfl, s4, hW4⟩
        generalize hw1 : (List.range j).foldl (fun w i => stp (i + 1) w) w0 = w1 at hW4
        refine ⟨_, rfl, _, rfl, _, _, rfl, rfl, _, _, rfl, ⟨by omega, by omega, by omega, by omega⟩, ?_⟩
        rw [show ((T : Int) + 1 - (1 + (j : Int))).toNat = T + 1 - (j + 1) by omega]
        refine for_range (lo := 1 + (j : Int)) (n := T + 1 - (j + 1)) (fun q σ H' => ∃ o4 : Option V, σ = [some (.ref x), some (.int (T : Int)), some (.ref W), some (.int c1), some (.int (m : Int)), some (.int (1 + (j : Int))), o4] ∧ Same H2 H' ∧ H' W = some (.lst ((wl T (mix (j + 1) q w1)).map V.int))) ⟨o4, rfl, s4, by rw [mix_0]; exact hW4⟩ ?_ ?_
        · rintro q σ H5 hq ⟨o4, rfl, s5, hW5⟩
          have a1 : atI ((wl T (mix (j + 1) q w1)).map V.int) (1 + (j : Int) + (q : Int)) = some (V.int (mix (j + 1) q w1 (j + 1 + q))) := by
            rw [show 1 + (j : Int) + (q : Int) = ((j + 1 + q : Nat) : Int) by omega]
            refine atI_nat ?_
            rw [List.getElem?_map, wl_at (by omega)]
            rfl
          have a2 : atI ((wl T (mix (j + 1) q w1)).map V.int) (1 + (j : Int) + (q : Int) - (1 + (j : Int))) = some (V.int (mix (j + 1) q w1 q)) := by
            rw [show 1 + (j : Int) + (q : Int) - (1 + (j : Int)) = (q : Int) by omega]
            refine atI_nat ?_
            rw [List.getElem?_map, wl_at (by omega)]
            rfl
          have a3 : ixN ((wl T (mix (j + 1) q w1)).map V.int).length (1 + (j : Int) + (q : Int)) = some (j + 1 + q) := by
            rw [List.length_map, wl_len]
            unfold ixN
            rw [if_pos (by omega), if_pos (by omega)]
            congr 1
            omega
          refine ⟨_, rfl, _, rfl, _, _, _, _, rfl, rfl, SqL.of hW5, a1, _, rfl, _, rfl, _, rfl, _, _, rfl, rfl, _, _, _, _, rfl, rfl, SqL.of hW5, a2, _, _, rfl, rfl, _, rfl, _, rfl, W, _, _, _, rfl, rfl, hW5, a3, ?_⟩
          refine ⟨_, rfl, same_late s5 hW0, ?_⟩
          rw [upd_same]
          dsimp only
          rw [mix_new (by omega), ← List.map_set, mix_set (by omega)]
        · rintro σ H5 ⟨o4, rfl, s5, hW5⟩
          rw [mix_end] at hW5
          refine ⟨_, _, rfl, s5, ?_⟩
          rw [upto_succ, hw1]
          exact hW5
      · rintro σ H4 ⟨o3, o4, rfl, s4, hW4⟩
        exact ⟨_, _, _, _, rfl, s4, hW4⟩
    · rintro σ H3 ⟨o1, o2, o3, o4, rfl, s3, hW⟩
      rw [hlen, List.take_length] at hW
      refine ⟨_, rfl, _, rfl, _, _, _, _, rfl, rfl, SqL.of hW, ?a, q H3 (sH.trans s3)⟩
      case a =>
        refine atI_nat ?_
        rw [List.getElem?_map, wl_at (Nat.le_refl _)]
        rfl
end
end L

set_option Elab.async false
set_option linter.all false
set_option maxRecDepth 100000
set_option maxHeartbeats 4000000
set_option pp.maxSteps 160
set_option pp.deepTerms false
namespace L
open PySem PySem.Spec PyProof.Rows L2 Fl
local macro_rules | `(tactic| walk_at "side") => `(tactic| first | (exact .inl ⟨by omega, by omega⟩) | (exact .inr ⟨by omega, by omega⟩) | (exact .inr ⟨by decide, by decide⟩) | (show (_ : Int) ≠ _; omega) | (exact ⟨by omega, by decide⟩) | (exact ⟨by decide, by decide, by decide⟩))
local macro_rules | `(tactic| walk_at "go") => `(tactic| repeat (first | refine ⟨_, rfl, ?_⟩ | refine ⟨_, _, rfl, rfl, ?_⟩ | refine .inl ⟨_, rfl, ?_⟩ | refine ⟨rfl, ?_⟩ | refine ⟨(by walk_at "side"), ?_⟩))
local macro_rules | `(tactic| walk_at "see") => `(tactic| (set_option pp.maxSteps 110 in set_option pp.deepTerms false in trace_state))
local macro_rules | `(tactic| walk_at "if") => `(tactic| first | refine ifE ?_ ?_ | refine ifNE ?_ ?_ | refine ifD ?_ ?_ | refine ifN ?_ ?_ | refine ifB ?_ ?_)
section
variable {P : Program} {w : World} {K : PySem.W.Frag} {mg : Str → Option Value} {base : Heap}

theorem clP_keep {H H' : Hp} {p : Pla} {v : V} {c : Cls2} (h : ClP H v c) (hP : Pool H p) (k : Keeps H H' p) : ClP H' v c := by
  obtain ⟨t, e, ht⟩ := h
  obtain ⟨_, _, _, _, _, hp, _⟩ := hP
  exact ⟨t, e, k _ _ ht (ne_of ht hp (by intro q; cases q))⟩
theorem lat_keep {H H' : Hp} {p : Pla} {L : Addr} {cs : List Cls2} (h : LAt ClP H L cs) (hP : Pool H p) (n : L ≠ p) (k : Keeps H H' p) : LAt ClP H' L cs := by
  obtain ⟨vs, h1, h2, h3⟩ := h
  refine ⟨vs, k _ _ h1 n, h2, fun i c hc => ?_⟩
  obtain ⟨v, hv, r⟩ := h3 i c hc
  exact ⟨v, hv, clP_keep r hP k⟩
theorem clP_lst {H : Hp} {L : Addr} {xs ys : List V} {v : V} {c : Cls2} (h : ClP H v c) (hL : H L = some (.lst xs)) : ClP (upd H L (.lst ys)) v c := by
  obtain ⟨t, e, ht⟩ := h
  exact ⟨t, e, by rw [upd_ne (ne_of ht hL (by intro q; cases q))]; exact ht⟩
theorem cls_snoc {H : Hp} {L : Addr} {vs : List V} {cs : List Cls2} {v : V} {c : Cls2} (hL : H L = some (.lst vs)) (hA : LAt ClP H L cs) (hv : ClP H v c) : LAt ClP (upd H L (.lst (vs ++ [v]))) L (cs ++ [c]) := by
  obtain ⟨us, h1, h2, h3⟩ := hA
  rw [hL] at h1
  cases h1
  refine ⟨vs ++ [v], upd_same, by rw [List.length_append, List.length_append, h2]; rfl, fun i y hy => ?_⟩
  by_cases h : i < cs.length
  · rw [List.getElem?_append_left h] at hy
    obtain ⟨u, hu, r⟩ := h3 i y hy
    exact ⟨u, by rw [List.getElem?_append_left (by omega)]; exact hu, clP_lst r hL⟩
  · rw [List.getElem?_append_right (by omega)] at hy
    have e : i = cs.length := by
      rcases Nat.lt_or_ge (i - cs.length) 1 with h2 | h2
      · omega
      · rw [List.getElem?_eq_none (by simpa using h2)] at hy
        cases hy
    subst e
    rw [Nat.sub_self] at hy
    cases hy
    exact ⟨v, by rw [List.getElem?_append_right (by omega), h2, Nat.sub_self]; rfl, clP_lst hv hL⟩
theorem fds_app {a b : List Cls2} : fds (a ++ b) = fds a + fds b := by
  unfold fds
  rw [List.map_append, List.sum_append]
theorem fds_one {c : Cls2} : fds [c] = c.2 := by
  show c.2 + 0 = c.2
  omega
theorem le_fds : ∀ {cs : List Cls2}, (∀ c, c ∈ cs → 1 ≤ c.2) → 0 ≤ fds cs ∧ ∀ c, c ∈ cs → c.2 ≤ fds cs
  | [], _ => ⟨Int.le_refl _, fun c hc => nomatch hc⟩
  | a :: r, h => by
    obtain ⟨h0, hr⟩ := le_fds (cs := r) fun c hc => h c (List.mem_cons_of_mem _ hc)
    have ha := h a (List.mem_cons_self ..)
    have e : fds (a :: r) = a.2 + fds r := rfl
    refine ⟨by omega, fun c hc => ?_⟩
    rcases List.mem_cons.mp hc with q | q
    · rw [q]
      omega
    · have := hr c q
      omega
theorem ClsV.b12 {cs : List Cls2} (h : ClsV cs) : ∀ c, c ∈ cs → 1 ≤ c.2 ∧ c.2 ≤ 12 := fun c hc => by
  have h1 := (h.at_ c hc).2.2
  have h2 := (le_fds fun c hc => (h.at_ c hc).2.2).2 c hc
  have := h.sm
  exact ⟨h1, by omega⟩
def spDraw1 : Sp := fun vs H Q _ => ∃ (p : Pla), vs = [.ref p, .int 1] ∧ Q (.int 0) H
abbrev CalDraw1 (P : Program) (w : World) (K : PySem.W.Frag) (mg : Str → Option Value) (base : Heap) := Cal P w K mg base 2 "_law_draw" ["_law_pool_here", "_law_many"] spDraw1
theorem ok_draw1 (B : Blt mg) (D : Dfn K mg "_law_draw" "_law_draw" s_draw ["_law_pool_here", "_law_many"]) (C_mix : CalMix P w K mg base) : CalDraw1 P w K mg base := by
  refine D.cal sc_draw (fun vs H Q E h => ?_) (fun f cdv A outer st H vs Q E hr h => ?_)
  · obtain ⟨p, rfl, _⟩ := h
    rfl
  · obtain ⟨p, rfl, q⟩ := h
    refine ⟨_, (pss_cons (ps_if (PW.pt (pw_or (pt_cmpR op_lt (pv 1) (pe_int) (nomark _)) (pw_or1 (pt_cmpR op_eq (pe_callB call_len_seq (by rfl) B.len PySem.boot_len (pa_cons (pe_ix ix_list (pv 0) (pe_int) (fun _ _ => rfl)) pa_nil)) (pe_int) (nomark _))))) (pss_one (ps_ret (pe_int))) pss_nil)
      (pss_cons (ps_asg (pe_op op_add (pe_ix ix_list (pv 0) (pe_int) (fun _ _ => rfl)) (pe_int)) (pg_sub (pv 0) (pe_int) set_list))
      (pss_cons (ps_for PassesOwn.never rfl (pi_range1 (by rfl) B.range (pa_cons (pe_int) pa_nil)) (pg_name (i := 2) sc_draw.nd rfl (Or.inl rfl)) (pss_cons (ps_if (pt_cmpR op_gt (pe_ix ix_list (pv 0) (pe_int) (fun _ _ => rfl)) (pe_int) (nomark _)) (pss_cons (ps_set (i := 3) sc_draw.nd rfl (Or.inl rfl) (pe_op op_modN (pe_callTy call_int1 (by rfl) B.int (by decide +kernel) (pa_cons (pe_ix ix_list (pv 0) (pe_int) (fun _ _ => rfl)) pa_nil)) (pv 1)))
      (pss_cons (ps_asg (pe_op op_fdivA (pe_ix ix_list (pv 0) (pe_int) (fun _ _ => rfl)) (pv 1)) (pg_sub (pv 0) (pe_int) set_list))
      (pss_one (ps_ret (pv 3))))) pss_nil)
      (pss_cons (ps_if (pt_cmpR op_ge (pe_ix ix_list (pv 0) (pe_int) (fun _ _ => rfl)) (pe_callB call_len_seq (by rfl) B.len PySem.boot_len (pa_cons (pe_ix ix_list (pv 0) (pe_int) (fun _ _ => rfl)) pa_nil)) (nomark _)) (pss_one (ps_ret (pe_cal C_mix (hr.mono (by decide)) (pa_cons (pe_ix ix_list (pv 0) (pe_int) (fun _ _ => rfl)) (pa_cons (pe_ix ix_list (pv 0) (pe_int) (fun _ _ => rfl)) (pa_cons (pv 1) pa_nil)))))) pss_nil)
      (pss_cons (ps_set (i := 4) sc_draw.nd rfl (Or.inl rfl) (pe_ix ix_list (pe_ix ix_list (pv 0) (pe_int) (fun _ _ => rfl)) (pe_ix ix_list (pv 0) (pe_int) (fun _ _ => rfl)) (fun _ _ => rfl)))
      (pss_cons (ps_asg (pe_op op_add (pe_ix ix_list (pv 0) (pe_int) (fun _ _ => rfl)) (pe_int)) (pg_sub (pv 0) (pe_int) set_list))
      (pss_cons (ps_asg (pe_op op_modN (pe_callTy call_int1 (by rfl) B.int (by decide +kernel) (pa_cons (pe_op op_add (pe_op op_add (pe_op op_mul (pe_ix ix_list (pv 0) (pe_int) (fun _ _ => rfl)) (pe_int)) (pe_op op_mul (pv 4) (pe_int))) (pe_int)) pa_nil)) (pe_int)) (pg_sub (pv 0) (pe_int) set_list))
      (pss_cons (ps_if (pt_cmpR op_lt (pv 4) (pe_op op_pow (pe_int) (pe_int)) (nomark _)) (pss_one (ps_ret (pe_cal C_mix (hr.mono (by decide)) (pa_cons (pe_ix ix_list (pv 0) (pe_int) (fun _ _ => rfl)) (pa_cons (pe_ix ix_list (pv 0) (pe_int) (fun _ _ => rfl)) (pa_cons (pv 1) pa_nil)))))) pss_nil)
      (pss_one (ps_asg (pe_op op_sub (pv 4) (pe_op op_pow (pe_int) (pe_int))) (pg_sub (pv 0) (pe_int) set_list))))))))))
      (pss_one (ps_ret (pe_cal C_mix (hr.mono (by decide)) (pa_cons (pe_ix ix_list (pv 0) (pe_int) (fun _ _ => rfl)) (pa_cons (pe_ix ix_list (pv 0) (pe_int) (fun _ _ => rfl)) (pa_cons (pv 1) pa_nil))))))))), ?_⟩
    exact ⟨_, rfl, _, _, rfl, rfl, _, rfl, itT (by decide) q⟩
def spCl : Sp := fun vs H Q _ => ∃ (p : Pla), vs = [.ref p, .int 12] ∧ Pool H p ∧ ∀ (L : Addr) (cs : List Cls2) (H' : Hp), Pool H' p → Keeps H H' p → L ≠ p → LAt ClP H' L cs → ClsV cs → Q (.ref L) H'
abbrev CalCl (P : Program) (w : World) (K : PySem.W.Frag) (mg : Str → Option Value) (base : Heap) := Cal P w K mg base 3 "_law_classes" ["_law_pool_here", "_law_most"] spCl
theorem ok_cl (B : Blt mg) (C_draw : CalDraw P w K mg base) (C_draw1 : CalDraw1 P w K mg base) (D : Dfn K mg "_law_classes" "_law_classes" s_classes ["_law_pool_here", "_law_most"]) : CalCl P w K mg base := by
  refine D.cal sc_classes (fun vs H Q E h => ?_) (fun f cdv A outer st H vs Q E hr h => ?_)
  · obtain ⟨p, rfl, _⟩ := h
    rfl
  · obtain ⟨p, rfl, hP, q⟩ := h
    refine ⟨_, (pss_cons (ps_set (i := 2) sc_classes.nd rfl (Or.inl rfl) (pe_op op_add (pe_int) (pe_cal C_draw (hr.mono (by decide)) (pa_cons (pv 0) (pa_cons (pe_callB (call_min2 rfl) (by rfl) B.min (by decide +kernel) (pa_cons (pe_int) (pa_cons (pv 1) pa_nil))) pa_nil)))))
      (pss_cons (ps_set (i := 3) sc_classes.nd rfl (Or.inl rfl) (pe_cal C_draw (hr.mono (by decide)) (pa_cons (pv 0) (pa_cons (pe_int) pa_nil))))
      (Evl.pss_cut (ps_if (pt_cmpR op_eq (pe_cal C_draw (hr.mono (by decide)) (pa_cons (pv 0) (pa_cons (pe_int) pa_nil))) (pe_int) (nomark _)) (pss_one (ps_set (i := 3) sc_classes.nd rfl (Or.inl rfl) (pe_cal C_draw (hr.mono (by decide)) (pa_cons (pv 0) (pa_cons (pv 1) pa_nil))))) pss_nil)
      (Evl.pss_cut (ps_set (i := 3) sc_classes.nd rfl (Or.inl rfl) (pe_callB (call_min2 rfl) (by rfl) B.min (by decide +kernel) (pa_cons (pe_callTy call_int1 (by rfl) B.int (by decide +kernel) (pa_cons (pv 3) pa_nil)) (pa_cons (pe_op op_sub (pv 1) (pv 2)) pa_nil))))
      (pss_cons (ps_set (i := 4) sc_classes.nd rfl (Or.inl rfl) (pe_lst pa_nil))
      (pss_cons (ps_for PassesOwn.never rfl (pi_range1 (by rfl) B.range (pa_cons (pv 2) pa_nil)) (pg_name (i := 5) sc_classes.nd rfl (Or.inl rfl)) (pss_cons (ps_set (i := 6) sc_classes.nd rfl (Or.inl rfl) (pv 3))
      (Evl.pss_cut (ps_if (pt_cmpR op_lt (pe_op op_add (pv 5) (pe_int)) (pv 2) (nomark _)) (pss_one (ps_set (i := 6) sc_classes.nd rfl (Or.inl rfl) (pe_or (pe_cal C_draw (hr.mono (by decide)) (pa_cons (pv 0) (pa_cons (pe_op op_add (pv 3) pe_int) pa_nil))) (pe_cal C_draw1 (hr.mono (by decide)) (pa_cons (pv 0) (pa_cons (pe_op op_add (pv 3) pe_int) pa_nil)))))) pss_nil)
      (pss_cons (ps_set (i := 3) sc_classes.nd rfl (Or.inl rfl) (pe_op op_sub (pv 3) (pv 6)))
      (pss_cons (ps_set (i := 7) sc_classes.nd rfl (Or.inl rfl) (pe_op op_add (pe_int) (pe_cal C_draw (hr.mono (by decide)) (pa_cons (pv 0) (pa_cons (pe_int) pa_nil)))))
      (Evl.pss_cut (ps_if (pt_cmpR op_eq (pe_cal C_draw (hr.mono (by decide)) (pa_cons (pv 0) (pa_cons (pe_int) pa_nil))) (pe_int) (nomark _)) (pss_one (ps_set (i := 7) sc_classes.nd rfl (Or.inl rfl) (pe_op op_add (pe_int) (pe_cal C_draw (hr.mono (by decide)) (pa_cons (pv 0) (pa_cons (pe_int) pa_nil)))))) pss_nil)
      (pss_one (ps_expr (pe_bm PySem.F.plainAttrs_list PySem.F.slot_list_append PySem.F.type_list_append mt_append (pv 4) (pa_cons (pe_tup (pa_cons (pv 7) (pa_cons (pe_op op_add pe_int (pv 6)) pa_nil))) pa_nil))))))))))
      (pss_one (ps_ret (pv 4))))))))), ?_⟩
    refine ⟨_, rfl, _, rfl, _, _, rfl, p, _, rfl, hP, by decide, by decide, fun n0 H1 n00 n01 hP1 k1 => ⟨_, _, rfl, rfl, ?_⟩⟩
    have n01 : n0 < 4 := n01
    refine ⟨_, rfl, p, 4, rfl, hP1, by decide, by decide, fun e H2 e0 e1 hP2 k2 => ?_⟩
    refine ⟨fun σ' H' => ∃ n e : Int, σ' = [some (.ref (p : Addr)), some (.int 12), some (.int n), some (.int e), none, none, none, none] ∧ 1 ≤ n ∧ n ≤ 4 ∧ 0 ≤ e ∧ e < 12 ∧ Pool H' p ∧ Keeps H H' p, ?_, ?_⟩
    · refine ⟨_, rfl, p, 4, rfl, hP2, by decide, by decide, fun r H3 r0 r1 hP3 k3 => ⟨rfl, _, rfl, ifE (fun _ => ?_) (fun _ => ?_)⟩⟩
      · exact ⟨_, rfl, _, rfl, p, 12, rfl, hP3, by decide, by decide, fun z H4 z0 z1 hP4 k4 => ⟨_, z, rfl, by omega, by omega, z0, z1, hP4, k1.trans (k2.trans (k3.trans k4))⟩⟩
      · exact ⟨_, e, rfl, by omega, by omega, e0, by omega, hP3, k1.trans (k2.trans k3)⟩
    clear e0 e1 hP1 hP2 k1 k2 e
    rintro σ' H3 ⟨n, e, rfl, n00, n01, e0, e1, hP3, k3⟩
    refine ⟨fun σ' H' => ∃ e : Int, σ' = [some (.ref (p : Addr)), some (.int 12), some (.int n), some (.int e), none, none, none, none] ∧ 0 ≤ e ∧ e ≤ 12 - n ∧ H' = H3, ?_, ?_⟩
    · refine ⟨_, rfl, .inl ⟨_, rfl, _, rfl, _, rfl, _, _, rfl, rfl, _, _, rfl, _, rfl, ?_, ?_, rfl⟩⟩
      · split <;> omega
      · split <;> omega
    rintro σ' H' ⟨x, rfl, x0, x1, rfl⟩
    refine ⟨(by show 0 ≤ sizeLine; decide), fun L hL => ?_⟩
    have dp := hP3.apart hL
    refine ⟨_, rfl, _, rfl, by omega, by omega, for_range (lo := 0) (n := n.toNat) (fun i σ H4 => ∃ (x : Int) (o1 o2 o3 : Option V) (cs : List Cls2), σ = [some (.ref (p : Addr)), some (.int 12), some (.int n), some (.int x), some (.ref L), o1, o2, o3] ∧ Pool H4 p ∧ Keeps H' H4 p ∧ LAt ClP H4 L cs ∧ cs.length = i ∧ 0 ≤ x ∧ fds cs + x ≤ (i : Int) + (12 - n) ∧ ∀ c, c ∈ cs → 1 ≤ c.1 ∧ c.1 ≤ 1000 ∧ 1 ≤ c.2)
      ⟨x, none, none, none, [], rfl, hP3.upd hL, same_keeps (same_upd hL), ⟨[], upd_same, rfl, fun i y hy => by simp at hy⟩, rfl, x0, by have e : fds [] = 0 := rfl; omega, fun c hc => nomatch hc⟩ ?_ ?_⟩
    · rintro i σ H4 hi ⟨x, o1, o2, o3, cs, rfl, hP4, k4, hA, hl, x0, hs, hv⟩
      refine ⟨_, rfl, ?_⟩
      refine ⟨fun σ' H5 => ∃ y : Int, σ' = [some (.ref (p : Addr)), some (.int 12), some (.int n), some (.int x), some (.ref L), some (.int (0 + (i : Int))), some (.int y), o3] ∧ 0 ≤ y ∧ y ≤ x ∧ Pool H5 p ∧ Keeps H4 H5 p, ?_, ?_⟩
      · refine ⟨_, rfl, _, _, rfl, rfl, _, rfl, _, _, rfl, rfl, _, rfl, ifD (fun _ => ?_) (fun _ => ⟨x, rfl, x0, Int.le_refl _, hP4, Keeps.refl _ _⟩)⟩
        rcases (by omega : x = 0 ∨ 1 ≤ x) with h0 | h0
        · refine .inr ⟨_, rfl, _, rfl, _, _, rfl, rfl, p, ?_, 0, rfl, by omega, by omega, hP4, Keeps.refl _ _⟩
          rw [h0]
          rfl
        · have xn : x < 100 := by
            have := (le_fds fun c hc => (hv c hc).2.2).1
            omega
          exact .inl ⟨_, rfl, _, rfl, _, _, rfl, rfl, p, _, rfl, hP4, by omega, by omega, fun y H5 y0 y1 hP5 k5 => ⟨y, rfl, y0, by omega, hP5, k5⟩⟩
      rintro σ' H5 ⟨y, rfl, y0, y1, hP5, k5⟩
      have hA5 := lat_keep hA hP4 dp.1 k5
      refine ⟨_, rfl, _, rfl, _, _, rfl, rfl, _, rfl, p, 5, rfl, hP5, by decide, by decide, fun z H6 z0 z1 hP6 k6 => ⟨_, _, rfl, rfl, ?_⟩⟩
      have hA6 := lat_keep hA5 hP5 dp.1 k6
      refine ⟨fun σ' H7 => ∃ z : Int, σ' = [some (.ref (p : Addr)), some (.int 12), some (.int n), some (.int (x - y)), some (.ref L), some (.int (0 + (i : Int))), some (.int y), some (.int z)] ∧ 1 ≤ z ∧ z ≤ 1000 ∧ Pool H7 p ∧ Keeps H6 H7 p, ?_, ?_⟩
      · refine ⟨_, rfl, p, 4, rfl, hP6, by decide, by decide, fun r H7 r0 r1 hP7 k7 => ⟨rfl, _, rfl, ifE (fun _ => ?_) (fun _ => ?_)⟩⟩
        · exact ⟨_, rfl, p, 1000, rfl, hP7, by decide, by decide, fun u H8 u0 u1 hP8 k8 => ⟨_, _, rfl, rfl, _, rfl, by omega, by omega, hP8, k7.trans k8⟩⟩
        · exact ⟨_, rfl, by omega, by omega, hP7, k7⟩
      clear z0 z1
      rintro σ' H7 ⟨z, rfl, z0, z1, hP7, k7⟩
      have hA7 := lat_keep hA6 hP6 dp.1 k7
      obtain ⟨vs, hL7, hl7, hat7⟩ := id hA7
      refine ⟨_, rfl, .inl ⟨rfl, _, SqL.of hL7⟩, _, rfl, _, rfl, _, _, rfl, rfl, (by show 2 ≤ sizeLine; decide), fun t ht => ⟨L, _, _, rfl, rfl, same_upd ht _ _ hL7, small1000 (by omega), ?_⟩⟩
      have st := same_upd (o := .tup [.int z, .int (1 + y)]) ht
      refine ⟨x - y, _, _, _, cs ++ [(z, 1 + y)], rfl, (hP7.same st).store dp.1 dp.2, keeps_late (k4.trans (k5.trans (k6.trans (k7.trans (same_keeps st))))) hL, cls_snoc (st _ _ hL7) (hA7.same clP_mono st) ⟨t, rfl, upd_same⟩, by rw [List.length_append, hl]; rfl, by omega, ?_, fun c hc => ?_⟩
      · rw [fds_app, fds_one]
        show fds cs + (1 + y) + (x - y) ≤ _
        omega
      · rcases List.mem_append.mp hc with h | h
        · exact hv c h
        · rw [List.mem_singleton.mp h]
          exact ⟨z0, z1, by show 1 ≤ 1 + y; omega⟩
    · rintro σ H4 ⟨x, o1, o2, o3, cs, rfl, hP4, k4, hA, hl, x0, hs, hv⟩
      exact ⟨_, rfl, q L cs H4 hP4 (k3.trans k4) dp.1 hA ⟨by omega, by omega, hv, by omega⟩⟩
theorem ground_made {G : Addr} {H : Hp} {vs : List V} {cs : List Cls2} {Q : VK} {E : XK} (hlen : vs.length = cs.length) (hat : ∀ (i : Nat) (c : Cls2), cs[i]? = some c → ∃ v, vs[i]? = some v ∧ ClP H v c) (ok : ClsV cs) (q : ∀ (x : Addr) (H' : Hp), Same H H' → GrAt G H' x cs → Q (.ref x) H') :
    ∀ x dx, H x = none → H dx = none → dx ≠ x → spGround G (.ref x :: vs) (upd (upd H dx (.own x)) x (.ins G dx [])) (fun v H2 => v = .non ∧ Q (.ref x) H2) E := fun x dx nx nd ne => by
  have l4 := ok.l4
  refine ⟨[.ref x], vs, rfl, rfl, Nat.le_of_lt (small1000 (by omega)), fun p hp => ?_⟩
  have sp := same_upd (o := .tup vs) hp
  have sh : Same H (upd (upd (upd H dx (.own x)) x (.ins G dx [])) p (.tup vs)) := ((same_upd nd).trans (same_upd (by rw [upd_ne ne.symm]; exact nx))).trans sp
  refine ⟨x, dx, p, cs, rfl, sp _ _ upd_same, ⟨vs, upd_same, hlen, fun i c hc => ?_⟩, ok, fun M H' kx hx hM => ⟨rfl, q x H' (made nx nd ((same_keeps sp).trans kx)) ⟨dx, M, hx, hM⟩⟩⟩
  obtain ⟨v, hv, r⟩ := hat i c hc
  exact ⟨v, hv, clP_mono _ _ _ _ sh r⟩
def spGr (G : Addr) : Sp := fun vs H Q _ => ∃ (L : Addr) (cs : List Cls2), vs = [.ref L] ∧ LAt ClP H L cs ∧ ClsV cs ∧ ∀ (x : Addr) (H' : Hp), Same H H' → GrAt G H' x cs → Q (.ref x) H'
abbrev CalGr (P : Program) (w : World) (K : PySem.W.Frag) (mg : Str → Option Value) (base : Heap) (G : Addr) := Cal P w K mg base 5 "_law_ground" ["_law_classes_here"] (spGr G)
theorem ok_gr {G fI : Addr} (B : Blt mg) (TG : GrC K mg G) (MK : Mk K G fI) (FG : FnR P w K mg base CX0 3 fI (spGround G)) (D : Dfn K mg "_law_ground" "_law_ground" s_ground ["_law_classes_here"]) : CalGr P w K mg base G := by
  refine D.cal sc_ground (fun vs H Q E h => ?_) (fun f cdv A outer st H vs Q E hr h => ?_)
  · obtain ⟨L, cs, rfl, _⟩ := h
    rfl
  · obtain ⟨L, cs, rfl, ⟨vs, hL, hlen, hat⟩, ok, q⟩ := h
    have l1 := ok.l1
    have l4 := ok.l4
    refine ⟨_, (pss_cons (ps_if (pt_cmpR op_eq (pe_callB call_len_seq (by rfl) B.len PySem.boot_len (pa_cons (pv 0) pa_nil)) (pe_int) (nomark _)) (pss_one (ps_ret (StX.pe_makeR MK FG (hr.mono (by decide)) (by rfl) TG.g pass0 (pa_cons (pe_ix ix_list (pv 0) (pe_int) (fun _ _ => rfl)) pa_nil)))) pss_nil)
      (pss_cons (ps_if (pt_cmpR op_eq (pe_callB call_len_seq (by rfl) B.len PySem.boot_len (pa_cons (pv 0) pa_nil)) (pe_int) (nomark _)) (pss_one (ps_ret (StX.pe_makeR MK FG (hr.mono (by decide)) (by rfl) TG.g pass0 (pa_cons (pe_ix ix_list (pv 0) (pe_int) (fun _ _ => rfl)) (pa_cons (pe_ix ix_list (pv 0) (pe_int) (fun _ _ => rfl)) pa_nil))))) pss_nil)
      (pss_cons (ps_if (pt_cmpR op_eq (pe_callB call_len_seq (by rfl) B.len PySem.boot_len (pa_cons (pv 0) pa_nil)) (pe_int) (nomark _)) (pss_one (ps_ret (StX.pe_makeR MK FG (hr.mono (by decide)) (by rfl) TG.g pass0 (pa_cons (pe_ix ix_list (pv 0) (pe_int) (fun _ _ => rfl)) (pa_cons (pe_ix ix_list (pv 0) (pe_int) (fun _ _ => rfl)) (pa_cons (pe_ix ix_list (pv 0) (pe_int) (fun _ _ => rfl)) pa_nil)))))) pss_nil)
      (pss_one (ps_ret (StX.pe_makeR MK FG (hr.mono (by decide)) (by rfl) TG.g pass0 (pa_cons (pe_ix ix_list (pv 0) (pe_int) (fun _ _ => rfl)) (pa_cons (pe_ix ix_list (pv 0) (pe_int) (fun _ _ => rfl)) (pa_cons (pe_ix ix_list (pv 0) (pe_int) (fun _ _ => rfl)) (pa_cons (pe_ix ix_list (pv 0) (pe_int) (fun _ _ => rfl)) pa_nil)))))))))), ?_⟩
    have fin := fun {E : XK} => ground_made (G := G) (H := H) (E := E) (Q := Q) hlen hat ok q
    clear hat q ok
    rw [← hlen] at l1 l4
    clear hlen
    match vs, hL, @fin, l1, l4 with
    | [v0], hL, fin, _, _ =>
      refine ⟨_, rfl, _, _, rfl, .inl (SqL.of hL), rfl, _, rfl, ifE (fun _ => ?_) (fun h => absurd (show (1 : Int) = 1 from rfl) h)⟩
      exact ⟨_, rfl, _, _, _, _, rfl, rfl, SqL.of hL, rfl, fin⟩
    | [v0, v1], hL, fin, _, _ =>
      refine ⟨_, rfl, _, _, rfl, .inl (SqL.of hL), rfl, _, rfl, ifE (fun h => absurd h (show ¬ (2 : Int) = 1 by decide)) (fun _ => ?_)⟩
      refine ⟨_, rfl, _, _, rfl, .inl (SqL.of hL), rfl, _, rfl, ifE (fun _ => ?_) (fun h => absurd (show (2 : Int) = 2 from rfl) h)⟩
      exact ⟨_, rfl, _, _, _, _, rfl, rfl, SqL.of hL, rfl, _, rfl, _, _, _, _, rfl, rfl, SqL.of hL, rfl, fin⟩
    | [v0, v1, v2], hL, fin, _, _ =>
      refine ⟨_, rfl, _, _, rfl, .inl (SqL.of hL), rfl, _, rfl, ifE (fun h => absurd h (show ¬ (3 : Int) = 1 by decide)) (fun _ => ?_)⟩
      refine ⟨_, rfl, _, _, rfl, .inl (SqL.of hL), rfl, _, rfl, ifE (fun h => absurd h (show ¬ (3 : Int) = 2 by decide)) (fun _ => ?_)⟩
      refine ⟨_, rfl, _, _, rfl, .inl (SqL.of hL), rfl, _, rfl, ifE (fun _ => ?_) (fun h => absurd (show (3 : Int) = 3 from rfl) h)⟩
      exact ⟨_, rfl, _, _, _, _, rfl, rfl, SqL.of hL, rfl, _, rfl, _, _, _, _, rfl, rfl, SqL.of hL, rfl, _, rfl, _, _, _, _, rfl, rfl, SqL.of hL, rfl, fin⟩
    | [v0, v1, v2, v3], hL, fin, _, _ =>
      refine ⟨_, rfl, _, _, rfl, .inl (SqL.of hL), rfl, _, rfl, ifE (fun h => absurd h (show ¬ (4 : Int) = 1 by decide)) (fun _ => ?_)⟩
      refine ⟨_, rfl, _, _, rfl, .inl (SqL.of hL), rfl, _, rfl, ifE (fun h => absurd h (show ¬ (4 : Int) = 2 by decide)) (fun _ => ?_)⟩
      refine ⟨_, rfl, _, _, rfl, .inl (SqL.of hL), rfl, _, rfl, ifE (fun h => absurd h (show ¬ (4 : Int) = 3 by decide)) (fun _ => ?_)⟩
      exact ⟨_, rfl, _, _, _, _, rfl, rfl, SqL.of hL, rfl, _, rfl, _, _, _, _, rfl, rfl, SqL.of hL, rfl, _, rfl, _, _, _, _, rfl, rfl, SqL.of hL, rfl, _, rfl, _, _, _, _, rfl, rfl, SqL.of hL, rfl, fin⟩
    | [], _, _, h, _ => exact absurd h (by decide)
    | _ :: _ :: _ :: _ :: _ :: _, _, _, _, h => exact absurd h (by simp)
def spCt : Sp := fun vs H Q _ => ∃ (M : Addr) (cs : List Cls2) (T : Nat), vs = [.ref M, .int (T : Int)] ∧ LAt ClP H M cs ∧ (∀ c, c ∈ cs → 1 ≤ c.2 ∧ c.2 ≤ 12) ∧ T ≤ 40 ∧ ∀ (W : Addr) (H' : Hp), Same H H' → H W = none → H' W = some (.lst ((wl T (cnt cs)).map V.int)) → Q (.ref W) H'
abbrev CalCt (P : Program) (w : World) (K : PySem.W.Frag) (mg : Str → Option Value) (base : Heap) := Cal P w K mg base 1 "_law_counts" ["_law_classes_here", "_law_total_here"] spCt
theorem ok_ct (B : Blt mg) (D : Dfn K mg "_law_counts" "_law_counts" s_counts ["_law_classes_here", "_law_total_here"]) : CalCt P w K mg base := by
  refine D.cal sc_counts (fun vs H Q E h => ?_) (fun f cdv A outer st H2 vs Q E hr h => ?_)
  · obtain ⟨M, cs, T, rfl, _⟩ := h
    rfl
  · obtain ⟨M, cs, T, rfl, hM, hc, hT, q⟩ := h
    refine ⟨_, (pss_cons (ps_setLc (i := 2) (own := [("_law_force", 3)]) (g := gName 3) rfl sc_counts.nd rfl rfl (sw_true rfl rfl rfl (by decide +kernel)) (pi_range1 (by rfl) B.range (pa_cons (pe_op op_add (pv 1) (pe_int)) pa_nil)) (blkOk_by (N := ["_law_classes_here", "_law_total_here", "_law_ways", "_law_force", "_law_row", "_law_part"]) (sc := defScope s_counts) (by decide +kernel)) (fun _ _ _ _ _ => pg_name (i := 3) sc_counts.nd rfl (Or.inl rfl)) (fun _ _ _ _ _ => pts_nil) (fun _ _ _ _ _ => (pe_callTy call_int1 (by rfl) B.int (by decide +kernel) (pa_cons (pe_cmpR op_eq (pv 3) (pe_int) (nomark _)) pa_nil))))
      (pss_cons (ps_for PassesOwn.never rfl (pi_list (pv 0)) (pg_name (i := 4) sc_counts.nd rfl (Or.inl rfl)) (pss_one (ps_for PassesOwn.never rfl (pi_range2 (by rfl) B.range (pa_cons (pe_int) (pa_cons (pe_op op_add (pe_ix ix_tup (pv 4) (pe_int) (fun _ _ => rfl)) (pe_int)) pa_nil))) (pg_name (i := 5) sc_counts.nd rfl (Or.inl rfl)) (pss_one (ps_for PassesOwn.never rfl (pi_range2 (by rfl) B.range (pa_cons (pv 5) (pa_cons (pe_op op_add (pv 1) (pe_int)) pa_nil))) (pg_name (i := 3) sc_counts.nd rfl (Or.inl rfl)) (pss_one (ps_asg (pe_op op_add (pe_ix ix_list (pv 2) (pv 3) (fun _ _ => rfl)) (pe_ix ix_list (pv 2) (pe_op op_sub (pv 3) (pv 5)) (fun _ _ => rfl))) (pg_sub (pv 2) (pv 3) set_list))))))))
      (pss_one (ps_ret (pv 2))))), ?_⟩
    refine ⟨_, rfl, _, _, rfl, rfl, _, rfl, by omega, by omega, fun W hW0 => ?_⟩
    rw [show ((T : Int) + 1).toNat = T + 1 by omega]
    refine lc_range (lo := 0) (n := T + 1) (fun i H' => H' = upd H2 W (.lst (((List.range i).map dlt).map V.int))) rfl ?_ ?_
    · rintro i H' hi rfl
      refine ⟨rfl, _, rfl, rfl, .inr ⟨_, rfl, _, upd_same, ?_, ?_⟩⟩
      · rw [List.length_map, List.length_map, List.length_range]
        exact small1000 (by omega)
      · rw [upd_upd, List.range_succ, List.map_append, List.map_append]
        congr 3
        show [V.int _] = [V.int (dlt i)]
        congr 2
        unfold dlt
        by_cases h : i = 0
        · subst h
          rfl
        · rw [if_neg h, decide_eq_false (fun e => by injection e with e; omega)]
          rfl
    rintro H1 rfl
    obtain ⟨vs, hM2, hlen, hat⟩ := id hM
    refine ⟨_, rfl, M, rfl, ⟨_, SqL.of (same_upd hW0 _ _ hM2)⟩, for_list (K := K) (a := M) (xs := vs) (fun i σ H' => ∃ o1 o3 o4 : Option V, σ = [some (.ref M), some (.int (T : Int)), some (.ref W), o4, o1, o3] ∧ Same H2 H' ∧ H' W = some (.lst ((wl T (cnt (cs.take i))).map V.int))) ⟨none, none, none, rfl, same_upd hW0, upd_same⟩ (fun i σ H' _ h => by obtain ⟨_, _, _, _, s, _⟩ := h; exact SqL.of (s _ _ hM2)) ?_ ?_⟩
    · rintro i y σ H3 hy ⟨o1, o3, o4, rfl, s3, hW⟩
      have hi : i < vs.length := (List.getElem?_eq_some_iff.mp hy).1
      have hci : cs[i]? = some cs[i] := List.getElem?_eq_getElem (by omega)
      obtain ⟨v, hv, t, rfl, ht⟩ := hat i _ hci
      rw [hy] at hv
      cases hv
      obtain ⟨m1, m12⟩ := hc _ (List.mem_of_getElem? hci)
      have hsn := cnt_snoc hci
      have ht3 := s3 _ _ ht
      generalize cs[i] = c at *
      obtain ⟨c1, c2⟩ := c
      obtain ⟨m, rfl⟩ : ∃ m : Nat, c2 = (m : Int) := ⟨c2.toNat, by have : 1 ≤ c2 := m1; omega⟩
      have m12 : (m : Int) ≤ 12 := m12
      rw [Int.toNat_natCast] at hsn
      rw [hsn]
      generalize cnt (cs.take i) = w0 at *
      refine ⟨_, rfl, _, _, _, _, rfl, rfl, SqT.of ht3, rfl, _, _, rfl, rfl, _, _, rfl, ⟨by decide, by decide, by omega, by omega⟩, ?_⟩
      rw [show ((m : Int) + 1 - 1).toNat = m by omega]
      refine for_range (lo := 1) (n := m) (fun j σ H' => ∃ o3 o4 : Option V, σ = [some (.ref M), some (.int (T : Int)), some (.ref W), o4, some (.ref t), o3] ∧ Same H2 H' ∧ H' W = some (.lst ((wl T ((List.range j).foldl (fun w i => stp (i + 1) w) w0)).map V.int))) ⟨o3, o4, rfl, s3, hW⟩ ?_ ?_
      · rintro j σ H4 hj ⟨o3, o4, rfl, s4, hW4⟩
        generalize hw1 : (List.range j).foldl (fun w i => stp (i + 1) w) w0 = w1 at hW4
        refine ⟨_, rfl, _, rfl, _, _, rfl, rfl, _, _, rfl, ⟨by omega, by omega, by omega, by omega⟩, ?_⟩
        rw [show ((T : Int) + 1 - (1 + (j : Int))).toNat = T + 1 - (j + 1) by omega]
        refine for_range (lo := 1 + (j : Int)) (n := T + 1 - (j + 1)) (fun q σ H' => ∃ o4 : Option V, σ = [some (.ref M), some (.int (T : Int)), some (.ref W), o4, some (.ref t), some (.int (1 + (j : Int)))] ∧ Same H2 H' ∧ H' W = some (.lst ((wl T (mix (j + 1) q w1)).map V.int))) ⟨o4, rfl, s4, by rw [mix_0]; exact hW4⟩ ?_ ?_
        · rintro q σ H5 hq ⟨o4, rfl, s5, hW5⟩
          have a1 : atI ((wl T (mix (j + 1) q w1)).map V.int) (1 + (j : Int) + (q : Int)) = some (V.int (mix (j + 1) q w1 (j + 1 + q))) := by
            rw [show 1 + (j : Int) + (q : Int) = ((j + 1 + q : Nat) : Int) by omega]
            refine atI_nat ?_
            rw [List.getElem?_map, wl_at (by omega)]
            rfl
          have a2 : atI ((wl T (mix (j + 1) q w1)).map V.int) (1 + (j : Int) + (q : Int) - (1 + (j : Int))) = some (V.int (mix (j + 1) q w1 q)) := by
            rw [show 1 + (j : Int) + (q : Int) - (1 + (j : Int)) = (q : Int) by omega]
            refine atI_nat ?_
            rw [List.getElem?_map, wl_at (by omega)]
            rfl
          have a3 : ixN ((wl T (mix (j + 1) q w1)).map V.int).length (1 + (j : Int) + (q : Int)) = some (j + 1 + q) := by
            rw [List.length_map, wl_len]
            unfold ixN
            rw [if_pos (by omega), if_pos (by omega)]
            congr 1
            omega
          refine ⟨_, rfl, _, rfl, _, _, _, _, rfl, rfl, SqL.of hW5, a1, _, rfl, _, rfl, _, rfl, _, _, rfl, rfl, _, _, _, _, rfl, rfl, SqL.of hW5, a2, _, _, rfl, rfl, _, rfl, _, rfl, W, _, _, _, rfl, rfl, hW5, a3, ?_⟩
          refine ⟨_, rfl, same_late s5 hW0, ?_⟩
          rw [upd_same]
          dsimp only
          rw [mix_new (by omega), ← List.map_set, mix_set (by omega)]
        · rintro σ H5 ⟨o4, rfl, s5, hW5⟩
          rw [mix_end] at hW5
          refine ⟨_, _, rfl, s5, ?_⟩
          rw [upto_succ, hw1]
          exact hW5
      · rintro σ H4 ⟨o3, o4, rfl, s4, hW4⟩
        exact ⟨_, _, _, rfl, s4, hW4⟩
    · rintro σ H3 ⟨o1, o3, o4, rfl, s3, hW⟩
      rw [hlen, List.take_length] at hW
      exact ⟨_, rfl, q W H3 s3 hW0 hW⟩
end
end L

set_option Elab.async false
set_option linter.all false
set_option maxRecDepth 100000
set_option maxHeartbeats 4000000
set_option pp.maxSteps 160
set_option pp.deepTerms false
namespace L
open PySem PySem.Spec PyProof.Rows L2 Fl
local macro_rules | `(tactic| walk_at "side") => `(tactic| first | (exact .inl ⟨by omega, by omega⟩) | (exact .inr ⟨by omega, by omega⟩) | (exact .inr ⟨by decide, by decide⟩) | (show (_ : Int) ≠ _; omega) | (exact ⟨by omega, by decide⟩) | (exact ⟨by decide, by decide, by decide⟩))
local macro_rules | `(tactic| walk_at "go") => `(tactic| repeat (first | refine ⟨_, rfl, ?_⟩ | refine ⟨_, _, rfl, rfl, ?_⟩ | refine .inl ⟨_, rfl, ?_⟩ | refine ⟨rfl, ?_⟩ | refine ⟨(by walk_at "side"), ?_⟩))
local macro_rules | `(tactic| walk_at "see") => `(tactic| (set_option pp.maxSteps 110 in set_option pp.deepTerms false in trace_state))
local macro_rules | `(tactic| walk_at "if") => `(tactic| first | refine ifE ?_ ?_ | refine ifNE ?_ ?_ | refine ifD ?_ ?_ | refine ifN ?_ ?_ | refine ifB ?_ ?_)
section
variable {P : Program} {w : World} {K : PySem.W.Frag} {mg : Str → Option Value} {base : Heap}

/-- item by item -/
def PW (R : V → Cls2 → Prop) (vs : List V) (cs : List Cls2) : Prop := vs.length = cs.length ∧ ∀ (i : Nat) (c : Cls2), cs[i]? = some c → ∃ v, vs[i]? = some v ∧ R v c
theorem PW.mono {H H' : Hp} {vs : List V} {cs : List Cls2} (h : PW (ClP H) vs cs) (s : Same H H') : PW (ClP H') vs cs := ⟨h.1, fun i c hc => by
  obtain ⟨v, hv, r⟩ := h.2 i c hc
  exact ⟨v, hv, clP_mono _ _ _ _ s r⟩⟩
theorem pw_app {R : V → Cls2 → Prop} {a b : List V} {x y : List Cls2} (h : PW R a x) (k : PW R b y) : PW R (a ++ b) (x ++ y) := by
  refine ⟨by rw [List.length_append, List.length_append, h.1, k.1], fun i c hc => ?_⟩
  by_cases hi : i < x.length
  · rw [List.getElem?_append_left hi] at hc
    obtain ⟨v, hv, r⟩ := h.2 i c hc
    exact ⟨v, by rw [List.getElem?_append_left (by rw [h.1]; exact hi)]; exact hv, r⟩
  · rw [List.getElem?_append_right (by omega)] at hc
    obtain ⟨v, hv, r⟩ := k.2 _ c hc
    exact ⟨v, by rw [List.getElem?_append_right (by rw [h.1]; omega), h.1]; exact hv, r⟩
theorem pw_take {R : V → Cls2 → Prop} {a : List V} {x : List Cls2} {n : Nat} (h : PW R a x) : PW R (a.take n) (x.take n) := by
  refine ⟨by rw [List.length_take, List.length_take, h.1], fun i c hc => ?_⟩
  rw [List.getElem?_take] at hc
  split at hc
  · rename_i hi
    obtain ⟨v, hv, r⟩ := h.2 i c hc
    exact ⟨v, by rw [List.getElem?_take, if_pos hi]; exact hv, r⟩
  · cases hc
theorem pw_drop {R : V → Cls2 → Prop} {a : List V} {x : List Cls2} {n : Nat} (h : PW R a x) : PW R (a.drop n) (x.drop n) := by
  refine ⟨by rw [List.length_drop, List.length_drop, h.1], fun i c hc => ?_⟩
  rw [List.getElem?_drop] at hc
  obtain ⟨v, hv, r⟩ := h.2 _ c hc
  exact ⟨v, by rw [List.getElem?_drop]; exact hv, r⟩
theorem pw_one {R : V → Cls2 → Prop} {v : V} {c : Cls2} (h : R v c) : PW R [v] [c] := ⟨rfl, fun i y hy => by
  cases i with
  | zero =>
    cases hy
    exact ⟨v, rfl, h⟩
  | succ i => simp at hy⟩
theorem pw_rev {R : V → Cls2 → Prop} : ∀ {a : List V} {x : List Cls2}, PW R a x → PW R a.reverse x.reverse
  | [], [], h => h
  | [], _ :: _, h => nomatch h.1
  | _ :: _, [], h => nomatch h.1
  | v :: a, c :: x, h => by
    obtain ⟨u, hu, r⟩ := h.2 0 c rfl
    cases hu
    have h2 : PW R a x := ⟨by have := h.1; simp only [List.length_cons] at this; omega, fun i y hy => h.2 (i + 1) y hy⟩
    rw [List.reverse_cons, List.reverse_cons]
    exact pw_app (pw_rev h2) (pw_one r)
theorem cut_l {vs : List V} {i : Nat} (h : i ≤ vs.length) : cutV vs none (some (i : Int)) = vs.take i := by
  unfold cutV
  rw [HT.sIx_nat, HT.sIx_none, Nat.min_eq_left h, Nat.sub_zero, List.drop_zero]
theorem cut_r {vs : List V} {i : Nat} (h : i + 1 ≤ vs.length) : cutV vs (some ((i : Int) + 1)) none = vs.drop (i + 1) := by
  unfold cutV
  rw [show (i : Int) + 1 = ((i + 1 : Nat) : Int) from rfl, HT.sIx_nat, HT.sIx_none, Nat.min_eq_left h, List.take_of_length_le (by rw [List.length_drop]; exact Nat.le_refl _)]
theorem split_at : ∀ {cs : List Cls2} {i : Nat} {c : Cls2}, cs[i]? = some c → cs = cs.take i ++ [c] ++ cs.drop (i + 1)
  | [], i, c, h => by simp at h
  | a :: r, 0, c, h => by
    cases h
    rfl
  | a :: r, i + 1, c, h => by
    have e := split_at (cs := r) (i := i) h
    show a :: r = a :: (r.take i ++ [c] ++ r.drop (i + 1))
    rw [← e]
theorem near_ok {cs : List Cls2} {i : Nat} {c : Cls2} {d : Int} (ok : ClsV cs) (hc : cs[i]? = some c) (h1 : 1 ≤ c.2 + d) (h2 : fds cs + d ≤ 12) : ClsV (cs.take i ++ [(c.1, c.2 + d)] ++ cs.drop (i + 1)) := by
  have hi : i < cs.length := (List.getElem?_eq_some_iff.mp hc).1
  have hl : (cs.take i ++ [(c.1, c.2 + d)] ++ cs.drop (i + 1)).length = cs.length := by
    rw [List.length_append, List.length_append, List.length_take, List.length_drop]
    show min i cs.length + 1 + (cs.length - (i + 1)) = _
    omega
  have e : fds cs = fds (cs.take i) + c.2 + fds (cs.drop (i + 1)) := by
    have := congrArg fds (split_at hc)
    rw [fds_app, fds_app, fds_one] at this
    exact this
  refine ⟨by rw [hl]; exact ok.l1, by rw [hl]; exact ok.l4, fun x hx => ?_, ?_⟩
  · rcases List.mem_append.mp hx with h | h
    · rcases List.mem_append.mp h with h | h
      · exact ok.at_ x (List.mem_of_mem_take h)
      · rw [List.mem_singleton.mp h]
        obtain ⟨a1, a2, _⟩ := ok.at_ c (List.mem_of_getElem? hc)
        exact ⟨a1, a2, h1⟩
    · exact ok.at_ x (List.mem_of_mem_drop h)
  · rw [fds_app, fds_app, fds_one]
    show fds (cs.take i) + (c.2 + d) + fds (cs.drop (i + 1)) ≤ 12
    omega
theorem fds_rev : ∀ {cs : List Cls2}, fds cs.reverse = fds cs
  | [] => rfl
  | c :: r => by
    rw [List.reverse_cons, fds_app, fds_one, fds_rev]
    show fds r + c.2 = c.2 + fds r
    omega
theorem fds_map {cs : List Cls2} {g : Int → Int} : fds (cs.map (fun c => (g c.1, c.2))) = fds cs := by
  unfold fds
  rw [List.map_map]
  rfl
theorem turned_ok {cs : List Cls2} (ok : ClsV cs) : ClsV (cs.reverse.map (fun c => (c.1.fmod 1000 + 1, c.2))) := by
  refine ⟨by rw [List.length_map, List.length_reverse]; exact ok.l1, by rw [List.length_map, List.length_reverse]; exact ok.l4, fun x hx => ?_, ?_⟩
  · obtain ⟨y, hy, e⟩ := List.mem_map.mp hx
    obtain ⟨a1, a2, a3⟩ := ok.at_ y (List.mem_reverse.mp hy)
    have := fm y.1 (show (0 : Int) < 1000 by decide)
    rw [← e]
    exact ⟨by show 1 ≤ y.1.fmod 1000 + 1; omega, by show y.1.fmod 1000 + 1 ≤ 1000; omega, a3⟩
  · rw [fds_map (g := fun x => x.fmod 1000 + 1), fds_rev]
    exact ok.sm
def spTot : Sp := fun vs H Q _ => ∃ (p : Pla), vs = [.ref p] ∧ Pool H p ∧ ∀ (T : Nat) (H' : Hp), T ≤ 40 → Pool H' p → Keeps H H' p → Q (.int (T : Int)) H'
abbrev CalTot (P : Program) (w : World) (K : PySem.W.Frag) (mg : Str → Option Value) (base : Heap) := Cal P w K mg base 3 "_law_total" ["_law_pool_here"] spTot
theorem ok_tot (C_draw : CalDraw P w K mg base) (D : Dfn K mg "_law_total" "_law_total" s_total ["_law_pool_here"]) : CalTot P w K mg base := by
  refine D.cal sc_total (fun vs H Q E h => ?_) (fun f cdv A outer st H vs Q E hr h => ?_)
  · obtain ⟨p, rfl, _⟩ := h
    rfl
  · obtain ⟨p, rfl, hP, q⟩ := h
    have qi : ∀ (r : Int) (H' : Hp), 0 ≤ r → r ≤ 40 → Pool H' p → Keeps H H' p → Q (.int r) H' := fun r H' h0 h1 hP' k => by
      have := q r.toNat H' (by omega) hP' k
      rw [Int.toNat_of_nonneg h0] at this
      exact this
    refine ⟨_, (pss_cons (ps_set (i := 1) sc_total.nd rfl (Or.inl rfl) (pe_cal C_draw (hr.mono (by decide)) (pa_cons (pv 0) (pa_cons (pe_int) pa_nil))))
      (pss_cons (ps_if (pt_cmpR op_eq (pv 1) (pe_int) (nomark _)) (pss_one (ps_ret (pe_op op_add (pe_int) (pe_cal C_draw (hr.mono (by decide)) (pa_cons (pv 0) (pa_cons (pe_int) pa_nil)))))) pss_nil)
      (pss_cons (ps_if (pt_cmpR op_eq (pv 1) (pe_int) (nomark _)) (pss_one (ps_ret (pe_cal C_draw (hr.mono (by decide)) (pa_cons (pv 0) (pa_cons (pe_int) pa_nil))))) pss_nil)
      (pss_cons (ps_if (pt_cmpR op_eq (pv 1) (pe_int) (nomark _)) (pss_one (ps_ret (pe_op op_sub (pe_int) (pe_cal C_draw (hr.mono (by decide)) (pa_cons (pv 0) (pa_cons (pe_int) pa_nil)))))) pss_nil)
      (pss_one (ps_ret (pe_cal C_draw (hr.mono (by decide)) (pa_cons (pv 0) (pa_cons (pe_int) pa_nil))))))))), ?_⟩
    refine ⟨_, rfl, p, 4, rfl, hP, by decide, by decide, fun r H1 r0 r1 hP1 k1 => ?_⟩
    refine ⟨_, rfl, rfl, _, rfl, ifE (fun _ => ?_) (fun _ => ?_)⟩
    · exact ⟨_, rfl, p, 10, rfl, hP1, by decide, by decide, fun z H2 z0 z1 hP2 k2 => ⟨_, _, rfl, rfl, qi _ _ (by omega) (by omega) hP2 (k1.trans k2)⟩⟩
    refine ⟨_, rfl, rfl, _, rfl, ifE (fun _ => ?_) (fun _ => ?_)⟩
    · exact ⟨_, rfl, p, 41, rfl, hP1, by decide, by decide, fun z H2 z0 z1 hP2 k2 => qi _ _ (by omega) (by omega) hP2 (k1.trans k2)⟩
    refine ⟨_, rfl, rfl, _, rfl, ifE (fun _ => ?_) (fun _ => ?_)⟩
    · exact ⟨_, rfl, p, 3, rfl, hP1, by decide, by decide, fun z H2 z0 z1 hP2 k2 => ⟨_, _, rfl, rfl, qi _ _ (by omega) (by omega) hP2 (k1.trans k2)⟩⟩
    · exact ⟨_, rfl, p, 5, rfl, hP1, by decide, by decide, fun z H2 z0 z1 hP2 k2 => qi _ _ (by omega) (by omega) hP2 (k1.trans k2)⟩
def spNear : Sp := fun vs H Q _ => ∃ (L : Addr) (cs : List Cls2) (i : Nat), vs = [.ref L, .int (i : Int)] ∧ LAt ClP H L cs ∧ ClsV cs ∧ i < cs.length ∧ ∀ (L' : Addr) (cs' : List Cls2) (H' : Hp), Same H H' → LAt ClP H' L' cs' → ClsV cs' → Q (.ref L') H'
abbrev CalNear (P : Program) (w : World) (K : PySem.W.Frag) (mg : Str → Option Value) (base : Heap) := Cal P w K mg base 1 "_law_near" ["_law_classes_here", "_law_at"] spNear
theorem ok_near (B : Blt mg) (D : Dfn K mg "_law_near" "_law_near" s_near ["_law_classes_here", "_law_at"]) : CalNear P w K mg base := by
  refine D.cal sc_near (fun vs H Q E h => ?_) (fun f cdv A outer st H vs Q E hr h => ?_)
  · obtain ⟨L, cs, i, rfl, _⟩ := h
    rfl
  · obtain ⟨L, cs, i, rfl, ⟨vs, hL, pw⟩, ok, hi, q⟩ := h
    have pw : PW (ClP H) vs cs := pw
    have l4 := ok.l4
    have hlen := pw.1
    refine ⟨_, (pss_cons (ps_set (i := 2) sc_near.nd rfl (Or.inl rfl) (pe_ix ix_tup (pe_ix ix_list (pv 0) (pv 1) (fun _ _ => rfl)) (pe_int) (fun _ _ => rfl)))
      (pss_cons (ps_set (i := 3) sc_near.nd rfl (Or.inl rfl) (pe_ix ix_tup (pe_ix ix_list (pv 0) (pv 1) (fun _ _ => rfl)) (pe_int) (fun _ _ => rfl)))
      (pss_cons (ps_if (pt_cmpR op_lt (pe_callB (cr_sum rfl) (by rfl) B.sum (by decide +kernel) (pa_cons (pe_lc (own := [("_law_row", 4)]) (g := gName 4) rfl sc_near.nd (pi_list (pv 0)) (blkOk_by (N := ["_law_classes_here", "_law_at", "_law_worth", "_law_many", "_law_row"]) (sc := defScope s_near) (by decide +kernel)) (fun _ _ _ _ _ => pg_name (i := 4) sc_near.nd rfl (Or.inl rfl)) (fun _ _ _ _ _ => pts_nil) (fun _ _ _ _ _ => (pe_ix (ix_tup_K (K := K) rfl) (pv 4) (pe_int) (fun _ _ => rfl)))) pa_nil)) (pe_int) (nomark _)) (pss_one (ps_ret (pe_op op_cat (pe_op op_cat (pe_slice sl_list (pv 0) po_none (po_some (pv 1))) (pe_lst (pa_cons (pe_tup (pa_cons (pv 2) (pa_cons (pe_op op_add (pv 3) (pe_int)) pa_nil))) pa_nil))) (pe_slice sl_list (pv 0) (po_some (pe_op op_add (pv 1) (pe_int))) po_none)))) pss_nil)
      (pss_cons (ps_if (pt_cmpR op_gt (pv 3) (pe_int) (nomark _)) (pss_one (ps_ret (pe_op op_cat (pe_op op_cat (pe_slice sl_list (pv 0) po_none (po_some (pv 1))) (pe_lst (pa_cons (pe_tup (pa_cons (pv 2) (pa_cons (pe_op op_sub (pv 3) (pe_int)) pa_nil))) pa_nil))) (pe_slice sl_list (pv 0) (po_some (pe_op op_add (pv 1) (pe_int))) po_none)))) pss_nil)
      (pss_one (ps_ret (pv 0))))))), ?_⟩
    have hc : cs[i]? = some cs[i] := List.getElem?_eq_getElem hi
    obtain ⟨v, hv, t0, rfl, ht0⟩ := pw.2 i _ hc
    have hb := ok.at_ _ (List.mem_of_getElem? hc)
    generalize cs[i] = c at *
    have a1 : atI vs (i : Int) = some (.ref t0) := atI_nat hv
    refine ⟨_, rfl, _, rfl, _, _, _, _, rfl, rfl, SqL.of hL, a1, _, _, _, _, rfl, rfl, SqT.of ht0, rfl, ?_⟩
    refine ⟨_, rfl, _, rfl, _, _, _, _, rfl, rfl, SqL.of hL, a1, _, _, _, _, rfl, rfl, SqT.of ht0, rfl, ?_⟩
    refine ⟨_, rfl, L, rfl, ⟨_, SqL.of hL⟩, fun D hD => lc_list (K := K) (a := L) (xs := vs) (fun j H' => Same H H' ∧ H' D = some (.lst (((cs.take j).map (fun c => c.2)).map V.int))) ⟨same_upd hD, upd_same⟩ (fun i H' _ h => SqL.of (h.1 _ _ hL)) ?_ ?_⟩
    · rintro j x H' hx ⟨s1, hD1⟩
      have hj : j < vs.length := (List.getElem?_eq_some_iff.mp hx).1
      have hcj : cs[j]? = some cs[j] := List.getElem?_eq_getElem (by omega)
      obtain ⟨v, hv, t, rfl, ht⟩ := pw.2 j _ hcj
      rw [hx] at hv
      cases hv
      refine ⟨rfl, _, rfl, _, _, _, _, rfl, rfl, SqT.of (s1 _ _ ht), rfl, _, hD1, ?_, same_late s1 hD, ?_⟩
      · rw [List.length_map, List.length_map, List.length_take]
        exact small1000 (by omega)
      · rw [upd_same, List.take_add_one, hcj, List.map_append, List.map_append]
        rfl
    rintro H2 ⟨s2, hD2⟩
    rw [List.take_of_length_le (by omega)] at hD2
    have hL2 := s2 _ _ hL
    have fe : (cs.map (fun c => c.2)).sum = fds cs := rfl
    refine ⟨_, _, rfl, SqL.of hD2, _, _, rfl, rfl, _, rfl, ifD (fun h12 => ?_) (fun h12 => ?_)⟩
    · rw [fe] at h12
      refine ⟨_, rfl, _, rfl, _, rfl, _, _, rfl, SqL.of hL2, fun p1 hp1 => ?_⟩
      have t1 := same_upd (o := .lst (cutV vs none (some (i : Int)))) hp1
      refine ⟨_, rfl, _, rfl, _, _, rfl, rfl, (by show 2 ≤ sizeLine; decide), fun t ht => ⟨(by show 1 ≤ sizeLine; decide), fun p2 hp2 => ?_⟩⟩
      have t2 := same_upd (o := .tup [.int c.1, .int (c.2 + 1)]) ht
      have t3 := same_upd (o := .lst [.ref t]) hp2
      refine ⟨p1, p2, _, _, rfl, rfl, t3 _ _ (t2 _ _ upd_same), upd_same, ?_, fun p3 hp3 => ?_⟩
      · exact Nat.le_of_lt (small1000 (by have := cutV_length vs none (some (i : Int)); show (cutV vs none (some (i : Int))).length + 1 ≤ 1000; omega))
      have t4 := same_upd (o := .lst (cutV vs none (some (i : Int)) ++ [.ref t])) hp3
      have ss := ((s2.trans t1).trans t2).trans (t3.trans t4)
      refine ⟨_, rfl, _, rfl, _, _, rfl, rfl, _, rfl, ?_⟩
      dsimp only [tNoPart]
      refine ⟨_, _, rfl, SqL.of (ss _ _ hL), fun p4 hp4 => ?_⟩
      have t5 := same_upd (o := .lst (cutV vs (some ((i : Int) + 1)) none)) hp4
      refine ⟨p3, p4, _, _, rfl, rfl, t5 _ _ upd_same, upd_same, ?_, fun p5 hp5 => ?_⟩
      · exact Nat.le_of_lt (small1000 (by have h1 := cutV_length vs none (some (i : Int)); have h2 := cutV_length vs (some ((i : Int) + 1)) none; rw [List.length_append]; show (cutV vs none (some (i : Int))).length + 1 + _ ≤ 1000; omega))
      have t6 := same_upd (o := .lst (cutV vs none (some (i : Int)) ++ [.ref t] ++ cutV vs (some ((i : Int) + 1)) none)) hp5
      have up := (ss.trans t5).trans t6
      have upt := ((t3.trans t4).trans t5).trans t6
      have fin : ∀ Hf : Hp, Same H Hf → Hf t = some (.tup [.int c.1, .int (c.2 + 1)]) → Hf p5 = some (.lst (cutV vs none (some (i : Int)) ++ [.ref t] ++ cutV vs (some ((i : Int) + 1)) none)) → LAt ClP Hf p5 (cs.take i ++ [(c.1, c.2 + 1)] ++ cs.drop (i + 1)) := fun Hf u ht h5 => by
        rw [cut_l (by omega), cut_r (by omega)] at h5
        exact ⟨_, h5, pw_app (pw_app (pw_take (pw.mono u)) (pw_one ⟨t, rfl, ht⟩)) (pw_drop (pw.mono u))⟩
      exact q p5 _ _ up (fin _ up (upt _ _ upd_same) upd_same) (near_ok (d := 1) ok hc (by omega) (by omega))
    refine ⟨_, rfl, _, _, rfl, rfl, _, rfl, ifD (fun h1 => ?_) (fun h1 => ?_)⟩
    · have sm := ok.sm
      refine ⟨_, rfl, _, rfl, _, rfl, _, _, rfl, SqL.of hL2, fun p1 hp1 => ?_⟩
      have t1 := same_upd (o := .lst (cutV vs none (some (i : Int)))) hp1
      refine ⟨_, rfl, _, rfl, _, _, rfl, rfl, (by show 2 ≤ sizeLine; decide), fun t ht => ⟨(by show 1 ≤ sizeLine; decide), fun p2 hp2 => ?_⟩⟩
      have t2 := same_upd (o := .tup [.int c.1, .int (c.2 - 1)]) ht
      have t3 := same_upd (o := .lst [.ref t]) hp2
      refine ⟨p1, p2, _, _, rfl, rfl, t3 _ _ (t2 _ _ upd_same), upd_same, ?_, fun p3 hp3 => ?_⟩
      · exact Nat.le_of_lt (small1000 (by have := cutV_length vs none (some (i : Int)); show (cutV vs none (some (i : Int))).length + 1 ≤ 1000; omega))
      have t4 := same_upd (o := .lst (cutV vs none (some (i : Int)) ++ [.ref t])) hp3
      have ss := ((s2.trans t1).trans t2).trans (t3.trans t4)
      refine ⟨_, rfl, _, rfl, _, _, rfl, rfl, _, rfl, ?_⟩
      dsimp only [tNoPart]
      refine ⟨_, _, rfl, SqL.of (ss _ _ hL), fun p4 hp4 => ?_⟩
      have t5 := same_upd (o := .lst (cutV vs (some ((i : Int) + 1)) none)) hp4
      refine ⟨p3, p4, _, _, rfl, rfl, t5 _ _ upd_same, upd_same, ?_, fun p5 hp5 => ?_⟩
      · exact Nat.le_of_lt (small1000 (by have h1 := cutV_length vs none (some (i : Int)); have h2 := cutV_length vs (some ((i : Int) + 1)) none; rw [List.length_append]; show (cutV vs none (some (i : Int))).length + 1 + _ ≤ 1000; omega))
      have t6 := same_upd (o := .lst (cutV vs none (some (i : Int)) ++ [.ref t] ++ cutV vs (some ((i : Int) + 1)) none)) hp5
      have up := (ss.trans t5).trans t6
      have upt := ((t3.trans t4).trans t5).trans t6
      have fin : ∀ Hf : Hp, Same H Hf → Hf t = some (.tup [.int c.1, .int (c.2 + -1)]) → Hf p5 = some (.lst (cutV vs none (some (i : Int)) ++ [.ref t] ++ cutV vs (some ((i : Int) + 1)) none)) → LAt ClP Hf p5 (cs.take i ++ [(c.1, c.2 + -1)] ++ cs.drop (i + 1)) := fun Hf u ht h5 => by
        rw [cut_l (by omega), cut_r (by omega)] at h5
        exact ⟨_, h5, pw_app (pw_app (pw_take (pw.mono u)) (pw_one ⟨t, rfl, ht⟩)) (pw_drop (pw.mono u))⟩
      exact q p5 _ _ up (fin _ up (upt _ _ upd_same) upd_same) (near_ok (d := -1) ok hc (by omega) (by omega))
    · exact ⟨_, rfl, q L cs H2 s2 ⟨vs, hL2, pw.mono s2⟩ ok⟩
structure CalM (P : Program) (w : World) (K : PySem.W.Frag) (mg : Str → Option Value) (base : Heap) (k : Nat) (C : Addr) (m : Str) (ps : List Str) (sp : Sp) : Prop where
  ex : ∃ (f : Addr) (fd : FuncData), Meth K C m f ∧ FnOk P w K mg base CX0 k f fd ps sp ∧ Binds K fd ps []
def spRi : Sp := fun vs H Q _ => ∃ (L : Addr) (cs : List Cls2) (T : Nat), vs = [.ref L, .int (T : Int), .int (cnt cs T)] ∧ LAt ClP H L cs ∧ ClsV cs ∧ T ≤ 40 ∧ ∀ H', Same H H' → Q (.bl true) H'
abbrev CalRi (P : Program) (w : World) (K : PySem.W.Frag) (mg : Str → Option Value) (base : Heap) := Cal P w K mg base 6 "_law_right" ["_law_classes_here", "_law_total_here", "_law_due"] spRi
theorem ok_ri {G : Addr} (B : Blt mg) (TG : GrC K mg G) (CS : CalM P w K mg base 2 G "count_spreads" ["self", "total"] (spCS G)) (C_ground : CalGr P w K mg base G) (C_whole : CalWhole P w K mg base) (D : Dfn K mg "_law_right" "_law_right" s_right ["_law_classes_here", "_law_total_here", "_law_due"]) : CalRi P w K mg base := by
  obtain ⟨_, _, m_cs, F_cs, b_cs⟩ := CS.ex
  refine D.cal sc_right (fun vs H Q E h => ?_) (fun f cdv A outer st H vs Q E hr h => ?_)
  · obtain ⟨L, cs, T, rfl, _⟩ := h
    rfl
  · obtain ⟨L, cs, T, rfl, hL, ok, hT, q⟩ := h
    refine ⟨_, (pss_cons (ps_set (i := 3) sc_right.nd rfl (Or.inl rfl) (pe_meth (pe_cal C_ground (hr.mono (by decide)) (pa_cons (pv 0) pa_nil)) TG.cl m_cs F_cs (hr.mono (by decide)) b_cs .nil pass0 (pa_cons (pv 1) pa_nil)))
      (pss_one (ps_ret ((pe_and (pe_cal C_whole (hr.mono (by decide)) (pa_cons (pv 3) pa_nil)) (pe_one (pe_cmpR op_eq (pv 3) (pv 2) (nomark _)))))))), ?_⟩
    refine ⟨_, rfl, L, cs, rfl, hL, ok, fun x H1 s1 hx => ?_⟩
    obtain ⟨dx, M, hx1, hx2⟩ := id hx
    refine ⟨x, dx, _, rfl, hx1, grf_no _ _ (by decide +kernel) (by decide +kernel), _, rfl, x, cs, T, rfl, hx, ok.b12, hT, fun H2 s2 => ?_⟩
    refine ⟨_, rfl, _, rfl, _, rfl, iteT ?_⟩
    refine ⟨_, rfl, _, rfl, rfl, ?_⟩
    rw [decide_eq_true rfl]
    exact q H2 (s1.trans s2)
end
end L

set_option Elab.async false
set_option linter.all false
set_option maxRecDepth 100000
set_option maxHeartbeats 4000000
set_option pp.maxSteps 160
set_option pp.deepTerms false
namespace L
open PySem PySem.Spec PyProof.Rows L2 Fl
local macro_rules | `(tactic| walk_at "side") => `(tactic| first | (exact .inl ⟨by omega, by omega⟩) | (exact .inr ⟨by omega, by omega⟩) | (exact .inr ⟨by decide, by decide⟩) | (show (_ : Int) ≠ _; omega) | (exact ⟨by omega, by decide⟩) | (exact ⟨by decide, by decide, by decide⟩))
local macro_rules | `(tactic| walk_at "go") => `(tactic| repeat (first | refine ⟨_, rfl, ?_⟩ | refine ⟨_, _, rfl, rfl, ?_⟩ | refine .inl ⟨_, rfl, ?_⟩ | refine ⟨rfl, ?_⟩ | refine ⟨(by walk_at "side"), ?_⟩))
local macro_rules | `(tactic| walk_at "see") => `(tactic| (set_option pp.maxSteps 110 in set_option pp.deepTerms false in trace_state))
local macro_rules | `(tactic| walk_at "if") => `(tactic| first | refine ifE ?_ ?_ | refine ifNE ?_ ?_ | refine ifD ?_ ?_ | refine ifN ?_ ?_ | refine ifB ?_ ?_)
section
variable {P : Program} {w : World} {K : PySem.W.Frag} {mg : Str → Option Value} {base : Heap}

def spLaw (K : PySem.W.Frag) : Sp := fun vs H Q _ => ∃ (a : Addr) (ns : List Int), vs = [.ref a] ∧ SqL K H a (ns.map V.int) ∧ ns.length ≤ 63 ∧ ∀ H', Q (.bl true) H'
theorem ok_law {G fA : Addr} {fd : FuncData} (B : Blt mg) (TG : GrC K mg G) (F : Fun K "law" "law" s_law fA fd) (CS : CalM P w K mg base 2 G "count_spreads" ["self", "total"] (spCS G)) (C_pool : CalPool P w K mg base) (C_draw : CalDraw P w K mg base) (C_draw1 : CalDraw1 P w K mg base) (C_classes : CalCl P w K mg base) (C_total : CalTot P w K mg base)
    (C_counts : CalCt P w K mg base) (C_near : CalNear P w K mg base) (C_ground : CalGr P w K mg base G) (C_whole : CalWhole P w K mg base) (C_right : CalRi P w K mg base) : FnOk P w K mg base CX0 7 fA fd ["_law_script"] (spLaw K) := by
  obtain ⟨_, _, m_cs, F_cs, b_cs⟩ := CS.ex
  refine F.ok sc_law (fun vs H Q E h => ?_) (fun cdv A outer st H vs Q E hr h => ?_)
  · obtain ⟨a, ns, rfl, _⟩ := h
    rfl
  · obtain ⟨a, ns, rfl, hS, hl, q⟩ := h
    refine ⟨_, (pss_cons (ps_set (i := 1) sc_law.nd rfl (Or.inl rfl) (pe_cal C_pool (hr.mono (by decide)) (pa_cons (pv 0) pa_nil)))
      (pss_cons (ps_set (i := 2) sc_law.nd rfl (Or.inl rfl) (pe_cal C_classes (hr.mono (by decide)) (pa_cons (pv 1) (pa_cons (pe_int) pa_nil))))
      (pss_cons (ps_set (i := 3) sc_law.nd rfl (Or.inl rfl) (pe_cal C_total (hr.mono (by decide)) (pa_cons (pv 1) pa_nil)))
      (pss_cons (ps_set (i := 4) sc_law.nd rfl (Or.inl rfl) (pe_cal C_counts (hr.mono (by decide)) (pa_cons (pv 2) (pa_cons (pv 3) pa_nil))))
      (Evl.pss_cut (ps_set (i := 5) sc_law.nd rfl (Or.inl rfl) (pe_or (pe_cal C_draw (hr.mono (by decide)) (pa_cons (pv 1) (pa_cons (pe_op op_add (pv 3) pe_int) pa_nil))) (pe_cal C_draw1 (hr.mono (by decide)) (pa_cons (pv 1) (pa_cons (pe_op op_add (pv 3) pe_int) pa_nil)))))
      (Evl.pss_cut (ps_set (i := 6) sc_law.nd rfl (Or.inl rfl) (pe_cal C_near (hr.mono (by decide)) (pa_cons (pv 2) (pa_cons (pe_or (pe_cal C_draw (hr.mono (by decide)) (pa_cons (pv 1) (pa_cons (pe_callB call_len_seq (by rfl) B.len PySem.boot_len (pa_cons (pv 2) pa_nil)) pa_nil))) (pe_cal C_draw1 (hr.mono (by decide)) (pa_cons (pv 1) (pa_cons (pe_callB call_len_seq (by rfl) B.len PySem.boot_len (pa_cons (pv 2) pa_nil)) pa_nil)))) pa_nil))))
      (pss_cons (ps_setLc (i := 7) (own := [("_law_row", 8)]) (g := gName 8) rfl sc_law.nd rfl rfl (sw_true rfl rfl rfl (by decide +kernel)) (pi_list (pe_revL (pv 2))) (blkOk_by (N := ["_law_script", "_law_pool_here", "_law_classes_here", "_law_total_here", "_law_ways", "_law_less", "_law_near_here", "_law_turned", "_law_row", "_law_ground_here", "_law_first", "_law_second", "_law_beside"]) (sc := defScope s_law) (by decide +kernel)) (fun _ _ _ _ _ => pg_name (i := 8) sc_law.nd rfl (Or.inl rfl)) (fun _ _ _ _ _ => pts_nil) (fun _ _ _ _ _ => (pe_tup (pa_cons (pe_op op_add (pe_op op_modN (pe_callTy call_int1 (by rfl) B.int (by decide +kernel) (pa_cons (pe_ix (ix_tup_K (K := K) rfl) (pv 8) (pe_int) (fun _ _ => rfl)) pa_nil)) (pe_int)) (pe_int)) (pa_cons (pe_ix (ix_tup_K (K := K) rfl) (pv 8) (pe_int) (fun _ _ => rfl)) pa_nil)))))
      (pss_cons (ps_set (i := 9) sc_law.nd rfl (Or.inl rfl) (pe_cal C_ground (hr.mono (by decide)) (pa_cons (pv 2) pa_nil)))
      (pss_cons (ps_set (i := 10) sc_law.nd rfl (Or.inl rfl) (pe_meth (pv 9) TG.cl m_cs F_cs (hr.mono (by decide)) b_cs .nil pass0 (pa_cons (pv 3) pa_nil)))
      (pss_cons (ps_set (i := 11) sc_law.nd rfl (Or.inl rfl) (pe_meth (pv 9) TG.cl m_cs F_cs (hr.mono (by decide)) b_cs .nil pass0 (pa_cons (pv 5) pa_nil)))
      (pss_cons (ps_if (PW.pt (pw_or (pt_not (pt_val (pe_cal C_whole (hr.mono (by decide)) (pa_cons (pv 10) pa_nil)))) (pw_or1 (pt_not (pt_val (pe_cal C_whole (hr.mono (by decide)) (pa_cons (pv 11) pa_nil))))))) (pss_one (ps_ret (pe_bl))) pss_nil)
      (pss_cons (ps_if (PW.pt (pw_or (pt_cmpR op_ne (pv 10) (pe_ix ix_list (pv 4) (pv 3) (fun _ _ => rfl)) (nomark _)) (pw_or1 (pt_cmpR op_ne (pv 11) (pe_ix ix_list (pv 4) (pv 5) (fun _ _ => rfl)) (nomark _))))) (pss_one (ps_ret (pe_bl))) pss_nil)
      (pss_cons (ps_if (pt_not (pt_val (pe_cal C_right (hr.mono (by decide)) (pa_cons (pv 7) (pa_cons (pv 3) (pa_cons (pe_ix ix_list (pv 4) (pv 3) (fun _ _ => rfl)) pa_nil)))))) (pss_one (ps_ret (pe_bl))) pss_nil)
      (pss_cons (ps_set (i := 12) sc_law.nd rfl (Or.inl rfl) (pe_cal C_counts (hr.mono (by decide)) (pa_cons (pv 6) (pa_cons (pv 3) pa_nil))))
      (pss_cons (ps_if (pt_not (pt_val (pe_cal C_right (hr.mono (by decide)) (pa_cons (pv 6) (pa_cons (pv 3) (pa_cons (pe_ix ix_list (pv 12) (pv 3) (fun _ _ => rfl)) pa_nil)))))) (pss_one (ps_ret (pe_bl))) pss_nil)
      (pss_one (ps_ret (pe_cmpR op_eq (pe_meth (pv 9) TG.cl m_cs F_cs (hr.mono (by decide)) b_cs .nil pass0 (pa_cons (pv 3) pa_nil)) (pe_ix ix_list (pv 4) (pv 3) (fun _ _ => rfl)) (nomark _))))))))))))))))))), ?_⟩
    refine ⟨_, rfl, a, ns, rfl, hS, hl, fun p H1 s1 np nq hP1 => ?_⟩
    refine ⟨_, rfl, p, rfl, hP1, fun L cs H2 hP2 k2 pL hL ok => ?_⟩
    refine ⟨_, rfl, p, rfl, hP2, fun T H3 hT hP3 k3 => ?_⟩
    have hL := lat_keep hL hP2 pL k3
    refine ⟨_, rfl, _, rfl, L, cs, T, rfl, hL, ok.b12, hT, fun W H4 s4 hW0 hW => ?_⟩
    have pW : W ≠ p := (hP3.apart hW0).1
    have hP4 := hP3.same s4
    have hL := hL.same clP_mono s4
    have l1 := ok.l1
    have l4 := ok.l4
    refine ⟨fun σ' H' => ∃ d : Nat, σ' = [some (.ref a), some (.ref (p : Addr)), some (.ref L), some (.int (T : Int)), some (.ref W), some (.int (d : Int)), none, none, none, none, none, none, none] ∧ d ≤ T ∧ Pool H' p ∧ LAt ClP H' L cs ∧ H' W = some (.lst ((wl T (cnt cs)).map V.int)), ?_, ?_⟩
    · rcases (by omega : T = 0 ∨ 1 ≤ T) with h0 | h0
      · refine .inr ⟨_, rfl, _, rfl, _, _, rfl, rfl, p, ?_, 0, rfl, by omega, hP4, hL, hW⟩
        rw [h0]
        rfl
      · refine .inl ⟨_, rfl, _, rfl, _, _, rfl, rfl, p, _, rfl, hP4, by omega, by omega, fun r H5 r0 r1 hP5 k5 => ?_⟩
        obtain ⟨d, rfl⟩ : ∃ d : Nat, r = (d : Int) := ⟨r.toNat, by omega⟩
        exact ⟨d, rfl, by omega, hP5, lat_keep hL hP4 pL k5, k5 _ _ hW pW⟩
    clear hP1 hP2 hP3 hP4 hL hW k2 k3 s4 hW0
    rintro σ' H5 ⟨d, rfl, hd, hP5, hL, hW⟩
    refine ⟨fun σ' H' => ∃ (N : Addr) (ds : List Cls2), σ' = [some (.ref a), some (.ref (p : Addr)), some (.ref L), some (.int (T : Int)), some (.ref W), some (.int (d : Int)), some (.ref N), none, none, none, none, none, none] ∧ LAt ClP H' N ds ∧ ClsV ds ∧ LAt ClP H' L cs ∧ H' W = some (.lst ((wl T (cnt cs)).map V.int)), ?_, ?_⟩
    · refine ⟨_, rfl, ?_⟩
      obtain ⟨vs, hL1, hlen, hat⟩ := id hL
      rcases (by omega : cs.length = 1 ∨ 2 ≤ cs.length) with h0 | h0
      · refine .inr ⟨_, rfl, _, rfl, _, _, rfl, .inl (SqL.of hL1), p, ?_, L, cs, 0, rfl, hL, ok, by omega, fun N ds H6 s6 hN okN => ⟨N, ds, rfl, hN, okN, hL.same clP_mono s6, s6 _ _ hW⟩⟩
        rw [hlen, h0]
        rfl
      · refine .inl ⟨_, rfl, _, rfl, _, _, rfl, .inl (SqL.of hL1), p, _, rfl, hP5, by omega, by omega, fun r H6 r0 r1 hP6 k6 => ?_⟩
        obtain ⟨i, rfl⟩ : ∃ i : Nat, r = (i : Int) := ⟨r.toNat, by omega⟩
        have hL6 := lat_keep hL hP5 pL k6
        exact ⟨L, cs, i, rfl, hL6, ok, by omega, fun N ds H7 s7 hN okN => ⟨N, ds, rfl, hN, okN, hL6.same clP_mono s7, s7 _ _ (k6 _ _ hW pW)⟩⟩
    clear hP5 hL hW
    rintro σ' H6 ⟨N, ds, rfl, hN, okN, hL, hW⟩
    obtain ⟨vs, hL1, hlen, hat⟩ := id hL
    have pw : PW (ClP H6) vs cs := ⟨hlen, hat⟩
    refine ⟨_, rfl, L, _, rfl, SqL.of hL1, fun R hR => ?_⟩
    have sR := same_upd (o := .lst vs.reverse) hR
    have hN := hN.same clP_mono sR
    have hL := hL.same clP_mono sR
    have hW := sR _ _ hW
    have pr : PW (ClP (upd H6 R (.lst vs.reverse))) vs.reverse cs.reverse := pw_rev (pw.mono sR)
    have hR1 : upd H6 R (.lst vs.reverse) R = some (.lst vs.reverse) := upd_same
    generalize upd H6 R (.lst vs.reverse) = H7 at *
    refine ⟨R, rfl, ⟨_, SqL.of hR1⟩, fun D hD => lc_build (K := K) (a := R) (xs := vs.reverse) ClP (cs.reverse.map (fun c => (c.1.fmod 1000 + 1, c.2))) clP_mono hD (by rw [List.length_map]; exact pr.1) (SqL.of hR1) (by rw [List.length_map, List.length_reverse]; omega) ?_ ?_⟩
    · intro i x y H Kc Ke hx hy s8 hac kc
      rw [List.getElem?_map] at hy
      cases hci : cs.reverse[i]? with
      | none =>
        rw [hci] at hy
        cases hy
      | some c =>
        rw [hci] at hy
        cases hy
        obtain ⟨v, hv, t, rfl, ht⟩ := pr.2 i c hci
        rw [hx] at hv
        cases hv
        have ht8 := s8 _ _ ht
        obtain ⟨acc, hacc⟩ := hac
        refine ⟨rfl, ?_⟩
        refine ⟨_, rfl, _, _, _, _, rfl, rfl, SqT.of ht8, rfl, .inl ⟨_, rfl, _, _, rfl, rfl, (by show (1000 : Int) ≠ 0; decide), _, _, rfl, rfl, _, rfl, _, _, _, _, rfl, rfl, SqT.of ht8, rfl, (by show 2 ≤ sizeLine; decide), fun u hu => ?_⟩⟩
        exact kc _ _ (same_upd hu) ⟨u, rfl, wo_at upd_same (ne_of_none hacc hu).symm⟩
    intro H8 s8 hTu
    have hN := hN.same clP_mono s8
    have hL := hL.same clP_mono s8
    have hW := s8 _ _ hW
    have okT := turned_ok ok
    have eT : cnt (cs.reverse.map (fun c => (c.1.fmod 1000 + 1, c.2))) = cnt cs := (cnt_map (g := fun x => x.fmod 1000 + 1)).trans cnt_rev
    generalize cs.reverse.map (fun c => (c.1.fmod 1000 + 1, c.2)) = ts at *
    refine ⟨_, rfl, L, cs, rfl, hL, ok, fun x H9 s9 hx => ?_⟩
    have nox : ∀ (n : Int) (M : Addr), (grf n M).lookup ("count_spreads" : Str) = none := fun n M => grf_no _ _ (by decide +kernel) (by decide +kernel)
    have aT : ∀ {w : Nat → Int} {f : Nat}, f ≤ T → atI ((wl T w).map V.int) (f : Int) = some (V.int (w f)) := fun h => by
      refine atI_nat ?_
      rw [List.getElem?_map, wl_at h]
      rfl
    obtain ⟨dx, M, hx1, hx2⟩ := id hx
    refine ⟨_, rfl, x, dx, _, rfl, hx1, nox _ _, _, rfl, x, cs, T, rfl, hx, ok.b12, hT, fun Ha sa => ?_⟩
    have hxa := hx.same sa
    obtain ⟨dxa, Ma, hxa1, _⟩ := id hxa
    refine ⟨_, rfl, x, dxa, _, rfl, hxa1, nox _ _, _, rfl, x, cs, d, rfl, hxa, ok.b12, by omega, fun Hb sb => ?_⟩
    have sab := (s9.trans sa).trans sb
    have hWb := sab _ _ hW
    refine ⟨_, rfl, _, rfl, _, rfl, iteF ?_⟩
    refine ⟨_, rfl, _, rfl, _, rfl, iteF ?_⟩
    refine ⟨_, rfl, _, rfl, _, rfl, _, _, _, _, rfl, rfl, SqL.of hWb, aT (Nat.le_refl _), rfl, _, rfl, ifNE (fun h => absurd rfl h) (fun _ => ?_)⟩
    refine ⟨_, rfl, _, rfl, _, rfl, _, _, _, _, rfl, rfl, SqL.of hWb, aT hd, rfl, _, rfl, ifNE (fun h => absurd rfl h) (fun _ => ?_)⟩
    refine ⟨_, rfl, _, rfl, _, rfl, _, rfl, _, _, _, _, rfl, rfl, SqL.of hWb, aT (Nat.le_refl _), D, ts, T, (by rw [eT]; rfl), hTu.same clP_mono sab, okT, hT, fun Hc sc => ⟨_, rfl, iteF ?_⟩⟩
    refine ⟨_, rfl, _, rfl, N, ds, T, rfl, (hN.same clP_mono sab).same clP_mono sc, okN.b12, hT, fun W2 Hd sd _ hW2 => ?_⟩
    refine ⟨_, rfl, _, rfl, _, rfl, _, rfl, _, _, _, _, rfl, rfl, SqL.of hW2, aT (Nat.le_refl _), N, ds, T, rfl, ((hN.same clP_mono sab).same clP_mono sc).same clP_mono sd, okN, hT, fun He se => ⟨_, rfl, iteF ?_⟩⟩
    have sce := (sc.trans sd).trans se
    have hxe := (hxa.same sb).same sce
    obtain ⟨dxe, Me, hxe1, _⟩ := id hxe
    refine ⟨_, rfl, x, dxe, _, rfl, hxe1, nox _ _, _, rfl, x, cs, T, rfl, hxe, ok.b12, hT, fun Hf sf => ?_⟩
    refine ⟨_, rfl, _, rfl, _, _, _, _, rfl, rfl, SqL.of (sf _ _ (sce _ _ hWb)), aT (Nat.le_refl _), rfl, ?_⟩
    rw [decide_eq_true rfl]
    exact q _
end
end L

set_option Elab.async false
set_option linter.all false
set_option maxRecDepth 100000
set_option maxHeartbeats 4000000
set_option pp.maxSteps 160
set_option pp.deepTerms false
namespace L
open PySem PySem.Spec PyProof.Rows L2 Fl
local macro_rules | `(tactic| walk_at "side") => `(tactic| first | (exact .inl ⟨by omega, by omega⟩) | (exact .inr ⟨by omega, by omega⟩) | (exact .inr ⟨by decide, by decide⟩) | (show (_ : Int) ≠ _; omega) | (exact ⟨by omega, by decide⟩) | (exact ⟨by decide, by decide, by decide⟩))
local macro_rules | `(tactic| walk_at "go") => `(tactic| repeat (first | refine ⟨_, rfl, ?_⟩ | refine ⟨_, _, rfl, rfl, ?_⟩ | refine .inl ⟨_, rfl, ?_⟩ | refine ⟨rfl, ?_⟩ | refine ⟨(by walk_at "side"), ?_⟩))
local macro_rules | `(tactic| walk_at "see") => `(tactic| (set_option pp.maxSteps 110 in set_option pp.deepTerms false in trace_state))
local macro_rules | `(tactic| walk_at "if") => `(tactic| first | refine ifE ?_ ?_ | refine ifNE ?_ ?_ | refine ifD ?_ ?_ | refine ifN ?_ ?_ | refine ifB ?_ ?_)
section
variable {P : Program} {w : World} {K : PySem.W.Frag} {mg : Str → Option Value} {base : Heap}
end

theorem kit_type {K : PySem.W.Frag} {t : Addr} {n : String} {b : Bool} (hk : PySem.W.kitMeta n = true) (hs : PySem.W.subIn K (.ref t) (.type n) = some b) : PySem.W.kitOne K (.ref t) (.type n) = some b := by
  unfold PySem.W.kitOne
  rw [if_neg (by intro h; cases beq_iff_eq.mp h)]
  show (if PySem.W.kitMeta n = true then PySem.W.subIn K (.ref t) (.type n) else none) = some b
  rw [if_pos hk]
  exact hs
theorem all_mk {l : PySem.W.OpenLaw} {w : World} {K : PySem.W.Frag} {h : Heap} {mg : Str → Option Value} {fa : Addr} (X : K.In h) (G : h.Ns mainGlobals mg) (hfa : mg "law" = some (.ref fa))
    {tkMC : Tok} {tkMW : Tok} {GR : Addr} {tkF12 : Tok} {tkF40 : Tok} {fGround_init : Addr} {ocGround_init kVGround_init dcGround_init pmGround_init cdGround_init ctGround_init : Value} {odGround_init anGround_init : Option Addr} {slGround_init : Array (Option Value)} {fGround_count_spreads : Addr} {ocGround_count_spreads kVGround_count_spreads dcGround_count_spreads pmGround_count_spreads cdGround_count_spreads ctGround_count_spreads : Value} {odGround_count_spreads anGround_count_spreads : Option Addr} {slGround_count_spreads : Array (Option Value)} {fpool : Addr} {ocpool kVpool dcpool pmpool cdpool ctpool : Value} {odpool anpool : Option Addr} {slpool : Array (Option Value)} {fmix : Addr} {ocmix kVmix dcmix pmmix cdmix ctmix : Value} {odmix anmix : Option Addr} {slmix : Array (Option Value)} {fdraw : Addr} {ocdraw kVdraw dcdraw pmdraw cddraw ctdraw : Value} {oddraw andraw : Option Addr} {sldraw : Array (Option Value)} {fwhole : Addr} {ocwhole kVwhole dcwhole pmwhole cdwhole ctwhole : Value} {odwhole anwhole : Option Addr} {slwhole : Array (Option Value)} {fclasses : Addr} {occlasses kVclasses dcclasses pmclasses cdclasses ctclasses : Value} {odclasses anclasses : Option Addr} {slclasses : Array (Option Value)} {fground : Addr} {ocground kVground dcground pmground cdground ctground : Value} {odground anground : Option Addr} {slground : Array (Option Value)} {fcounts : Addr} {occounts kVcounts dccounts pmcounts cdcounts ctcounts : Value} {odcounts ancounts : Option Addr} {slcounts : Array (Option Value)} {ftotal : Addr} {octotal kVtotal dctotal pmtotal cdtotal cttotal : Value} {odtotal antotal : Option Addr} {sltotal : Array (Option Value)} {fnear : Addr} {ocnear kVnear dcnear pmnear cdnear ctnear : Value} {odnear annear : Option Addr} {slnear : Array (Option Value)} {fright : Addr} {ocright kVright dcright pmright cdright ctright : Value} {odright anright : Option Addr} {slright : Array (Option Value)} {fcheck_worth : Addr} {occheck_worth kVcheck_worth dccheck_worth pmcheck_worth cdcheck_worth ctcheck_worth : Value} {odcheck_worth ancheck_worth : Option Addr} {slcheck_worth : Array (Option Value)} {fcheck_classes : Addr} {occheck_classes kVcheck_classes dccheck_classes pmcheck_classes cdcheck_classes ctcheck_classes : Value} {odcheck_classes ancheck_classes : Option Addr} {slcheck_classes : Array (Option Value)} {fcheck_forces : Addr} {occheck_forces kVcheck_forces dccheck_forces pmcheck_forces cdcheck_forces ctcheck_forces : Value} {odcheck_forces ancheck_forces : Option Addr} {slcheck_forces : Array (Option Value)} {flaw : Addr} {oclaw kVlaw dclaw pmlaw cdlaw ctlaw : Value} {odlaw anlaw : Option Addr} {sllaw : Array (Option Value)}
    (zlen : PySem.W.nsIn K mainGlobals "len" = some none)
    (zint : PySem.W.nsIn K mainGlobals "int" = some none)
    (zabs : PySem.W.nsIn K mainGlobals "abs" = some none)
    (zrange : PySem.W.nsIn K mainGlobals "range" = some none)
    (zisinstance : PySem.W.nsIn K mainGlobals "isinstance" = some none)
    (zmax : PySem.W.nsIn K mainGlobals "max" = some none)
    (zmin : PySem.W.nsIn K mainGlobals "min" = some none)
    (zsum : PySem.W.nsIn K mainGlobals "sum" = some none)
    (zstr : PySem.W.nsIn K mainGlobals "str" = some none)
    (zbool : PySem.W.nsIn K mainGlobals "bool" = some none)
    (zlist : PySem.W.nsIn K mainGlobals "list" = some none)
    (zValueError : PySem.W.nsIn K mainGlobals "ValueError" = some none)
    (aMC : PySem.W.nsIn K mainGlobals "MOST_CLASSES" = some (some (.int 4 tkMC)))
    (aMW : PySem.W.nsIn K mainGlobals "MOST_WORTH" = some (some (.int 1000 tkMW)))
    (aGR : PySem.W.nsIn K mainGlobals "Ground" = some (some (.ref GR)))
    (pgGR : PySem.W.plainGet K GR Str.empty = true)
    (hdGR : PySem.W.hasDictIn K GR = true)
    (poGR : PySem.W.plainOver K GR = true)
    (saGR : PySem.W.findIn K (.ref GR) "__setattr__" = some (some (.builtin "object.__setattr__")))
    (mkGR : PySem.W.makesIn K GR = true)
    (kcGR : PySem.W.keepIn K (.ref GR) = true)
    (n1GR : PySem.W.findIn K (.ref GR) "classes" = some none)
    (n2GR : PySem.W.findIn K (.ref GR) "fields" = some none)
    (rdGR : PySem.W.readsIn K GR (.type "type") = true)
    (gatGR : PySem.W.specialIn K (.ref GR) "__getattribute__" = some (some (.builtin "type.__getattribute__")))
    (qF12 : PySem.W.findCls K (.ref GR) (.type "type") "MOST_FIELDS" = some (.val (.int 12 tkF12)))
    (qF40 : PySem.W.findCls K (.ref GR) (.type "type") "MOST_FORCES" = some (.val (.int 40 tkF40)))
    (aGround_init : PySem.W.findIn K (.ref GR) "__init__" = some (some (.ref fGround_init)))
    (iGround_init : PySem.W.isFn K (.ref fGround_init) = true)
    (lGround_init : K.lookup fGround_init = some ⟨ocGround_init, odGround_init, .func (PySem.W.fnOf "__init__" "Ground.__init__" (defArgs s_Ground_init) (defBody s_Ground_init) (defScope s_Ground_init) .none kVGround_init dcGround_init pmGround_init anGround_init cdGround_init ctGround_init), slGround_init⟩)
    (cGround_init : PySem.W.codeIn K cdGround_init "Ground.__init__" = true)
    (kGround_init : PySem.W.keepIn K (.ref fGround_init) = true)
    (aGround_count_spreads : PySem.W.findIn K (.ref GR) "count_spreads" = some (some (.ref fGround_count_spreads)))
    (iGround_count_spreads : PySem.W.isFn K (.ref fGround_count_spreads) = true)
    (lGround_count_spreads : K.lookup fGround_count_spreads = some ⟨ocGround_count_spreads, odGround_count_spreads, .func (PySem.W.fnOf "count_spreads" "Ground.count_spreads" (defArgs s_Ground_count_spreads) (defBody s_Ground_count_spreads) (defScope s_Ground_count_spreads) .none kVGround_count_spreads dcGround_count_spreads pmGround_count_spreads anGround_count_spreads cdGround_count_spreads ctGround_count_spreads), slGround_count_spreads⟩)
    (cGround_count_spreads : PySem.W.codeIn K cdGround_count_spreads "Ground.count_spreads" = true)
    (kGround_count_spreads : PySem.W.keepIn K (.ref fGround_count_spreads) = true)
    (apool : PySem.W.nsIn K mainGlobals "_law_pool" = some (some (.ref fpool)))
    (lpool : K.lookup fpool = some ⟨ocpool, odpool, .func (PySem.W.fnOf "_law_pool" "_law_pool" (defArgs s_pool) (defBody s_pool) (defScope s_pool) .none kVpool dcpool pmpool anpool cdpool ctpool), slpool⟩)
    (cpool : PySem.W.codeIn K cdpool "_law_pool" = true)
    (kpool : PySem.W.keepIn K (.ref fpool) = true)
    (amix : PySem.W.nsIn K mainGlobals "_law_mix" = some (some (.ref fmix)))
    (lmix : K.lookup fmix = some ⟨ocmix, odmix, .func (PySem.W.fnOf "_law_mix" "_law_mix" (defArgs s_mix) (defBody s_mix) (defScope s_mix) .none kVmix dcmix pmmix anmix cdmix ctmix), slmix⟩)
    (cmix : PySem.W.codeIn K cdmix "_law_mix" = true)
    (kmix : PySem.W.keepIn K (.ref fmix) = true)
    (adraw : PySem.W.nsIn K mainGlobals "_law_draw" = some (some (.ref fdraw)))
    (ldraw : K.lookup fdraw = some ⟨ocdraw, oddraw, .func (PySem.W.fnOf "_law_draw" "_law_draw" (defArgs s_draw) (defBody s_draw) (defScope s_draw) .none kVdraw dcdraw pmdraw andraw cddraw ctdraw), sldraw⟩)
    (cdraw : PySem.W.codeIn K cddraw "_law_draw" = true)
    (kdraw : PySem.W.keepIn K (.ref fdraw) = true)
    (awhole : PySem.W.nsIn K mainGlobals "_law_whole" = some (some (.ref fwhole)))
    (lwhole : K.lookup fwhole = some ⟨ocwhole, odwhole, .func (PySem.W.fnOf "_law_whole" "_law_whole" (defArgs s_whole) (defBody s_whole) (defScope s_whole) .none kVwhole dcwhole pmwhole anwhole cdwhole ctwhole), slwhole⟩)
    (cwhole : PySem.W.codeIn K cdwhole "_law_whole" = true)
    (kwhole : PySem.W.keepIn K (.ref fwhole) = true)
    (aclasses : PySem.W.nsIn K mainGlobals "_law_classes" = some (some (.ref fclasses)))
    (lclasses : K.lookup fclasses = some ⟨occlasses, odclasses, .func (PySem.W.fnOf "_law_classes" "_law_classes" (defArgs s_classes) (defBody s_classes) (defScope s_classes) .none kVclasses dcclasses pmclasses anclasses cdclasses ctclasses), slclasses⟩)
    (cclasses : PySem.W.codeIn K cdclasses "_law_classes" = true)
    (kclasses : PySem.W.keepIn K (.ref fclasses) = true)
    (aground : PySem.W.nsIn K mainGlobals "_law_ground" = some (some (.ref fground)))
    (lground : K.lookup fground = some ⟨ocground, odground, .func (PySem.W.fnOf "_law_ground" "_law_ground" (defArgs s_ground) (defBody s_ground) (defScope s_ground) .none kVground dcground pmground anground cdground ctground), slground⟩)
    (cground : PySem.W.codeIn K cdground "_law_ground" = true)
    (kground : PySem.W.keepIn K (.ref fground) = true)
    (acounts : PySem.W.nsIn K mainGlobals "_law_counts" = some (some (.ref fcounts)))
    (lcounts : K.lookup fcounts = some ⟨occounts, odcounts, .func (PySem.W.fnOf "_law_counts" "_law_counts" (defArgs s_counts) (defBody s_counts) (defScope s_counts) .none kVcounts dccounts pmcounts ancounts cdcounts ctcounts), slcounts⟩)
    (ccounts : PySem.W.codeIn K cdcounts "_law_counts" = true)
    (kcounts : PySem.W.keepIn K (.ref fcounts) = true)
    (atotal : PySem.W.nsIn K mainGlobals "_law_total" = some (some (.ref ftotal)))
    (ltotal : K.lookup ftotal = some ⟨octotal, odtotal, .func (PySem.W.fnOf "_law_total" "_law_total" (defArgs s_total) (defBody s_total) (defScope s_total) .none kVtotal dctotal pmtotal antotal cdtotal cttotal), sltotal⟩)
    (ctotal : PySem.W.codeIn K cdtotal "_law_total" = true)
    (ktotal : PySem.W.keepIn K (.ref ftotal) = true)
    (anear : PySem.W.nsIn K mainGlobals "_law_near" = some (some (.ref fnear)))
    (lnear : K.lookup fnear = some ⟨ocnear, odnear, .func (PySem.W.fnOf "_law_near" "_law_near" (defArgs s_near) (defBody s_near) (defScope s_near) .none kVnear dcnear pmnear annear cdnear ctnear), slnear⟩)
    (cnear : PySem.W.codeIn K cdnear "_law_near" = true)
    (knear : PySem.W.keepIn K (.ref fnear) = true)
    (aright : PySem.W.nsIn K mainGlobals "_law_right" = some (some (.ref fright)))
    (lright : K.lookup fright = some ⟨ocright, odright, .func (PySem.W.fnOf "_law_right" "_law_right" (defArgs s_right) (defBody s_right) (defScope s_right) .none kVright dcright pmright anright cdright ctright), slright⟩)
    (cright : PySem.W.codeIn K cdright "_law_right" = true)
    (kright : PySem.W.keepIn K (.ref fright) = true)
    (acheck_worth : PySem.W.nsIn K mainGlobals "check_worth" = some (some (.ref fcheck_worth)))
    (lcheck_worth : K.lookup fcheck_worth = some ⟨occheck_worth, odcheck_worth, .func (PySem.W.fnOf "check_worth" "check_worth" (defArgs s_check_worth) (defBody s_check_worth) (defScope s_check_worth) .none kVcheck_worth dccheck_worth pmcheck_worth ancheck_worth cdcheck_worth ctcheck_worth), slcheck_worth⟩)
    (ccheck_worth : PySem.W.codeIn K cdcheck_worth "check_worth" = true)
    (kcheck_worth : PySem.W.keepIn K (.ref fcheck_worth) = true)
    (acheck_classes : PySem.W.nsIn K mainGlobals "_check_classes" = some (some (.ref fcheck_classes)))
    (lcheck_classes : K.lookup fcheck_classes = some ⟨occheck_classes, odcheck_classes, .func (PySem.W.fnOf "_check_classes" "_check_classes" (defArgs s_check_classes) (defBody s_check_classes) (defScope s_check_classes) .none kVcheck_classes dccheck_classes pmcheck_classes ancheck_classes cdcheck_classes ctcheck_classes), slcheck_classes⟩)
    (ccheck_classes : PySem.W.codeIn K cdcheck_classes "_check_classes" = true)
    (kcheck_classes : PySem.W.keepIn K (.ref fcheck_classes) = true)
    (acheck_forces : PySem.W.nsIn K mainGlobals "check_forces" = some (some (.ref fcheck_forces)))
    (lcheck_forces : K.lookup fcheck_forces = some ⟨occheck_forces, odcheck_forces, .func (PySem.W.fnOf "check_forces" "check_forces" (defArgs s_check_forces) (defBody s_check_forces) (defScope s_check_forces) .none kVcheck_forces dccheck_forces pmcheck_forces ancheck_forces cdcheck_forces ctcheck_forces), slcheck_forces⟩)
    (ccheck_forces : PySem.W.codeIn K cdcheck_forces "check_forces" = true)
    (kcheck_forces : PySem.W.keepIn K (.ref fcheck_forces) = true)
    (alaw : PySem.W.nsIn K mainGlobals "law" = some (some (.ref flaw)))
    (llaw : K.lookup flaw = some ⟨oclaw, odlaw, .func (PySem.W.fnOf "law" "law" (defArgs s_law) (defBody s_law) (defScope s_law) .none kVlaw dclaw pmlaw anlaw cdlaw ctlaw), sllaw⟩)
    (claw : PySem.W.codeIn K cdlaw "law" = true)
    (klaw : PySem.W.keepIn K (.ref flaw) = true) :
    ∃ fd : FuncData, (∀ (s : Shared) (v : Value), BindsTo s fd ⟨[v], []⟩ [("_law_script", v)]) ∧ ∀ base : Heap, K.In base → base.Ns mainGlobals mg → FnOk l.prog w K mg base CX0 7 fa fd ["_law_script"] (spLaw K) := by
  have e := hfa.symm.trans (PySem.W.mg_of X G alaw)
  cases e
  have B : Blt mg := ⟨PySem.W.mg_none_of X G zlen, PySem.W.mg_none_of X G zint, PySem.W.mg_none_of X G zabs, PySem.W.mg_none_of X G zrange, PySem.W.mg_none_of X G zisinstance, PySem.W.mg_none_of X G zmax, PySem.W.mg_none_of X G zmin, PySem.W.mg_none_of X G zsum, PySem.W.mg_none_of X G zstr, PySem.W.mg_none_of X G zbool, PySem.W.mg_none_of X G zlist, PySem.W.mg_none_of X G zValueError⟩
  have gMC := PySem.W.mg_of X G aMC
  have gMW := PySem.W.mg_of X G aMW
  have gGround := PySem.W.mg_of X G aGR
  have TG : GrC K mg GR := ⟨⟨pgGR, hdGR, poGR, saGR⟩, n1GR, n2GR, gGround⟩
  have CRGR : ClX.CRead K GR (.type "type") := ⟨rdGR, gatGR⟩
  have CF12 : ClX.CVal K GR (.type "type") "MOST_FIELDS" (.int 12) (.int 12 tkF12) := ⟨qF12, ⟨_, rfl⟩⟩
  have CF40 : ClX.CVal K GR (.type "type") "MOST_FORCES" (.int 40) (.int 40 tkF40) := ⟨qF40, ⟨_, rfl⟩⟩
  have MKG : Mk K GR fGround_init := ⟨mkGR, aGround_init, iGround_init, kcGR⟩
  have FGround_count_spreads := fun_mk (st := s_Ground_count_spreads) lGround_count_spreads cGround_count_spreads kGround_count_spreads
  have bGround_count_spreads := FGround_count_spreads.binds (ps := ["self", "total"]) fun _ _ _ _ _ _ us hl => match us, hl with | [_, _], _ => rfl
  have mGround_count_spreads : Meth K GR "count_spreads" fGround_count_spreads := ⟨aGround_count_spreads, iGround_count_spreads, kGround_count_spreads⟩
  have Fpool := fun_mk (st := s_pool) lpool cpool kpool
  have Dpool : Dfn K mg "_law_pool" "_law_pool" s_pool ["_law_script"] := ⟨fpool, _, Fpool, PySem.W.mg_of X G apool, Fpool.binds (ps := ["_law_script"]) fun _ _ _ _ _ _ us hl => match us, hl with | [_], _ => rfl⟩
  have Fmix := fun_mk (st := s_mix) lmix cmix kmix
  have Dmix : Dfn K mg "_law_mix" "_law_mix" s_mix ["_law_state", "_law_turn", "_law_many"] := ⟨fmix, _, Fmix, PySem.W.mg_of X G amix, Fmix.binds (ps := ["_law_state", "_law_turn", "_law_many"]) fun _ _ _ _ _ _ us hl => match us, hl with | [_, _, _], _ => rfl⟩
  have Fdraw := fun_mk (st := s_draw) ldraw cdraw kdraw
  have Ddraw : Dfn K mg "_law_draw" "_law_draw" s_draw ["_law_pool_here", "_law_many"] := ⟨fdraw, _, Fdraw, PySem.W.mg_of X G adraw, Fdraw.binds (ps := ["_law_pool_here", "_law_many"]) fun _ _ _ _ _ _ us hl => match us, hl with | [_, _], _ => rfl⟩
  have Fwhole := fun_mk (st := s_whole) lwhole cwhole kwhole
  have Dwhole : Dfn K mg "_law_whole" "_law_whole" s_whole ["_law_actual"] := ⟨fwhole, _, Fwhole, PySem.W.mg_of X G awhole, Fwhole.binds (ps := ["_law_actual"]) fun _ _ _ _ _ _ us hl => match us, hl with | [_], _ => rfl⟩
  have Fclasses := fun_mk (st := s_classes) lclasses cclasses kclasses
  have Dclasses : Dfn K mg "_law_classes" "_law_classes" s_classes ["_law_pool_here", "_law_most"] := ⟨fclasses, _, Fclasses, PySem.W.mg_of X G aclasses, Fclasses.binds (ps := ["_law_pool_here", "_law_most"]) fun _ _ _ _ _ _ us hl => match us, hl with | [_, _], _ => rfl⟩
  have Fground := fun_mk (st := s_ground) lground cground kground
  have Dground : Dfn K mg "_law_ground" "_law_ground" s_ground ["_law_classes_here"] := ⟨fground, _, Fground, PySem.W.mg_of X G aground, Fground.binds (ps := ["_law_classes_here"]) fun _ _ _ _ _ _ us hl => match us, hl with | [_], _ => rfl⟩
  have Fcounts := fun_mk (st := s_counts) lcounts ccounts kcounts
  have Dcounts : Dfn K mg "_law_counts" "_law_counts" s_counts ["_law_classes_here", "_law_total_here"] := ⟨fcounts, _, Fcounts, PySem.W.mg_of X G acounts, Fcounts.binds (ps := ["_law_classes_here", "_law_total_here"]) fun _ _ _ _ _ _ us hl => match us, hl with | [_, _], _ => rfl⟩
  have Ftotal := fun_mk (st := s_total) ltotal ctotal ktotal
  have Dtotal : Dfn K mg "_law_total" "_law_total" s_total ["_law_pool_here"] := ⟨ftotal, _, Ftotal, PySem.W.mg_of X G atotal, Ftotal.binds (ps := ["_law_pool_here"]) fun _ _ _ _ _ _ us hl => match us, hl with | [_], _ => rfl⟩
  have Fnear := fun_mk (st := s_near) lnear cnear knear
  have Dnear : Dfn K mg "_law_near" "_law_near" s_near ["_law_classes_here", "_law_at"] := ⟨fnear, _, Fnear, PySem.W.mg_of X G anear, Fnear.binds (ps := ["_law_classes_here", "_law_at"]) fun _ _ _ _ _ _ us hl => match us, hl with | [_, _], _ => rfl⟩
  have Fright := fun_mk (st := s_right) lright cright kright
  have Dright : Dfn K mg "_law_right" "_law_right" s_right ["_law_classes_here", "_law_total_here", "_law_due"] := ⟨fright, _, Fright, PySem.W.mg_of X G aright, Fright.binds (ps := ["_law_classes_here", "_law_total_here", "_law_due"]) fun _ _ _ _ _ _ us hl => match us, hl with | [_, _, _], _ => rfl⟩
  have Fcheck_worth := fun_mk (st := s_check_worth) lcheck_worth ccheck_worth kcheck_worth
  have Dcheck_worth : Dfn K mg "check_worth" "check_worth" s_check_worth ["worth"] := ⟨fcheck_worth, _, Fcheck_worth, PySem.W.mg_of X G acheck_worth, Fcheck_worth.binds (ps := ["worth"]) fun _ _ _ _ _ _ us hl => match us, hl with | [_], _ => rfl⟩
  have Fcheck_classes := fun_mk (st := s_check_classes) lcheck_classes ccheck_classes kcheck_classes
  have Dcheck_classes : Dfn K mg "_check_classes" "_check_classes" s_check_classes ["classes"] := ⟨fcheck_classes, _, Fcheck_classes, PySem.W.mg_of X G acheck_classes, Fcheck_classes.binds (ps := ["classes"]) fun _ _ _ _ _ _ us hl => match us, hl with | [_], _ => rfl⟩
  have Fcheck_forces := fun_mk (st := s_check_forces) lcheck_forces ccheck_forces kcheck_forces
  have Dcheck_forces : Dfn K mg "check_forces" "check_forces" s_check_forces ["name", "number"] := ⟨fcheck_forces, _, Fcheck_forces, PySem.W.mg_of X G acheck_forces, Fcheck_forces.binds (ps := ["name", "number"]) fun _ _ _ _ _ _ us hl => match us, hl with | [_, _], _ => rfl⟩
  have Flaw := fun_mk (st := s_law) llaw claw klaw
  refine ⟨PySem.W.fnOf "law" "law" (defArgs s_law) (defBody s_law) (defScope s_law) .none kVlaw dclaw pmlaw anlaw cdlaw ctlaw, fun s v => .of_eq rfl, fun base _ _ => ?_⟩
  have cmix := ok_mix (P := l.prog) (w := w) (base := base) B Dmix
  have cdraw := ok_draw B Ddraw cmix
  have cdraw1 := ok_draw1 B Ddraw cmix
  have cpool := ok_pool (P := l.prog) (w := w) (base := base) B Dpool
  have cwhole := ok_whole (P := l.prog) (w := w) (base := base) B Dwhole
  have ccw := ok_cw (P := l.prog) (w := w) (base := base) gMW Dcheck_worth
  have ccf := ok_cf (P := l.prog) (w := w) (base := base) TG CRGR CF40 Dcheck_forces
  have ccc := ok_cc B TG CRGR CF12 gMC ccw Dcheck_classes
  have FG := ok_gr_init B TG lGround_init cGround_init ccc
  have CS : CalM l.prog w K mg base 2 GR "count_spreads" ["self", "total"] (spCS GR) := ⟨_, _, mGround_count_spreads, ok_cs B TG ccf FGround_count_spreads, bGround_count_spreads⟩
  have ccl := ok_cl B cdraw cdraw1 Dclasses
  have cgr := ok_gr B TG MKG FG Dground
  have cct := ok_ct (P := l.prog) (w := w) (base := base) B Dcounts
  have ctot := ok_tot cdraw Dtotal
  have cnear := ok_near (P := l.prog) (w := w) (base := base) B Dnear
  have cri := ok_ri B TG CS cgr cwhole Dright
  exact ok_law B TG Flaw CS cpool cdraw cdraw1 ccl ctot cct cnear cgr cwhole cri
end L

set_option Elab.async false

set_option pp.maxSteps 160
set_option pp.deepTerms false
open PySem PySem.W PyProof.Rows
set_option maxRecDepth 100000 in
set_option maxHeartbeats 0 in
theorem PySem.Challenge.cw_fieldlots_k42_spreads_counted_holds : PySem.Challenge.rw_fieldlots_k42_spreads_counted.Holds := by
  w_on; o_law; k_head; (case hw => w_witness2)
  k_fill
  refine L2.walk_of (l := PySem.Challenge.rw_fieldlots_k42_spreads_counted) (n := 63) (k := 7) (x := "_law_script") (CX := fun _ => L2.CX0) (sp := fun w => L.spLaw _) rfl (by decide) rfl ⟨rfl, by decide, by decide⟩ (fun w h Y => PySem.W.kIn_of Y) ?F (fun _ _ a ns hl _ hS => ⟨a, ns, rfl, hS, hl, fun _ => rfl⟩) (fun _ _ _ _ _ h => h)
  case F =>
    intro w mg fa h KX G hmg
    refine' L.all_mk KX G hmg ?zlen ?zint ?zabs ?zrange ?zisinstance ?zmax ?zmin ?zsum ?zstr ?zbool ?zlist ?zValueError ?aMC ?aMW ?aGR ?pgGR ?hdGR ?poGR ?saGR ?mkGR ?kcGR ?n1GR ?n2GR ?rdGR ?gatGR ?qF12 ?qF40 ?aGround_init ?iGround_init ?lGround_init ?cGround_init ?kGround_init ?aGround_count_spreads ?iGround_count_spreads ?lGround_count_spreads ?cGround_count_spreads ?kGround_count_spreads ?apool ?lpool ?cpool ?kpool ?amix ?lmix ?cmix ?kmix ?adraw ?ldraw ?cdraw ?kdraw ?awhole ?lwhole ?cwhole ?kwhole ?aclasses ?lclasses ?cclasses ?kclasses ?aground ?lground ?cground ?kground ?acounts ?lcounts ?ccounts ?kcounts ?atotal ?ltotal ?ctotal ?ktotal ?anear ?lnear ?cnear ?knear ?aright ?lright ?cright ?kright ?acheck_worth ?lcheck_worth ?ccheck_worth ?kcheck_worth ?acheck_classes ?lcheck_classes ?ccheck_classes ?kcheck_classes ?acheck_forces ?lcheck_forces ?ccheck_forces ?kcheck_forces ?alaw ?llaw ?claw ?klaw
    (case zlen => k_is)
    (case zint => k_is)
    (case zabs => k_is)
    (case zrange => k_is)
    (case zisinstance => k_is)
    (case zmax => k_is)
    (case zmin => k_is)
    (case zsum => k_is)
    (case zstr => k_is)
    (case zbool => k_is)
    (case zlist => k_is)
    (case zValueError => k_is)
    (case aMC => k_is)
    (case aMW => k_is)
    (case aGR => k_is)
    (case pgGR => k_is)
    (case hdGR => k_is)
    (case poGR => k_is)
    (case saGR => k_is)
    (case mkGR => k_is)
    (case kcGR => k_is)
    (case n1GR => k_is)
    (case n2GR => k_is)
    (case rdGR => k_is)
    (case gatGR => k_is)
    (case qF12 => k_is)
    (case qF40 => k_is)
    (case aGround_init => k_is)
    (case iGround_init => k_is)
    (case lGround_init => k_is)
    (case cGround_init => k_is)
    (case kGround_init => k_is)
    (case aGround_count_spreads => k_is)
    (case iGround_count_spreads => k_is)
    (case lGround_count_spreads => k_is)
    (case cGround_count_spreads => k_is)
    (case kGround_count_spreads => k_is)
    (case apool => k_is)
    (case lpool => k_is)
    (case cpool => k_is)
    (case kpool => k_is)
    (case amix => k_is)
    (case lmix => k_is)
    (case cmix => k_is)
    (case kmix => k_is)
    (case adraw => k_is)
    (case ldraw => k_is)
    (case cdraw => k_is)
    (case kdraw => k_is)
    (case awhole => k_is)
    (case lwhole => k_is)
    (case cwhole => k_is)
    (case kwhole => k_is)
    (case aclasses => k_is)
    (case lclasses => k_is)
    (case cclasses => k_is)
    (case kclasses => k_is)
    (case aground => k_is)
    (case lground => k_is)
    (case cground => k_is)
    (case kground => k_is)
    (case acounts => k_is)
    (case lcounts => k_is)
    (case ccounts => k_is)
    (case kcounts => k_is)
    (case atotal => k_is)
    (case ltotal => k_is)
    (case ctotal => k_is)
    (case ktotal => k_is)
    (case anear => k_is)
    (case lnear => k_is)
    (case cnear => k_is)
    (case knear => k_is)
    (case aright => k_is)
    (case lright => k_is)
    (case cright => k_is)
    (case kright => k_is)
    (case acheck_worth => k_is)
    (case lcheck_worth => k_is)
    (case ccheck_worth => k_is)
    (case kcheck_worth => k_is)
    (case acheck_classes => k_is)
    (case lcheck_classes => k_is)
    (case ccheck_classes => k_is)
    (case kcheck_classes => k_is)
    (case acheck_forces => k_is)
    (case lcheck_forces => k_is)
    (case ccheck_forces => k_is)
    (case kcheck_forces => k_is)
    (case alaw => k_is)
    (case llaw => k_is)
    (case claw => k_is)
    (case klaw => k_is)
