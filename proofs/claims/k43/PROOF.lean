import PyProof.Rows.All
import Wide.All
import OpenK.AllK
import Wide.FinOn
import PyProof.NoPylong
import HandS.ForMost
import HandS.ForExc
import HandS.Wide
import HandS.Gcd
import HandS.IsInst
import HandS.ExcIs
import HandS.Property
import HandS.Defaults
import HandS.CallSlots
import HandS.ExcInit
import HandS.ExcField
import PyProof.ZipIter
import HandS.Zip
import HandS.Walk
import KE.GoesMore
import KE.KTupSum
import HandS.TupAny
import HandS.SortKw
import HandS.Style
import KE.GoesZip
import HandS.TryMany
import KE.KOpsOwn
import HandS.ClsMeth
import HandS.Evl
import KE.KCallOwn
import KE.KFmtOwn
import HandS.FStr
import PyProof.Rows.Range3
import HandS.More
import HandS.Star
import PySem.Challenge.RW_fieldlots_k43_dealt_gain
set_option Elab.async false
set_option linter.all false
set_option maxRecDepth 100000
namespace Fl
open PySem PySem.Spec PyProof.Rows L2
/-! ### calls by a promise that names no address -/
structure Cal (P : Program) (w : World) (K : PySem.W.Frag) (mg : Str → Option Value) (base : Heap) (k : Nat) (x : Str) (ps : List Str) (sp : Sp) : Prop where
  ex : ∃ (f : Addr) (fd : FuncData), FnOk P w K mg base CX0 k f fd ps sp ∧ mg x = some (.ref f) ∧ PySem.W.keepIn K (.ref f) = true ∧ Binds K fd ps []
structure Dfn (K : PySem.W.Frag) (mg : Str → Option Value) (x qual : Str) (st : Stmt) (ps : List Str) : Prop where
  ex : ∃ (f : Addr) (fd : FuncData), Fun K x qual st f fd ∧ mg x = some (.ref f) ∧ Binds K fd ps []
section
variable {P : Program} {w : World} {K : PySem.W.Frag} {mg : Str → Option Value} {base : Heap}
theorem Dfn.cal {x qual : Str} {st : Stmt} {N ps : List Str} {k : Nat} {sp : Sp} (D : Dfn K mg x qual st ps) (S : FnScope N ps (defScope st)) (len : ∀ vs H Q E, sp vs H Q E → vs.length = ps.length)
    (hbody : ∀ (f : Addr) (cdv : Value) (A : Around) (outer : List Env) (s : Shared) (H : Hp) (vs : List V) (Q : VK) (E : XK), Room k (A.deeper (envOfC qual (defScope st) s.heap.objs.size f cdv)) → sp vs H Q E →
      ∃ t, PSs (cxOf CX0 P w K mg base N qual (defScope st) f cdv A outer s H E).nox (defBody st) t ∧ t { nx := fun _ H' => Q .non H', rt := Q } (start N vs) H) : Cal P w K mg base (k + 1) x ps sp := by
  obtain ⟨f, fd, F, m, b⟩ := D.ex
  exact ⟨f, fd, F.ok S len (hbody f), m, F.kp, b⟩
theorem Cal.mono {j k : Nat} {x : Str} {ps : List Str} {sp : Sp} (C : Cal P w K mg base j x ps sp) (h : j ≤ k) : Cal P w K mg base k x ps sp := by
  obtain ⟨f, fd, F, m, kp, b⟩ := C.ex
  exact ⟨f, fd, F.mono h, m, kp, b⟩
end
theorem pe_cal {X : Cx} {k : Nat} {x : Str} {ps : List Str} {sp : Sp} {p pos : Pos} {e : Expr} {es : List Expr} {t : TA} (C : Cal X.prog X.w X.K X.mg X.base k x ps sp) (hr : Room k X.A) (ha : PA X (e :: es) t) (hg : Gl X x := by rfl)
    (hdb : (x == ("__debug__" : Str)) = false := by decide) (he : starEach (e :: es) X.env = (false, eval e X.env) :: starEach es X.env := by rfl) (hpl : (backTo pos (starEach es X.env)).any (·.1) = false := by rfl) :
    PE X (.Call (.Name x p) (e :: es) [] pos) (tCall sp [] E0 t) := by
  obtain ⟨f, fd, F, m, kp, b⟩ := C.ex
  exact pe_call F hr hg m kp b .nil pass0 ha hdb he hpl
/-- the built-in names that the text leaves alone -/
structure Blt (mg : Str → Option Value) : Prop where
  len : mg "len" = none
  int : mg "int" = none
  abs : mg "abs" = none
  range : mg "range" = none
  isinstance : mg "isinstance" = none
  max : mg "max" = none
  min : mg "min" = none
  sum : mg "sum" = none
  str : mg "str" = none
  bool : mg "bool" = none
  list : mg "list" = none
  ve : mg "ValueError" = none
/-! ### great numbers -/
def CDivA (_ j : Int) : Prop := j ≠ 0 ∧ j.natAbs.log2 < 9000
theorem op_fdivA {X : Cx} : OpR X (binaryOp .FloorDiv) (rI CDivA fun i j => .int (i.fdiv j)) := opI fun i j _ _ _ _ _ hc q => floordiv_int hc.1 q (.inl (PyProof.noPylong_of_log2 hc.2))
theorem divA {i j : Int} {b : Nat} (h : j ≠ 0) (hb : j.natAbs < 2 ^ b) (h0 : 0 < b) (h9 : b ≤ 9000) : CDivA i j := ⟨h, Nat.lt_of_lt_of_le (PySem.Flt.log2_lt_of h0 hb) h9⟩
/-! ### heaps -/
/-- all that was tracked is as it was, but for p -/
def Keeps (H H' : Hp) (p : Addr) : Prop := ∀ b o, H b = some o → b ≠ p → H' b = some o
theorem Keeps.refl (H : Hp) (p : Addr) : Keeps H H p := fun _ _ h _ => h
theorem Keeps.trans {H H1 H2 : Hp} {p : Addr} (a : Keeps H H1 p) (b : Keeps H1 H2 p) : Keeps H H2 p := fun c o h n => b c o (a c o h n) n
theorem Keeps.upd {H : Hp} {p : Addr} {o : HO} : Keeps H (upd H p o) p := fun b u h n => by rw [upd_ne n]; exact h
theorem same_keeps {H H' : Hp} {p : Addr} (h : Same H H') : Keeps H H' p := fun b o e _ => h b o e
theorem same_upd {H : Hp} {p : Addr} {o : HO} (h : H p = none) : Same H (upd H p o) := fun b u e => by rw [upd_ne (ne_of_none e h)]; exact e
theorem Keeps.free {H H' : Hp} {p l : Addr} (k : Keeps H H' p) (h : H' l = none) (n : l ≠ p) : H l = none := by
  cases q : H l with
  | none => rfl
  | some o =>
    rw [k l o q n] at h
    cases h
theorem ints_at {ns : List Int} {j : Nat} (h : j < ns.length) : (ns.map V.int)[j]? = some (V.int ns[j]) := by
  rw [List.getElem?_map, List.getElem?_eq_getElem h]
  rfl
theorem int_of_map {ns : List Int} {i : Nat} {y : V} (h : (ns.map V.int)[i]? = some y) : ∃ z, ns[i]? = some z ∧ y = V.int z := by
  rw [List.getElem?_map] at h
  cases e : ns[i]? with
  | none => rw [e] at h; cases h
  | some z => rw [e] at h; exact ⟨z, rfl, (Option.some.inj h).symm⟩
/-- where the pool stands: its own list, the script's numbers -/
structure Pla where
  p : Addr
  q : Addr
instance : Coe Pla Addr := ⟨Pla.p⟩
/-- the pool: the script's numbers, how many are taken, what is left of one, a state, the draws -/
def Pool (H : Hp) (p : Pla) : Prop := ∃ (ns : List Int) (i b c d : Int), H p = some (.lst [.ref p.q, .int i, .int b, .int c, .int d]) ∧ H p.q = some (.lst (ns.map V.int)) ∧ 0 ≤ i ∧ p.q ≠ p
theorem Pool.same {H H' : Hp} {p : Pla} (h : Pool H p) (s : Same H H') : Pool H' p := by
  obtain ⟨ns, i, b, c, d, h1, h2, h3, h4⟩ := h
  exact ⟨ns, i, b, c, d, s _ _ h1, s _ _ h2, h3, h4⟩
theorem Pool.upd {H : Hp} {p : Pla} {x : Addr} {o : HO} (h : Pool H p) (hx : H x = none) : Pool (upd H x o) p := h.same (same_upd hx)
theorem Pool.store {H : Hp} {p : Pla} {x : Addr} {o : HO} (h : Pool H p) (hp : x ≠ p) (hq : x ≠ p.q) : Pool (L2.upd H x o) p := by
  obtain ⟨ns, i, b, c, d, h1, h2, h3, h4⟩ := h
  exact ⟨ns, i, b, c, d, by rw [upd_ne (Ne.symm hp)]; exact h1, by rw [upd_ne (Ne.symm hq)]; exact h2, h3, h4⟩
theorem Pool.apart {H : Hp} {p : Pla} {x : Addr} (h : Pool H p) (hx : H x = none) : x ≠ p ∧ x ≠ p.q := by
  obtain ⟨ns, i, b, c, d, h1, h2, _⟩ := h
  exact ⟨Ne.symm (ne_of_none h1 hx), Ne.symm (ne_of_none h2 hx)⟩
/-! ### tests -/
theorem ifD {p : Prop} [Decidable p] {A B : Prop} (h1 : p → A) (h2 : ¬ p → B) : if decide p = true then A else B := by
  by_cases h : p
  · rw [decide_eq_true h]; exact iteT (h1 h)
  · rw [decide_eq_false h]; exact iteF (h2 h)
theorem ifE {a b : Int} {A B : Prop} (h1 : a = b → A) (h2 : a ≠ b → B) : if decide (V.int a = V.int b) = true then A else B :=
  ifD (fun h => h1 (V.int.inj h)) fun h => h2 fun e => h (by rw [e])
theorem ifNE {a b : Int} {A B : Prop} (h1 : a ≠ b → A) (h2 : a = b → B) : if (!decide (V.int a = V.int b)) = true then A else B := by
  by_cases h : a = b
  · rw [decide_eq_true (show V.int a = V.int b by rw [h])]; exact iteF (h2 h)
  · rw [decide_eq_false (show ¬ V.int a = V.int b from fun e => h (V.int.inj e))]; exact iteT (h1 h)
theorem ifN {p : Prop} [Decidable p] {A B : Prop} (h1 : ¬ p → A) (h2 : p → B) : if (!decide p) = true then A else B := by
  by_cases h : p
  · rw [decide_eq_true h]; exact iteF (h2 h)
  · rw [decide_eq_false h]; exact iteT (h1 h)
theorem ifB {c : Bool} {A B : Prop} (h1 : c = true → A) (h2 : c = false → B) : if c = true then A else B := by
  cases c
  · exact iteF (h2 rfl)
  · exact iteT (h1 rfl)
theorem fm (a : Int) {b : Int} (h : 0 < b) : 0 ≤ a.fmod b ∧ a.fmod b < b := ⟨Int.fmod_nonneg_of_pos a h, Int.fmod_lt_of_pos a h⟩
/-! ### Euclid's steps -/
def fibp : Nat → Nat × Nat
  | 0 => (0, 1)
  | n + 1 => match fibp n with | (a, b) => (b, a + b)
def Eu : Nat → Nat → Nat → Prop
  | 0, _, y => y = 0
  | n + 1, x, y => y = 0 ∨ Eu n y (x % y)
theorem eu_mono : ∀ {n x y : Nat}, Eu n x y → Eu (n + 1) x y
  | 0, _, _, h => .inl h
  | _ + 1, _, _, .inl h => .inl h
  | n + 1, _, _, .inr h => .inr (eu_mono (n := n) h)
theorem fibp_step (n : Nat) : (fibp (n + 1)).1 = (fibp n).2 ∧ (fibp (n + 1)).2 = (fibp n).1 + (fibp n).2 := by
  show (match fibp n with | (a, b) => (b, a + b)).1 = _ ∧ (match fibp n with | (a, b) => (b, a + b)).2 = _
  cases fibp n
  exact ⟨rfl, rfl⟩
theorem eu_fib : ∀ (n x y : Nat), (y < (fibp n).2 → Eu n x y) ∧ (y < (fibp (n + 1)).2 → Eu (n + 1) x y) := by
  intro n
  induction n with
  | zero =>
    intro x y
    refine ⟨fun h => ?_, fun h => .inl ?_⟩
    · have h' : y < 1 := h
      show y = 0
      omega
    · have h' : y < 1 := h
      omega
  | succ n ih =>
    intro x y
    refine ⟨(ih x y).2, fun h => ?_⟩
    rw [(fibp_step (n + 1)).2, (fibp_step n).1] at h
    by_cases hy : y = 0
    · exact .inl hy
    refine .inr ?_
    have hr : x % y < y := Nat.mod_lt _ (by omega)
    by_cases hc : x % y < (fibp (n + 1)).2
    · exact (ih y (x % y)).2 hc
    · by_cases h0 : x % y = 0
      · exact .inl h0
      refine .inr ?_
      refine (ih (x % y) (y % (x % y))).1 ?_
      have e : y % (x % y) ≤ y - x % y := by
        rw [Nat.mod_eq_sub_mod (Nat.le_of_lt hr)]
        exact Nat.mod_le _ _
      omega
theorem fib_big : 10 ^ 124 ≤ (fibp 599).2 := by decide +kernel
theorem eu_all {x y : Nat} (h : y < 10 ^ 124) : Eu 599 x y := (eu_fib 599 x y).1 (Nat.lt_of_lt_of_le h fib_big)
end Fl

set_option Elab.async false
set_option linter.all false
set_option maxRecDepth 100000
set_option maxHeartbeats 4000000
namespace Fl
section
open PySem PySem.W PySem.Spec PySem.Calls PyProof.Rows
variable {prog : Program} {w : World} {A : Around} {E : Value → Shared → Prop} {s : Shared} {K : Frag} {x D : Addr} {ox : Obj} {od : Option Obj}
theorem findObj_dataE {C : Addr} {name : Str} {a g : Value} (hc : (clsIn K C).isSome = true) (ha : findIn K (.ref C) name = some (some a)) (hg : specialIn K a "__get__" = some (some g)) (ht : takesIn K a = some true) : findObj K C od name = some (.bind g a) := by
  obtain ⟨cd, hc⟩ := Option.isSome_iff_exists.mp hc
  unfold findObj
  rw [hc, Option.bind_some, ha, Option.bind_some]
  simp [hg, ht]
/-- __class__ of an exception of an own class, with or without a dict of its own -/
theorem kin_classX {Q : Option Value → Shared → Prop} (gAt : findIn K (.ref D) "__getattribute__" = some (some (.builtin "BaseException.__getattribute__"))) (gGt : findIn K (.ref D) "__getattr__" = some none) (sBe : subIn K (.ref D) (.type "BaseException") = some true)
    (dDc : hasDictIn K D = true) (ha : findIn K (.ref D) "__class__" = some (some (.builtin "object.__class__")))
    (hn : specialIn K (.builtin "object.__class__") "__get__" = some (some (.builtin "getset_descriptor.__get__"))) (tTk : takesIn K (.builtin "object.__class__") = some true) (hm : mroIn K D (.type "object") = some true)
    (X : K.In s.heap) (I : InstAt s.heap x ox D od) (h : Q (some (.ref D)) { s with toks := s.toks + 1 }) : wpAny (model prog w) A (getAttr? (.ref x) "__class__") Q E s := by
  have fnd : findObj K D od "__class__" = some (.bind (.builtin "getset_descriptor.__get__") (.builtin "object.__class__")) := findObj_dataE (by obtain ⟨cd, hc, _⟩ := any_some dDc; rw [hc]; rfl) ha hn tTk
  obtain ⟨heap0, g, d, t, os⟩ := s
  have lkT := I.type (M := model prog w)
  have lkG := looks_findIn (M := model prog w) X gAt
  have lkA := looks_findIn (M := model prog w) X gGt
  have lkF := looks_find (M := model prog w) X I fnd
  have isBe : Looks (model prog w) heap0 (isInstance (.ref x) (.type "BaseException")) true := lkT.andThen (looks_subIn X sBe)
  have nb0 : (false && onTheHeap (Value.builtin "BaseException.__getattribute__")) = false := rfl
  have nb2 : (Value.builtin "BaseException.__getattribute__" == Value.builtin "object.__getattribute__") = false := by decide +kernel
  have nb1 : (onTheHeap (Value.ref D) && Value.builtin "BaseException.__getattribute__" == Value.builtin "object.__getattribute__") = false := by rw [nb2]; rfl
  unfold getAttr? getAttrBy? getAttrBy
  refine wpAny_bind (wpAny_mkText (wpAny_bind (wpAny_attempt (wpAny_holding (wpAny_bind (lkT.at (wpAny_bind (lkG.at ?_))))))))
  show wpAny _ _ (if (onTheHeap (Value.ref D) && Value.builtin "BaseException.__getattribute__" == Value.builtin "object.__getattribute__") = true then _ else _) _ _ _
  rw [nb1, if_neg Bool.false_ne_true]
  unfold getAttrByItsOwn hookBefore
  refine wpAny_bind ?_
  rw [if_pos (show onTheHeap (Value.ref D) = true from rfl)]
  refine lkA.at ?_
  refine wpAny_bind (wpAny_attempt (wpAny_holding ?_))
  unfold callGetattribute
  rw [nb0, if_neg Bool.false_ne_true]
  unfold boundAndCalled
  rw [PySem.F.excAttr_ValueError.ga.bind (.ref x)]
  refine wpAny_bind (wpAny_pure ?_)
  show wpAny _ _ (call (.builtin "BaseException.__getattribute__") [.ref x, .str "__class__" t]) _ _ _
  refine wpAny_call (codeAny_call_builtin PySem.F.excAttr_ValueError.ga.plain PySem.F.entry_bexc_ga ?_)
  refine @check_slot (model prog w) _ _ ⟨heap0, g, d, t + 1, os⟩ "BaseException.__getattribute__" "BaseException" "__getattribute__" (.ref x) [.str "__class__" t] [] _ (by decide +kernel) (by decide +kernel) isBe (PySem.F.args_bexc_ga (.ref x) (.str "__class__" t)) ?_
  unfold Builtin.«object.__getattribute__»
  refine wpAny_bind (wpAny_of_eq (a := ((Value.ref x : Value), [Value.str "__class__" t])) (by first | rfl | (simp only [slotArgs]; rfl)) ?_)
  refine wpAny_bind (wpAny_pure (wpAny_bind (lkT.at (wpAny_bind (lkF.at ?_)))))
  show wpAny _ _ (holding [Value.builtin "object.__class__"] (call (.builtin "getset_descriptor.__get__") [.builtin "object.__class__", .ref x, .ref D]) >>= ret) _ _ _
  refine wpAny_bind (wpAny_holding (wpAny_call (class_get (s := ⟨heap0, g, d, t + 1, os⟩) (ox := ox) (od := od) X I hm ?_)))
  refine wpAny_pure ?_
  show wpAny _ _ (handedOut (.ref D)) _ _ _
  rw [handedOut_of (v := .ref D) rfl]
  first
    | exact wpAny_pure (wpAny_pure h)
    | exact wpAny_pure h
    | exact wpAny_pure (wpAny_bind (wpAny_pure (wpAny_pure h)))
theorem kitx_excX (gAt : findIn K (.ref D) "__getattribute__" = some (some (.builtin "BaseException.__getattribute__"))) (gGt : findIn K (.ref D) "__getattr__" = some none) (sBe : subIn K (.ref D) (.type "BaseException") = some true) (dDc : hasDictIn K D = true) (ha : findIn K (.ref D) "__class__" = some (some (.builtin "object.__class__")))
    (hn : specialIn K (.builtin "object.__class__") "__get__" = some (some (.builtin "getset_descriptor.__get__"))) (tTk : takesIn K (.builtin "object.__class__") = some true) (hm : mroIn K D (.type "object") = some true) :
    KitX K (.ref x) (.ref D) (fun h => InstAt h x ox D od) where
  ty := fun _ _ _ I => I.type
  it := fun _ _ X _ => by
    obtain ⟨cdE, hcE, _⟩ := any_some dDc
    unfold clsIn at hcE
    split at hcE
    · rename_i c' d' cd' sl' ho
      intro A' Q' E' s' k q
      unfold isType loadHead
      exact wpAny_bind (wpAny_loadPart (k _ _ (X _ _ ho)) (wpAny_pure q))
    · cases hcE
  ne := fun h tp dd its n sl X htp => by
    obtain ⟨cdE, hcE, _⟩ := any_some dDc
    refine Bool.eq_false_iff.mpr fun q => ?_
    have e : D = tp := Value.ref.inj (beq_iff_eq.mp q)
    subst e
    unfold clsIn at hcE
    split at hcE
    · rename_i c' d' cd' sl' ho
      have z := (X _ _ ho).symm.trans htp
      cases z
    · cases hcE
  ca := fun X I k => kin_classX gAt gGt sBe dDc ha hn tTk hm X I k
end
section
open PySem PySem.Spec PyProof.Rows L2
/-- the caught error at a: of the class D, its dict d -/
def Err (H : Hp) (d : Option Addr) : Prop := d = none ∨ ∃ dd fs, d = some dd ∧ H dd = some (.xd fs)
theorem exc_inst {X : Cx} {a D : Addr} {oe : Obj} {pn pins : List (Addr × Obj)} {d : Option Addr} {σ : L2.St} {H : Hp} {s : Shared} (hz : Zc (.ref D) d oe) (hf : ∃ vs, oe.data = .fields vs) (I : Inv (X.suite a ((a, oe) :: pn)) pins σ H s) (he : Err H d) :
    ∃ od, PySem.W.InstAt s.heap a oe D od := by
  obtain ⟨hget, _⟩ := I.pin (a, oe) (List.mem_append.mpr (.inl List.mem_cons_self))
  obtain ⟨vs, hv⟩ := hf
  obtain ⟨oc, oda, odt, osl⟩ := oe
  obtain ⟨h1, h2⟩ := hz
  dsimp only at h1 h2 hv
  subst h1 h2 hv
  rcases he with rfl | ⟨dd, fs, rfl, hd⟩
  · exact ⟨none, hget, rfl, rfl, trivial⟩
  · have hx : ObjOk X.prog X.w H s.heap dd (.xd fs) := I.hok dd _ hd
    obtain ⟨mA, hns, hr⟩ := hx
    obtain ⟨od, ho, hl⟩ := lookIn_ns hns
    exact ⟨some od, hget, rfl, rfl, ho⟩
def rIsX (K : PySem.W.Frag) (D a : Addr) (cls : Value) (d : Option Addr) : List V → Hp → VK → Prop := fun xs H Q => cls = .ref D ∧ Err H d ∧ ∃ (c : V) (cv : Value) (b : Bool), xs = [.ref a, c] ∧ ClsV c cv ∧ PySem.W.kitOne K (.ref D) cv = some b ∧ Q (.bl b) H
def rIsXT (K : PySem.W.Frag) (D a : Addr) (cls : Value) (d : Option Addr) : List V → Hp → VK → Prop := fun xs H Q => cls = .ref D ∧ Err H d ∧ ∃ (tp : Addr) (cs : List V) (us : List Value) (b : Bool), xs = [.ref a, .ref tp] ∧ H tp = some (.tup cs) ∧ Paired ClsV cs us ∧ PySem.W.kitAny K (.ref D) us = some b ∧ Q (.bl b) H
theorem call_isX {X : Cx} {a D : Addr} {cls : Value} {d : Option Addr} {oe : Obj} {pn : List (Addr × Obj)} (C : ExcC X.K D) (hz : Zc cls d oe) (hf : ∃ vs, oe.data = .fields vs) : CallR (X.suite a ((a, oe) :: pn)) (.builtin "isinstance") (rIsX X.K D a cls d) := by
  intro pins s σ H xs us Q I r h
  obtain ⟨rfl, he, c, cv, b, rfl, hcv, e, q⟩ := h
  obtain ⟨od, J⟩ := exc_inst hz hf I he
  obtain ⟨u1, u2, rfl, r1, r2⟩ := vals2 r
  have ec := hcv.eq r2
  subst ec
  cases (show u1 = Value.ref a from r1)
  exact PySem.W.kia_one (kitx_excX C.hg C.hk C.hs C.hd C.ha C.hn C.ht C.hm) I.kIn J e (fun z => nomatch z) fun tk => ⟨.bl b, H, I.kept (t' := tk) fun _ _ z => z, rfl, q⟩
theorem call_isXT {X : Cx} {a D : Addr} {cls : Value} {d : Option Addr} {oe : Obj} {pn : List (Addr × Obj)} (C : ExcC X.K D) (hz : Zc cls d oe) (hf : ∃ vs, oe.data = .fields vs) : CallR (X.suite a ((a, oe) :: pn)) (.builtin "isinstance") (rIsXT X.K D a cls d) := by
  intro pins s σ H xs us Q I r h
  obtain ⟨rfl, he, tp, cs, ws, b, rfl, hT, k, e, q⟩ := h
  obtain ⟨od, J⟩ := exc_inst hz hf I he
  obtain ⟨u1, u2, rfl, r1, r2⟩ := vals2 r
  cases (show u1 = Value.ref a from r1)
  cases (show u2 = Value.ref tp from r2)
  obtain ⟨_, its, rv, o, h1, h2, n, h3⟩ := (show ObjOk X.prog X.w H s.heap tp (.tup cs) from I.hok tp _ hT)
  have e3 := ClsV.all k rv
  subst e3
  obtain ⟨oc, od', dt, sl⟩ := o
  simp only at h2 h3
  subst h2 h3
  exact PySem.W.kia_tup (kitx_excX C.hg C.hk C.hs C.hd C.ha C.hn C.ht C.hm) I.kIn J h1 e (fun z => nomatch z) fun tk => ⟨.bl b, H, I.kept (t' := tk) fun _ _ z => z, rfl, q⟩
/-! ### making an instance where what is raised is wished for at the caller's slots -/
def tMakeS (C : Addr) (sp : Sp) (dvs : List V) (E : L2.St → XK) (t : TA) : TE := fun σ H Q => t σ H fun vs H1 => ∀ x dx, H1 x = none → H1 dx = none → dx ≠ x →
  sp (.ref x :: (vs ++ dvs)) (upd (upd H1 dx (.own x)) x (.ins C dx [])) (fun v H2 => v = .non ∧ Q (.ref x) H2) (E σ)
section
variable {X : Cx} {CX : CXT} {k : Nat} {f C : Addr} {fd : FuncData} {ps : List Str} {sp : Sp} {dvs : List V} {ds : List Value} {E : L2.St → XK} {x m : Str} {p pos apos : Pos} {e o : Expr} {es : List Expr} {ta : TE} {t : TA}
theorem run_makeS {pins : List (Addr × Obj)} {σ : L2.St} {H : Hp} {s : Shared} {Q : VK} {us : List Value} {vs : List V} (M : Mk X.K C f) (F : FnOk X.prog X.w X.K X.mg X.base CX k f fd ps sp) (hr : Room (k + 1) X.A) (hb : Binds X.K fd ps ds) (hd : Vals dvs ds)
    (hx : PassesAt CX X σ (E σ)) (I : Inv X pins σ H s) (r : Vals vs us)
    (h : ∀ x dx, H x = none → H dx = none → dx ≠ x → sp (.ref x :: (vs ++ dvs)) (upd (upd H dx (.own x)) x (.ins C dx [])) (fun v H2 => v = .non ∧ Q (.ref x) H2) (E σ)) :
    wpAny (model X.prog X.w) X.A (call (.ref C) us) (EP X pins σ Q) X.xe s := by
  have hnew := h (s.heap.objs.size + 1) s.heap.objs.size (I.hok.fresh (Nat.le_succ _)) (I.hok.fresh (Nat.le_refl _)) (Nat.ne_of_lt (Nat.lt_succ_self _))
  have Inew := Inv.made (C := C) I
  have rAll : Vals (V.ref (s.heap.objs.size + 1) :: (vs ++ dvs)) (Value.ref (s.heap.objs.size + 1) :: (us ++ ds)) := .cons rfl (r.append hd)
  have hlen : (Value.ref (s.heap.objs.size + 1) :: us ++ ds).length = ps.length := by
    have e := rAll.length
    rw [F.len _ _ _ _ hnew] at e
    exact e.symm
  refine wpAny_call (make_map (f := f) I.kIn M.makes M.init (beq_iff_eq.mp M.fn) (codeAny_mono (F.run _ X.stack _ _ ⟨Value.ref (s.heap.objs.size + 1) :: us, []⟩ (Value.ref (s.heap.objs.size + 1) :: (us ++ ds)) _ _ (E σ) (hr.make C us [])
    (Inew.env0.make C us []) (hb _ (Value.ref (s.heap.objs.size + 1) :: us) Inew.kIn hlen) rAll hnew) fun r s' hend => ?_))
  cases r with
  | error e => exact hx pins _ _ e s' Inew hend
  | ok fl =>
    cases fl with
    | ret u =>
      obtain ⟨v, H', Iend, rVal, ev, qEnd⟩ := Inew.after hend
      subst ev
      exact ⟨rVal, ⟨V.ref (s.heap.objs.size + 1), H', Iend, rfl, qEnd⟩⟩
    | next => exact False.elim hend
    | brk => exact False.elim hend
    | cont => exact False.elim hend
theorem pe_makeS (M : Mk X.K C f) (F : FnOk X.prog X.w X.K X.mg X.base CX k f fd ps sp) (hr : Room (k + 1) X.A) (hg : Gl X x) (hm : X.mg x = some (.ref C)) (hb : Binds X.K fd ps ds) (hd : Vals dvs ds) (hx : ∀ σ, PassesAt CX X σ (E σ))
    (ha : PA X (e :: es) t) (hdb : (x == ("__debug__" : Str)) = false := by decide) (he : starEach (e :: es) X.env = (false, eval e X.env) :: starEach es X.env := by rfl) (hpl : (backTo pos (starEach es X.env)).any (·.1) = false := by rfl) :
    PE X (.Call (.Name x p) (e :: es) [] pos) (tMakeS C sp dvs E t) := by
  refine ⟨fun pins s σ H Q I h => ?_⟩
  refine wpAny_Call_Name_kw (ld_glob I hg hm ?_ hdb)
  refine PySem.W.callWith_K (h₀ := X.base) I.ok.mod.kin M.kp (thn (ha.run pos pins s σ H _ I h) fun us s1 ⟨vs, H1, I1, r, q⟩ => ⟨I1.kIn, ?_⟩) he hpl
  exact run_makeS M F hr hb hd (hx σ) I1 r q
end
/-- a class that is called: C(..), the promise of its __init__; dvs the defaults that fill up -/
structure CalC (P : Program) (w : World) (K : PySem.W.Frag) (mg : Str → Option Value) (base : Heap) (CX : CXT) (k : Nat) (C : Addr) (x : Str) (ps : List Str) (dvs : List V) (sp : Sp) : Prop where
  ex : ∃ (f : Addr) (fd : FuncData) (ds : List Value), Mk K C f ∧ FnOk P w K mg base CX k f fd ps sp ∧ mg x = some (.ref C) ∧ Binds K fd ps ds ∧ Vals dvs ds
theorem pe_mk {X : Cx} {k : Nat} {C : Addr} {x : Str} {ps : List Str} {dvs : List V} {sp : Sp} {p pos : Pos} {e : Expr} {es : List Expr} {t : TA} (M : CalC X.prog X.w X.K X.mg X.base (L2.CX X.prog X.w) k C x ps dvs sp) (hr : Room (k + 1) X.A) (ha : PA X (e :: es) t) (hg : Gl X x := by rfl)
    (hdb : (x == ("__debug__" : Str)) = false := by decide) (he : starEach (e :: es) X.env = (false, eval e X.env) :: starEach es X.env := by rfl) (hpl : (backTo pos (starEach es X.env)).any (·.1) = false := by rfl) :
    PE X (.Call (.Name x p) (e :: es) [] pos) (tMake C sp dvs E0 t) := by
  obtain ⟨f, fd, ds, M, F, m, b, d⟩ := M.ex
  exact pe_make M F hr hg m b d passL ha hdb he hpl
theorem pe_mkS {X : Cx} {W : WX} {k : Nat} {C : Addr} {x : Str} {ps : List Str} {dvs : List V} {sp : Sp} {p pos : Pos} {e : Expr} {es : List Expr} {t : TA} (M : CalC X.prog X.w X.K X.mg X.base (L2.CX X.prog X.w) k C x ps dvs sp) (tk : Takes X W) (hr : Room (k + 1) X.A) (ha : PA X (e :: es) t) (hg : Gl X x := by rfl)
    (hdb : (x == ("__debug__" : Str)) = false := by decide) (he : starEach (e :: es) X.env = (false, eval e X.env) :: starEach es X.env := by rfl) (hpl : (backTo pos (starEach es X.env)).any (·.1) = false := by rfl) :
    PE X (.Call (.Name x p) (e :: es) [] pos) (tMakeS C sp dvs (WE W) t) := by
  obtain ⟨f, fd, ds, M, F, m, b, d⟩ := M.ex
  exact pe_makeS M F hr hg m b d (fun σ => passAt tk σ) ha hdb he hpl
/-! ### a def that may raise -/
structure CalX (P : Program) (w : World) (K : PySem.W.Frag) (mg : Str → Option Value) (base : Heap) (k : Nat) (x : Str) (ps : List Str) (sp : Sp) : Prop where
  ex : ∃ (f : Addr) (fd : FuncData), FnOk P w K mg base (L2.CX P w) k f fd ps sp ∧ mg x = some (.ref f) ∧ PySem.W.keepIn K (.ref f) = true ∧ Binds K fd ps []
theorem Dfn.calX {P : Program} {w : World} {K : PySem.W.Frag} {mg : Str → Option Value} {base : Heap} {x qual : Str} {st : Stmt} {N ps : List Str} {k : Nat} {sp : Sp} (D : Dfn K mg x qual st ps) (S : FnScope N ps (defScope st)) (len : ∀ vs H Q E, sp vs H Q E → vs.length = ps.length)
    (hbody : ∀ (f : Addr) (cdv : Value) (A : Around) (outer : List Env) (s : Shared) (H : Hp) (vs : List V) (Q : VK) (E : XK), Room k (A.deeper (envOfC qual (defScope st) s.heap.objs.size f cdv)) → sp vs H Q E →
      ∃ t, PSs (cxOf (L2.CX P w) P w K mg base N qual (defScope st) f cdv A outer s H E) (defBody st) t ∧ t { nx := fun _ H' => Q .non H', rt := Q } (start N vs) H) : CalX P w K mg base (k + 1) x ps sp := by
  obtain ⟨f, fd, F, m, b⟩ := D.ex
  exact ⟨f, fd, F.okX S len (hbody f), m, F.kp, b⟩
theorem pe_calX {X : Cx} {k : Nat} {x : Str} {ps : List Str} {sp : Sp} {p pos : Pos} {e : Expr} {es : List Expr} {t : TA} (C : CalX X.prog X.w X.K X.mg X.base k x ps sp) (hr : Room k X.A) (ha : PA X (e :: es) t) (hg : Gl X x := by rfl)
    (hdb : (x == ("__debug__" : Str)) = false := by decide) (he : starEach (e :: es) X.env = (false, eval e X.env) :: starEach es X.env := by rfl) (hpl : (backTo pos (starEach es X.env)).any (·.1) = false := by rfl) :
    PE X (.Call (.Name x p) (e :: es) [] pos) (tCall sp [] E0 t) := by
  obtain ⟨f, fd, F, m, kp, b⟩ := C.ex
  exact pe_call F hr hg m kp b .nil passL ha hdb he hpl
theorem pe_calS {X : Cx} {W : WX} {k : Nat} {x : Str} {ps : List Str} {sp : Sp} {p pos : Pos} {e : Expr} {es : List Expr} {t : TA} (C : CalX X.prog X.w X.K X.mg X.base k x ps sp) (tk : Takes X W) (hr : Room k X.A) (ha : PA X (e :: es) t) (hg : Gl X x := by rfl)
    (hdb : (x == ("__debug__" : Str)) = false := by decide) (he : starEach (e :: es) X.env = (false, eval e X.env) :: starEach es X.env := by rfl) (hpl : (backTo pos (starEach es X.env)).any (·.1) = false := by rfl) :
    PE X (.Call (.Name x p) (e :: es) [] pos) (tCallS sp (WE W) t) := by
  obtain ⟨f, fd, F, m, kp, b⟩ := C.ex
  exact pe_callS F hr hg m kp b (fun σ => passAt tk σ) ha hdb he hpl
theorem exm_self {K : PySem.W.Frag} {S : Addr} (h1 : PySem.W.subIn K (.ref S) (.type "BaseException") = some true) (h2 : PySem.W.hasDictIn K S = true) (h3 : PySem.W.typeIn K (.ref S) = some (.type "type")) (h4 : PySem.W.subIn K (.ref S) (.ref S) = some true) :
    PySem.W.exmOne K (.ref S) (.ref S) = some true := PySem.W.exm_ref h1 h2 h3 h4
end
end Fl

set_option Elab.async false
set_option linter.all false
set_option maxRecDepth 100000
set_option maxHeartbeats 4000000
namespace Fl
open PySem PySem.Spec PyProof.Rows L2
/-! ### lowest terms -/
def sh (t u : Int) : Int := if u < 0 then -(Nat.gcd t.natAbs u.natAbs : Nat) else (Nat.gcd t.natAbs u.natAbs : Nat)
def nT (t u : Int) : Int := t.fdiv (sh t u)
def nU (t u : Int) : Int := u.fdiv (sh t u)
theorem sh_abs (t u : Int) : (sh t u).natAbs = Nat.gcd t.natAbs u.natAbs := by
  unfold sh
  split <;> omega
theorem sh_ne {t u : Int} (h : u ≠ 0) : sh t u ≠ 0 := by
  have h1 : 0 < Nat.gcd t.natAbs u.natAbs := Nat.gcd_pos_of_pos_right _ (by omega)
  have := sh_abs t u
  omega
theorem sh_dvd_t (t u : Int) : sh t u ∣ t := Int.natAbs_dvd_natAbs.mp (by rw [sh_abs]; exact Nat.gcd_dvd_left _ _)
theorem sh_dvd_u (t u : Int) : sh t u ∣ u := Int.natAbs_dvd_natAbs.mp (by rw [sh_abs]; exact Nat.gcd_dvd_right _ _)
theorem nT_mul (t u : Int) : nT t u * sh t u = t := by
  unfold nT
  exact Int.fdiv_mul_cancel (sh_dvd_t t u)
theorem nU_mul (t u : Int) : nU t u * sh t u = u := by
  unfold nU
  exact Int.fdiv_mul_cancel (sh_dvd_u t u)
theorem nU_pos {t u : Int} (h : u ≠ 0) : 0 < nU t u := by
  have h1 : 0 < Nat.gcd t.natAbs u.natAbs := Nat.gcd_pos_of_pos_right _ (by omega)
  have e := nU_mul t u
  by_cases hn : u < 0
  · have hs : sh t u < 0 := by
      unfold sh
      rw [if_pos hn]
      omega
    rcases Int.lt_trichotomy (nU t u) 0 with hc | hc | hc
    · have := Int.mul_pos_of_neg_of_neg hc hs
      omega
    · rw [hc] at e
      omega
    · exact hc
  · have hs : 0 < sh t u := by
      unfold sh
      rw [if_neg hn]
      omega
    rcases Int.lt_trichotomy (nU t u) 0 with hc | hc | hc
    · have := Int.mul_neg_of_neg_of_pos hc hs
      omega
    · rw [hc] at e
      omega
    · exact hc
theorem n_cross (t u : Int) : nT t u * u = t * nU t u := by
  have e1 := nT_mul t u
  have e2 := nU_mul t u
  calc nT t u * u = nT t u * (nU t u * sh t u) := by rw [e2]
    _ = nT t u * sh t u * nU t u := by rw [Int.mul_comm (nU t u), Int.mul_assoc]
    _ = t * nU t u := by rw [e1]
theorem n_gcd {t u : Int} (h : u ≠ 0) : Nat.gcd (nT t u).natAbs (nU t u).natAbs = 1 := by
  have h1 : 0 < Nat.gcd t.natAbs u.natAbs := Nat.gcd_pos_of_pos_right _ (by omega)
  have e1 : (nT t u).natAbs * Nat.gcd t.natAbs u.natAbs = t.natAbs := by rw [← sh_abs, ← Int.natAbs_mul, nT_mul]
  have e2 : (nU t u).natAbs * Nat.gcd t.natAbs u.natAbs = u.natAbs := by rw [← sh_abs, ← Int.natAbs_mul, nU_mul]
  have e3 : Nat.gcd ((nT t u).natAbs * Nat.gcd t.natAbs u.natAbs) ((nU t u).natAbs * Nat.gcd t.natAbs u.natAbs) = Nat.gcd t.natAbs u.natAbs := by
    rw [e1, e2]
  rw [Nat.gcd_mul_right] at e3
  exact Nat.eq_of_mul_eq_mul_right h1 (by rw [e3, Nat.one_mul])
theorem nU_le {t u : Int} (h : u ≠ 0) : (nU t u).natAbs ≤ u.natAbs := by
  have h1 : 0 < Nat.gcd t.natAbs u.natAbs := Nat.gcd_pos_of_pos_right _ (by omega)
  have e2 : (nU t u).natAbs * Nat.gcd t.natAbs u.natAbs = u.natAbs := by rw [← sh_abs, ← Int.natAbs_mul, nU_mul]
  rw [← e2]
  exact Nat.le_mul_of_pos_right _ h1
theorem nT_le {t u : Int} (h : u ≠ 0) : (nT t u).natAbs ≤ t.natAbs := by
  have h1 : 0 < Nat.gcd t.natAbs u.natAbs := Nat.gcd_pos_of_pos_right _ (by omega)
  have e2 : (nT t u).natAbs * Nat.gcd t.natAbs u.natAbs = t.natAbs := by rw [← sh_abs, ← Int.natAbs_mul, nT_mul]
  rw [← e2]
  exact Nat.le_mul_of_pos_right _ h1
/-- a fraction has one form in lowest terms -/
theorem low_one {a b c d : Int} (hb : 0 < b) (hd : 0 < d) (g1 : Nat.gcd a.natAbs b.natAbs = 1) (g2 : Nat.gcd c.natAbs d.natAbs = 1) (e : a * d = c * b) : a = c ∧ b = d := by
  have en : a.natAbs * d.natAbs = c.natAbs * b.natAbs := by rw [← Int.natAbs_mul, ← Int.natAbs_mul, e]
  have d1 : b.natAbs ∣ d.natAbs := (Nat.Coprime.dvd_of_dvd_mul_left (k := b.natAbs) (m := a.natAbs) (n := d.natAbs) (by rw [Nat.Coprime, Nat.gcd_comm]; exact g1) (by rw [en]; exact Nat.dvd_mul_left _ _))
  have d2 : d.natAbs ∣ b.natAbs := (Nat.Coprime.dvd_of_dvd_mul_left (k := d.natAbs) (m := c.natAbs) (n := b.natAbs) (by rw [Nat.Coprime, Nat.gcd_comm]; exact g2) (by rw [← en]; exact Nat.dvd_mul_left _ _))
  have e3 : b.natAbs = d.natAbs := Nat.dvd_antisymm d1 d2
  have e4 : b = d := by omega
  subst e4
  exact ⟨Int.eq_of_mul_eq_mul_right (by omega) e, rfl⟩
theorem n_uniq {a b t u : Int} (hu : u ≠ 0) (hb : 0 < b) (g : Nat.gcd a.natAbs b.natAbs = 1) (e : a * u = t * b) : a = nT t u ∧ b = nU t u := by
  refine low_one hb (nU_pos hu) g (n_gcd hu) ?_
  have e1 := n_cross t u
  refine Int.eq_of_mul_eq_mul_right hu ?_
  calc a * nU t u * u = a * u * nU t u := by rw [Int.mul_assoc, Int.mul_comm (nU t u), ← Int.mul_assoc]
    _ = t * b * nU t u := by rw [e]
    _ = t * nU t u * b := by rw [Int.mul_assoc, Int.mul_comm b, ← Int.mul_assoc]
    _ = nT t u * u * b := by rw [e1]
    _ = nT t u * b * u := by rw [Int.mul_assoc, Int.mul_comm u, ← Int.mul_assoc]
theorem n_self {a b : Int} (hb : 0 < b) (g : Nat.gcd a.natAbs b.natAbs = 1) : nT a b = a ∧ nU a b = b := by
  obtain ⟨h1, h2⟩ := n_uniq (a := a) (b := b) (t := a) (u := b) (by omega) hb g rfl
  exact ⟨h1.symm, h2.symm⟩
theorem n_one (t : Int) : nT t 1 = t ∧ nU t 1 = 1 := n_self (by decide) (by simp)
theorem n_scale {t u f : Int} (hu : u ≠ 0) (hf : f ≠ 0) : nT (t * f) (u * f) = nT t u ∧ nU (t * f) (u * f) = nU t u := by
  have hne : u * f ≠ 0 := Int.mul_ne_zero hu hf
  obtain ⟨h1, h2⟩ := n_uniq (a := nT t u) (b := nU t u) (t := t * f) (u := u * f) hne (nU_pos hu) (n_gcd hu) (by
    have e1 := n_cross t u
    calc nT t u * (u * f) = nT t u * u * f := by rw [Int.mul_assoc]
      _ = t * nU t u * f := by rw [e1]
      _ = t * f * nU t u := by rw [Int.mul_assoc, Int.mul_comm (nU t u), ← Int.mul_assoc])
  exact ⟨h1.symm, h2.symm⟩
/-! ### instances of Ratio -/
def rf (t u : Int) : List (Str × V) := putF "under" (.int u) (putF "top" (.int t) [])
theorem tu : ¬ (("top" : Str) = "under") := by decide +kernel
theorem ut : ¬ (("under" : Str) = "top") := by decide +kernel
theorem rf_top (t u : Int) : (rf t u).lookup ("top" : Str) = some (.int t) := by
  unfold rf
  rw [lookup_putF, if_neg tu, lookup_putF, if_pos rfl]
theorem rf_under (t u : Int) : (rf t u).lookup ("under" : Str) = some (.int u) := by
  unfold rf
  rw [lookup_putF, if_pos rfl]
theorem rf_no (t u : Int) {m : Str} (h1 : ¬ m = "under") (h2 : ¬ m = "top") : (rf t u).lookup m = none := by
  unfold rf
  rw [lookup_putF, if_neg h1, lookup_putF, if_neg h2]
  rfl
/-- a Ratio t / u stands at x -/
def RatAt (C : Addr) (H : Hp) (x : Addr) (t u : Int) : Prop := ∃ dx, H x = some (.ins C dx (rf t u))
theorem RatAt.keep {C p : Addr} {H H' : Hp} {x : Addr} {t u : Int} (h : RatAt C H x t u) (k : Keeps H H' p) (hp : x ≠ p) : RatAt C H' x t u := by
  obtain ⟨dx, h⟩ := h
  exact ⟨dx, k _ _ h hp⟩
theorem RatAt.same {C : Addr} {H H' : Hp} {x : Addr} {t u : Int} (h : RatAt C H x t u) (k : Same H H') : RatAt C H' x t u := by
  obtain ⟨dx, h⟩ := h
  exact ⟨dx, k _ _ h⟩
theorem RatAt.ne_pool {C : Addr} {p : Pla} {H : Hp} {x : Addr} {t u : Int} (h : RatAt C H x t u) (hp : Pool H p) : x ≠ p := by
  obtain ⟨dx, h⟩ := h
  obtain ⟨ns, i, b, c, d, h1, _⟩ := hp
  exact ne_of h h1 (by intro z; cases z)
/-- the class Ratio as the top has left it -/
structure RatC (K : PySem.W.Frag) (mg : Str → Option Value) (C : Addr) : Prop where
  cl : Cls K C
  nT : NoAttr K C "top"
  nU : NoAttr K C "under"
  g : mg "Ratio" = some (.ref C)
  ha : PySem.W.findIn K (.ref C) "__class__" = some (some (.builtin "object.__class__"))
  hn : PySem.W.specialIn K (.builtin "object.__class__") "__get__" = some (some (.builtin "getset_descriptor.__get__"))
  htk : PySem.W.takesIn K (.builtin "object.__class__") = some true
  hm : PySem.W.mroIn K C (.type "object") = some true
  ki : PySem.W.kitOne K (.type "int") (.ref C) = some false
theorem RatC.tyX {K : PySem.W.Frag} {mg : Str → Option Value} {C : Addr} (T : RatC K mg C) {H : Hp} {x dx : Addr} {fs : List (Str × V)} (h : H x = some (.ins C dx fs)) : TyX K H (.ref x) (.ref C) := .base (.ins h T.cl T.ha T.hn T.htk T.hm)
theorem kit_self {K : PySem.W.Frag} (v : Value) : PySem.W.kitOne K v v = some true := by
  unfold PySem.W.kitOne
  rw [if_pos (beq_self_eq_true v)]
/-- an error class of the program without __init__ -/
structure ExC (K : PySem.W.Frag) (mg : Str → Option Value) (nm : Str) (C : Addr) : Prop where
  x : PySem.W.excIn K C [.type "ValueError", .type "Exception", .type "BaseException", .type "object"] "ValueError.__new__" = true
  g : mg nm = some (.ref C)
  k : PySem.W.keepIn K (.ref C) = true
  b : PySem.W.subIn K (.ref C) (.type "BaseException") = some true
  t : PySem.W.typeIn K (.ref C) = some (.type "type")
  s : PySem.W.subIn K (.ref C) (.ref C) = some true
  e : ExcC K C
theorem ExC.exm {K : PySem.W.Frag} {mg : Str → Option Value} {x : Str} {C : Addr} (T : ExC K mg x C) : PySem.W.exmOne K (.ref C) (.ref C) = some true := exm_self T.b T.e.hd T.t T.s
theorem beq_ref_ne {a b : Addr} (h : a ≠ b) : (Value.ref a == Value.ref b) = false := by
  rw [beq_eq_false_iff_ne]
  intro e
  injection e with e
  exact h e
end Fl

set_option Elab.async false
set_option linter.all false
set_option maxRecDepth 100000
set_option maxHeartbeats 4000000
namespace Fl
open PySem PySem.Spec PyProof.Rows L2
/-! ### the error with a name and a value -/
structure BnC (K : PySem.W.Frag) (mg : Str → Option Value) (C : Addr) : Prop where
  o : OexC K C
  g : mg "BadNumber" = some (.ref C)
  nN : PySem.W.findIn K (.ref C) "name" = some none
  nV : PySem.W.findIn K (.ref C) "value" = some none
  e : ExcC K C
  s : PySem.W.subIn K (.ref C) (.ref C) = some true
theorem BnC.exm {K : PySem.W.Frag} {mg : Str → Option Value} {C : Addr} (T : BnC K mg C) : PySem.W.exmOne K (.ref C) (.ref C) = some true := exm_self T.o.exC T.e.hd T.o.tyC T.s
theorem BnC.xf {K : PySem.W.Frag} {mg : Str → Option Value} {C : Addr} (T : BnC K mg C) : XfC K C := ⟨T.e.hg, T.e.hk, T.e.hs, T.e.hd⟩
def bnf (n v : V) : List (Str × V) := [("value", v), ("name", n)]
theorem nv : ¬ (("name" : Str) = "value") := by decide +kernel
theorem look_ne {f g : Str} {v : V} {fs : List (Str × V)} (h : ¬ f = g) : List.lookup f ((g, v) :: fs) = List.lookup f fs := by
  have e : (f == g) = false := by simpa using h
  rw [List.lookup_cons, e]
theorem look_eq {f : Str} {v : V} {fs : List (Str × V)} : List.lookup f ((f, v) :: fs) = some v := by
  rw [List.lookup_cons, beq_self_eq_true]
theorem bnf_name (n v : V) : (bnf n v).lookup ("name" : Str) = some n := by
  unfold bnf
  rw [look_ne nv, look_eq]
theorem bnf_value (n v : V) : (bnf n v).lookup ("value" : Str) = some v := look_eq
def spBN (C : Addr) : Sp := fun vs H Q _ => ∃ (a : Addr) (n v : V), vs = [.ref a, n, v] ∧ H a = some (exo a C none) ∧ ∀ (dx : Addr), H dx = none → dx ≠ a → Q .non (upd (upd (upd H dx (exd dx [("name", n)])) a (exo a C (some dx))) dx (exd dx (bnf n v)))
structure CalE (P : Program) (w : World) (K : PySem.W.Frag) (mg : Str → Option Value) (base : Heap) (k : Nat) (C : Addr) : Prop where
  ex : ∃ (fI : Addr) (fd : FuncData), PySem.W.findIn K (.ref C) "__init__" = some (some (.ref fI)) ∧ PySem.W.typeIn K (.ref fI) = some (.type "function") ∧ FnOk P w K mg base CX0 k fI fd ["self", "name", "value"] (spBN C) ∧ Binds K fd ["self", "name", "value"] []
theorem pmk_bn {X : Cx} {k : Nat} {C : Addr} {p pos : Pos} {e : Expr} {es : List Expr} {ta : TA} (T : BnC X.K X.mg C) (B : CalE X.prog X.w X.K X.mg X.base k C) (hr : Room (k + 1) X.A) (ha : PA X (e :: es) ta) (hg : Gl X "BadNumber" := by rfl)
    (he : starEach (e :: es) X.env = (false, eval e X.env) :: starEach es X.env := by rfl) (hpl : (backTo pos (starEach es X.env)).any (·.1) = false := by rfl) : PMk X (.Call (.Name "BadNumber" p) (e :: es) [] pos) (tMkO C (spBN C) [] ta) := by
  obtain ⟨fI, fd, iC, tI, F, b⟩ := B.ex
  exact pmk_oex T.o iC tI F hr b .nil (fun _ _ _ _ _ _ _ h => h.elim) hg T.g ha (by decide +kernel) he hpl
/-- what is wished where BadNumber(n, v) leaves -/
def Ref (E : XK) (C : Addr) (H : Hp) (n : Str) (v : Int) : Prop := ∀ (d : Addr) (H' : Hp), Same H H' → H d = none → H' d = some (.xd (bnf (.str n) (.int v))) → E (.ref C) (some d) H'
theorem Ref.same {E : XK} {C : Addr} {H H1 : Hp} {n : Str} {v : Int} (h : Ref E C H n v) (s : Same H H1) : Ref E C H1 n v := fun d H' s' hd he => h d H' (s.trans s') (s.free hd) he
theorem bn_made {C : Addr} {n : Str} {v : Int} {H : Hp} {Q : XK} (k : Ref Q C H n v) : [V.str n, V.int v].length ≤ 1000 ∧ ∀ a, H a = none → spBN C (.ref a :: ([V.str n, V.int v] ++ [])) (upd H a (exo a C none))
    (fun z H2 => z = .non ∧ ∃ (d : Addr) (fs : List (Str × V)), H2 a = some (exo a C (some d)) ∧ H2 d = some (exd d fs) ∧ H d = none ∧ Q (.ref C) (some d) (upd (del H2 a) d (.xd fs))) (fun _ _ _ => False) := by
  refine ⟨(show 2 ≤ 1000 by decide), fun a ha => ⟨a, .str n, .int v, rfl, upd_same, fun dx hdx hne => ⟨rfl, dx, bnf (.str n) (.int v), ?_, upd_same, ?_, ?_⟩⟩⟩
  · rw [upd_ne (Ne.symm hne), upd_same]
  · rw [upd_ne hne] at hdx
    exact hdx
  · rw [upd_ne hne] at hdx
    refine k dx _ (fun b o e => ?_) hdx upd_same
    have h1 : b ≠ a := ne_of_none e ha
    have h2 : b ≠ dx := ne_of_none e hdx
    rw [upd_ne h2, del_ne h1, upd_ne h2, upd_ne h1, upd_ne h2, upd_ne h1]
    exact e
end Fl

set_option Elab.async false
set_option linter.all false
set_option maxRecDepth 100000
set_option maxHeartbeats 4000000
namespace Fl
/-! ### the sum of the whole parts of (a i + b) / m, i below n -/
def fs (m a b : Nat) : Nat → Nat
  | 0 => 0
  | n + 1 => fs m a b n + (a * n + b) / m
theorem tri_succ (n : Nat) : (n + 1) * n / 2 = n * (n - 1) / 2 + n := by
  cases n with
  | zero => rfl
  | succ k =>
    have e : (k + 1 + 1) * (k + 1) = (k + 1) * (k + 1 - 1) + 2 * (k + 1) := by
      rw [Nat.add_sub_cancel, show k + 1 + 1 = k + 2 from rfl, Nat.add_mul, Nat.mul_comm k (k + 1)]
    rw [e, Nat.add_mul_div_left _ _ (by decide)]
theorem fs_split {m : Nat} (hm : 0 < m) (a b : Nat) : ∀ n : Nat, fs m a b n = n * (n - 1) / 2 * (a / m) + n * (b / m) + fs m (a % m) (b % m) n
  | 0 => by simp [fs]
  | n + 1 => by
    have ih := fs_split hm a b n
    have e : (a * n + b) / m = n * (a / m) + b / m + ((a % m) * n + b % m) / m := by
      have e1 : a * n + b = (a % m * n + b % m) + m * (n * (a / m) + b / m) := by
        have h1 := Nat.mod_add_div a m
        have h2 := Nat.mod_add_div b m
        calc a * n + b = (a % m + m * (a / m)) * n + (b % m + m * (b / m)) := by rw [h1, h2]
          _ = (a % m * n + b % m) + m * (n * (a / m) + b / m) := by
            rw [Nat.add_mul, Nat.mul_add, Nat.mul_assoc, Nat.mul_comm (a / m) n]
            omega
      rw [e1, Nat.add_mul_div_left _ _ hm]
      omega
    show fs m a b n + (a * n + b) / m = (n + 1) * (n + 1 - 1) / 2 * (a / m) + (n + 1) * (b / m) + (fs m (a % m) (b % m) n + (a % m * n + b % m) / m)
    rw [Nat.add_sub_cancel, tri_succ, ih, e, Nat.add_mul, Nat.add_mul]
    omega
theorem fs_up {a m r : Nat} (ha : 0 < a) : ∀ k : Nat, fs a m (r + a) k = fs a m r k + k
  | 0 => rfl
  | k + 1 => by
    have ih := fs_up (m := m) (r := r) ha k
    show fs a m (r + a) k + (m * k + (r + a)) / a = fs a m r k + (m * k + r) / a + (k + 1)
    rw [ih, ← Nat.add_assoc, Nat.add_div_right _ ha]
    omega
theorem fs_shift {a m r : Nat} : ∀ k : Nat, fs a m r (k + 1) = r / a + fs a m (r + m) k
  | 0 => by
    show 0 + (m * 0 + r) / a = r / a + 0
    rw [Nat.mul_zero, Nat.zero_add, Nat.zero_add, Nat.add_zero]
  | k + 1 => by
    have ih := fs_shift (a := a) (m := m) (r := r) k
    show fs a m r (k + 1) + (m * (k + 1) + r) / a = r / a + (fs a m (r + m) k + (m * k + (r + m)) / a)
    rw [ih, Nat.mul_add, Nat.mul_one, Nat.add_assoc (m * k), Nat.add_comm m r]
    omega
theorem fs_swap {m a b : Nat} (ham : a < m) (hbm : b < m) (ha : 0 < a) : ∀ n : Nat, fs m a b n = fs a m ((a * n + b) % m) ((a * n + b) / m)
  | 0 => by
    have e : (a * 0 + b) / m = 0 := by
      rw [Nat.mul_zero, Nat.zero_add]
      exact Nat.div_eq_of_lt hbm
    rw [e]
    rfl
  | n + 1 => by
    have hm : 0 < m := by omega
    have ih := fs_swap ham hbm ha n
    show fs m a b n + (a * n + b) / m = _
    rw [ih]
    have hr := Nat.mod_lt (a * n + b) hm
    have hd := Nat.mod_add_div (a * n + b) m
    generalize hR : (a * n + b) % m = r at *
    generalize hK : (a * n + b) / m = K at *
    have e : a * (n + 1) + b = m * K + (r + a) := by
      rw [Nat.mul_add, Nat.mul_one]
      omega
    rw [e, Nat.mul_add_mod, Nat.mul_add_div hm]
    by_cases hc : r + a < m
    · rw [Nat.mod_eq_of_lt hc, Nat.div_eq_of_lt hc, Nat.add_zero, fs_up ha]
    · have h1 : (r + a) / m = 1 := by
        rw [Nat.div_eq_sub_div hm (by omega), Nat.div_eq_of_lt (by omega)]
      have h2 : (r + a) % m = r + a - m := by
        rw [Nat.mod_eq_sub_mod (by omega), Nat.mod_eq_of_lt (by omega)]
      rw [h1, h2, fs_shift, Nat.div_eq_of_lt (by omega : r + a - m < a), show r + a - m + m = r + a by omega, fs_up ha]
      omega
theorem fs_zero {m b : Nat} (hbm : b < m) : ∀ n : Nat, fs m 0 b n = 0
  | 0 => rfl
  | n + 1 => by
    show fs m 0 b n + (0 * n + b) / m = 0
    rw [fs_zero hbm n, Nat.zero_mul, Nat.zero_add, Nat.zero_add, Nat.div_eq_of_lt hbm]
/-- one turn of Euclid's rule -/
theorem fs_turn {m : Nat} (hm : 0 < m) (a b n : Nat) : fs m a b n = n * (n - 1) / 2 * (a / m) + n * (b / m) + fs (a % m) m ((a % m * n + b % m) % m) ((a % m * n + b % m) / m) := by
  rw [fs_split hm]
  have h1 := Nat.mod_lt a hm
  have h2 := Nat.mod_lt b hm
  by_cases h0 : a % m = 0
  · rw [h0, Nat.zero_mul, Nat.zero_add, fs_zero h2, Nat.div_eq_of_lt h2]
    rfl
  · rw [fs_swap h1 h2 (by omega)]
theorem fs_tot {n m a b tot : Nat} (hn : 0 < n) : (tot : Int) + (n : Int) * ((n : Int) - 1) / 2 * ((a : Int) / (m : Int)) + (n : Int) * ((b : Int) / (m : Int)) = ((tot + n * (n - 1) / 2 * (a / m) + n * (b / m) : Nat) : Int) := by
  have e : (n : Int) - 1 = ((n - 1 : Nat) : Int) := by omega
  rw [e]
  simp only [Int.natCast_add, Int.natCast_mul, Int.natCast_ediv]
  rfl
theorem fs_many_le {n m a b : Nat} (hm : 0 < m) (hn : 0 < n) : (a % m * n + b % m) / m ≤ n := by
  have h1 := Nat.mod_lt a hm
  have h2 := Nat.mod_lt b hm
  have h3 : a % m * n ≤ (m - 1) * n := Nat.mul_le_mul_right n (by omega)
  have h4 : (m - 1) * n = m * n - n := by rw [Nat.sub_mul, Nat.one_mul]
  have h5 : n ≤ m * n := Nat.le_mul_of_pos_left n hm
  refine Nat.le_of_lt_succ (Nat.div_lt_of_lt_mul ?_)
  rw [Nat.mul_succ]
  omega
end Fl

set_option Elab.async false
set_option linter.all false
set_option maxRecDepth 100000
set_option maxHeartbeats 4000000
namespace Zm
open PySem
open PySem.Sem (wp)
/-! ### zip of any two iterators that walk over something that stands -/
structure Src (prog : Program) (w : World) (i l : Addr) (its : Array Value) (T : Nat → Heap → Prop) : Prop where
  stay : ∀ {k : Nat} {h h' : Heap}, T k h → (∀ c, c = i ∨ c = l → ∀ o, h.get? c = some o → h'.get? c = some o) → T k h'
  obj : ∀ {k : Nat} {h : Heap}, T k h → ∃ o, h.get? i = some o ∧ ∀ v, o.data ≠ .cell v
  item : ∀ {A : Around} {E : Value → Shared → Prop} {s : Shared} {k : Nat} {x : Value} {Q : Value → Shared → Prop}, T k s.heap → its[k]? = some x → (∀ h', T (k + 1) h' → Heap.SameBut i s.heap h' → Q x { s with heap := h' }) → wpAny (model prog w) A (Builtin.SmallTypes.nextOf (.ref i)) Q E s
  fin : ∀ {A : Around} {E : Value → Shared → Prop} {s : Shared} {k : Nat} {Q : Value → Shared → Prop}, A.handled = none → T k s.heap → its[k]? = none → (∀ h' e, Heap.ExtBut i s.heap h' → (∃ o, h'.get? e = some o ∧ o.cls = .type "StopIteration") → E (.ref e) { s with heap := h' }) → wpAny (model prog w) A (Builtin.SmallTypes.nextOf (.ref i)) Q E s
theorem Src.but {prog : Program} {w : World} {i l c : Addr} {its : Array Value} {T : Nat → Heap → Prop} (S : Src prog w i l its T) {k : Nat} {h h' : Heap} (t : T k h) (e : Heap.ExtBut c h h') (n1 : i ≠ c) (n2 : l ≠ c) : T k h' :=
  S.stay t fun d hd o q => e d o (by rcases hd with r | r <;> rw [r] <;> assumption) q
theorem src_tup {prog : Program} {w : World} {i l : Addr} {its : Array Value} (n : l ≠ i) : Src prog w i l its (fun k h => h.IsTupleIter i l k ∧ h.IsTuple l its) where
  stay := fun t e => ⟨t.1.at fun o q => e _ (.inl rfl) o q, t.2.at fun o q => e _ (.inr rfl) o q⟩
  obj := fun t => by
    obtain ⟨⟨o, e, _, d⟩, _⟩ := t
    exact ⟨o, e, fun v q => by rw [d] at q; cases q⟩
  item := fun t hx k => RZ.nextOf_tuple_item t.1 t.2 hx fun h' a b => k h' ⟨a, t.2.extBut b.extBut n⟩ b
  fin := fun hh t hx k => RZ.nextOf_tuple_end hh t.1 t.2 hx k
theorem src_lst {prog : Program} {w : World} {i l : Addr} {its : Array Value} (n : l ≠ i) : Src prog w i l its (fun k h => h.IsListIter i l k ∧ h.IsList l its) where
  stay := fun t e => ⟨t.1.at fun o q => e _ (.inl rfl) o q, t.2.at fun o q => e _ (.inr rfl) o q⟩
  obj := fun t => by
    obtain ⟨⟨o, e, _, d⟩, _⟩ := t
    exact ⟨o, e, fun v q => by rw [d] at q; cases q⟩
  item := fun t hx k => wpAny_nextOf_list_item t.1 t.2 hx fun h' a b => k h' ⟨a, t.2.extBut b.extBut n⟩ b
  fin := fun hh t hx k => wpAny_nextOf_list_end hh t.1 t.2 hx k
section
variable {prog : Program} {w : World} {A : Around} {E : Value → Shared → Prop} {s : Shared} {z TI TO i1 i2 l1 l2 : Addr} {k1 k2 : Nat} {xs ys : Array Value} {x y a b : Value} {T1 T2 : Nat → Heap → Prop}
theorem nx_item {Q : Value → Shared → Prop} (D : ZipApart z TI TO i1 i2 l1 l2) (S1 : Src prog w i1 l1 xs T1) (S2 : Src prog w i2 l2 ys T2) (z0 : IsZip s.heap z TI TO .none) (p1 : IsPair s.heap TI (.ref i1) (.ref i2)) (p2 : IsPair s.heap TO a b) (t1 : T1 k1 s.heap) (t2 : T2 k2 s.heap) (hx : xs[k1]? = some x) (hy : ys[k2]? = some y)
    (q : ∀ h', IsZip h' z TI TO (rawInt s.heap.objs.size) → IsPair h' TO x y → T1 (k1 + 1) h' → T2 (k2 + 1) h' → IsPair h' s.heap.objs.size x y → (∀ c o, c ≠ z → c ≠ TO → c ≠ i1 → c ≠ i2 → s.heap.get? c = some o → h'.get? c = some o) → Q (.ref s.heap.objs.size) { s with heap := h' }) :
    wpAny (model prog w) A (Builtin.«zip.__next__» ⟨[.ref z], []⟩) (fun fin s' => ∃ v, fin = .done (.ret v) ∧ Q v s') E s := by
  show wpAny _ _ (field (.ref z) 2 >>= _) _ _ _
  refine wpAny_bind (wpAny_field z0 rfl (x := .bool false) rfl ?_)
  show wpAny _ _ (field (.ref z) 3 >>= _) _ _ _
  refine wpAny_bind (wpAny_field z0 rfl (x := .ref TI) rfl (wpAny_bind (wpAny_seqItems p1 rfl ?_)))
  show wpAny _ _ (Builtin.SmallTypes.ownedTupleIsFree (.ref z) >>= _) _ _ _
  refine wpAny_bind ?_
  unfold Builtin.SmallTypes.ownedTupleIsFree
  refine wpAny_bind (wpAny_field z0 rfl (x := .none) rfl (wpAny_pure ?_))
  simp only [if_true]
  refine wpAny_bind (wpAny_rule (wpAny_bind (wpAny_field z0 rfl (x := .ref TO) rfl (wpAny_bind (wpAny_setField_rec z0 (by simp) fun g1 z1 b1 => ?_)))))
  have z1 : IsZip g1 z TI TO .ellipsis := z1
  refine wpAny_bind ?_
  simp only [List.zipIdx_cons, List.zipIdx_nil, List.forIn_cons, List.forIn_nil]
  refine wpAny_bind (wpAny_bind (wpAny_onRaise ?_))
  show wpAny _ _ (Builtin.SmallTypes.nextOf (.ref i1) >>= _) _ _ _
  refine wpAny_bind (S1.item (S1.but t1 b1.extBut D.i1z D.l1z) hx fun g2 u1 b2 => wpAny_pure ?_)
  have p3 : IsPair g2 TO a b := b2.extBut _ _ D.TOi1 (b1.extBut _ _ D.TOz p2)
  refine wpAny_bind (wpAny_seqItems p3 rfl (wpAny_bind (wpAny_updateSeq_pair p3 fun g3 p4 b3 => ?_)))
  have p4 : IsPair g3 TO x b := p4
  refine wpAny_bind (wpAny_letGo (wpAny_pure (wpAny_bind (wpAny_bind (wpAny_onRaise ?_)))))
  show wpAny _ _ (Builtin.SmallTypes.nextOf (.ref i2) >>= _) _ _ _
  refine wpAny_bind (S2.item (S2.but (S2.but (S2.but t2 b1.extBut D.i2z D.l2z) b2.extBut D.i12.symm D.l2i1) b3.extBut D.TOi2.symm D.l2TO) hy fun g4 u2 b4 => wpAny_pure ?_)
  have p5 : IsPair g4 TO x b := b4.extBut _ _ D.TOi2 p4
  refine wpAny_bind (wpAny_seqItems p5 rfl (wpAny_bind (wpAny_updateSeq_pair p5 fun g5 p6 b5 => ?_)))
  have p6 : IsPair g5 TO x y := p6
  refine wpAny_bind (wpAny_letGo (wpAny_pure (wpAny_pure (wpAny_bind (wpAny_seqItems p6 rfl (wpAny_bind (wpAny_newTuple ?_)))))))
  have sz : g5.objs.size = s.heap.objs.size := by rw [b5.1, b4.1, b3.1, b2.1, b1.1]
  have z5 : IsZip g5 z TI TO .ellipsis := b5.extBut _ _ D.TOz.symm (b4.extBut _ _ D.i2z.symm (b3.extBut _ _ D.TOz.symm (b2.extBut _ _ D.i1z.symm z1)))
  have keep5 : ∀ c o, c ≠ z → c ≠ TO → c ≠ i1 → c ≠ i2 → s.heap.get? c = some o → g5.get? c = some o := fun c o n1 n2 n3 n4 e => b5.extBut _ _ n2 (b4.extBut _ _ n4 (b3.extBut _ _ n2 (b2.extBut _ _ n3 (b1.extBut _ _ n1 e))))
  have v1 := S1.but (S1.but (S1.but u1 b3.extBut D.TOi1.symm D.l1TO) b4.extBut D.i12 D.l1i2) b5.extBut D.TOi1.symm D.l1TO
  have v2 := S2.but u2 b5.extBut D.TOi2.symm D.l2TO
  have zlt : z < g5.objs.size := Heap.lt_size z5
  show wpAny _ _ (Builtin.SmallTypes.ownedTupleHandOut (.ref z) (.ref g5.objs.size) >>= _) _ _ _
  refine wpAny_bind ?_
  unfold Builtin.SmallTypes.ownedTupleHandOut
  have z6 : IsZip (g5.push { cls := .type "tuple", data := .seq #[x, y] }) z TI TO .ellipsis := Heap.get?_push_of_some _ z5
  refine wpAny_bind (wpAny_setField_rec z6 (by simp) fun g7 z7 b7 => ?_)
  have z7 : IsZip g7 z TI TO (rawInt g5.objs.size) := z7
  refine wpAny_setField_rec z7 (by simp) fun g8 z8 b8 => ?_
  have z8 : IsZip g8 z TI TO (rawInt g5.objs.size) := z8
  have up : ∀ c o, c ≠ z → g5.get? c = some o → g8.get? c = some o := fun c o n e => b8.extBut _ _ n (b7.extBut _ _ n (Heap.get?_push_of_some _ e))
  have pr : IsPair g8 g5.objs.size x y := b8.extBut _ _ (Nat.ne_of_gt zlt) (b7.extBut _ _ (Nat.ne_of_gt zlt) (Heap.get?_push_size _ rfl))
  rw [sz] at z8 pr
  refine wpAny_pure ⟨_, rfl, ?_⟩
  show Q (.ref g5.objs.size) _
  rw [sz]
  exact q g8 z8 (up _ _ D.TOz p6) (S1.stay v1 fun d hd o e => up d o (by rcases hd with r | r <;> rw [r]; exact D.i1z; exact D.l1z) e) (S2.stay v2 fun d hd o e => up d o (by rcases hd with r | r <;> rw [r]; exact D.i2z; exact D.l2z) e) pr fun c o n1 n2 n3 n4 e => up c o n1 (keep5 c o n1 n2 n3 n4 e)
theorem nx_end {Q : Fin → Shared → Prop} (hh : A.handled = none) (D : ZipApart z TI TO i1 i2 l1 l2) (S1 : Src prog w i1 l1 xs T1) (S2 : Src prog w i2 l2 ys T2) (z0 : IsZip s.heap z TI TO .none) (p1 : IsPair s.heap TI (.ref i1) (.ref i2)) (p2 : IsPair s.heap TO a b) (t1 : T1 k1 s.heap) (t2 : T2 k2 s.heap) (he : xs[k1]? = none ∨ ys[k2]? = none)
    (q : ∀ h' e, (∀ c o, c ≠ z → c ≠ TO → c ≠ i1 → c ≠ i2 → s.heap.get? c = some o → h'.get? c = some o) → (∃ o, h'.get? e = some o ∧ o.cls = .type "StopIteration") → E (.ref e) { s with heap := h' }) : wpAny (model prog w) A (Builtin.«zip.__next__» ⟨[.ref z], []⟩) Q E s := by
  show wpAny _ _ (field (.ref z) 2 >>= _) _ _ _
  refine wpAny_bind (wpAny_field z0 rfl (x := .bool false) rfl ?_)
  show wpAny _ _ (field (.ref z) 3 >>= _) _ _ _
  refine wpAny_bind (wpAny_field z0 rfl (x := .ref TI) rfl (wpAny_bind (wpAny_seqItems p1 rfl ?_)))
  show wpAny _ _ (Builtin.SmallTypes.ownedTupleIsFree (.ref z) >>= _) _ _ _
  refine wpAny_bind ?_
  unfold Builtin.SmallTypes.ownedTupleIsFree
  refine wpAny_bind (wpAny_field z0 rfl (x := .none) rfl (wpAny_pure ?_))
  simp only [if_true]
  refine wpAny_bind (wpAny_rule (wpAny_bind (wpAny_field z0 rfl (x := .ref TO) rfl (wpAny_bind (wpAny_setField_rec z0 (by simp) fun g1 z1 b1 => ?_)))))
  have z1 : IsZip g1 z TI TO .ellipsis := z1
  refine wpAny_bind ?_
  simp only [List.zipIdx_cons, List.zipIdx_nil, List.forIn_cons, List.forIn_nil]
  refine wpAny_bind (wpAny_bind (wpAny_onRaise ?_))
  show wpAny _ _ (Builtin.SmallTypes.nextOf (.ref i1) >>= _) _ _ _
  cases hx : xs[k1]? with
  | none =>
    refine wpAny_bind (S1.fin hh (S1.but t1 b1.extBut D.i1z D.l1z) hx fun g2 e b2 stop => ?_)
    obtain ⟨oe, ho, hc⟩ := stop
    have z2 : IsZip g2 z TI TO .ellipsis := b2 _ _ D.i1z.symm z1
    have ne : e ≠ z := fun r => by
      rw [r, z2] at ho
      cases ho
      simp at hc
    exact wpAny_setField_rec z2 (by simp) fun g3 _ b3 => q g3 e (fun c o n1 _ n3 _ r => b3.extBut _ _ n1 (b2 _ _ n3 (b1.extBut _ _ n1 r))) ⟨oe, b3.extBut _ _ ne ho, hc⟩
  | some x =>
    have hy : ys[k2]? = none := by
      rcases he with h | h
      · rw [hx] at h
        cases h
      · exact h
    refine wpAny_bind (S1.item (S1.but t1 b1.extBut D.i1z D.l1z) hx fun g2 u1 b2 => wpAny_pure ?_)
    have p3 : IsPair g2 TO a b := b2.extBut _ _ D.TOi1 (b1.extBut _ _ D.TOz p2)
    refine wpAny_bind (wpAny_seqItems p3 rfl (wpAny_bind (wpAny_updateSeq_pair p3 fun g3 p4 b3 => ?_)))
    refine wpAny_bind (wpAny_letGo (wpAny_pure (wpAny_bind (wpAny_bind (wpAny_onRaise ?_)))))
    show wpAny _ _ (Builtin.SmallTypes.nextOf (.ref i2) >>= _) _ _ _
    refine wpAny_bind (S2.fin hh (S2.but (S2.but (S2.but t2 b1.extBut D.i2z D.l2z) b2.extBut D.i12.symm D.l2i1) b3.extBut D.TOi2.symm D.l2TO) hy fun g4 e b4 stop => ?_)
    obtain ⟨oe, ho, hc⟩ := stop
    have z4 : IsZip g4 z TI TO .ellipsis := b4 _ _ D.i2z.symm (b3.extBut _ _ D.TOz.symm (b2.extBut _ _ D.i1z.symm z1))
    have ne : e ≠ z := fun r => by
      rw [r, z4] at ho
      cases ho
      simp at hc
    exact wpAny_setField_rec z4 (by simp) fun g5 _ b5 => q g5 e (fun c o n1 n2 n3 n4 r => b5.extBut _ _ n1 (b4 _ _ n4 (b3.extBut _ _ n2 (b2.extBut _ _ n3 (b1.extBut _ _ n1 r))))) ⟨oe, b5.extBut _ _ ne ho, hc⟩
theorem py_item {Q : Option Value → Shared → Prop} (D : ZipApart z TI TO i1 i2 l1 l2) (S1 : Src prog w i1 l1 xs T1) (S2 : Src prog w i2 l2 ys T2) (z0 : IsZip s.heap z TI TO .none) (p1 : IsPair s.heap TI (.ref i1) (.ref i2)) (p2 : IsPair s.heap TO a b) (t1 : T1 k1 s.heap) (t2 : T2 k2 s.heap) (hx : xs[k1]? = some x) (hy : ys[k2]? = some y)
    (q : ∀ h', IsZip h' z TI TO (rawInt s.heap.objs.size) → IsPair h' TO x y → T1 (k1 + 1) h' → T2 (k2 + 1) h' → IsPair h' s.heap.objs.size x y → (∀ c o, c ≠ z → c ≠ TO → c ≠ i1 → c ≠ i2 → s.heap.get? c = some o → h'.get? c = some o) → Q (some (.ref s.heap.objs.size)) { s with heap := h' }) : wpAny (model prog w) A (pyNext (.ref z)) Q E s := by
  have ty : s.TypeIs (.ref z) "zip" := ⟨_, z0, rfl⟩
  unfold pyNext
  exact wpAny_bind (wpAny_attempt (wpAny_callSpecial?_slot (name := Str.ofString "__next__") ty F.slot_zip_next (wpAny_call_entry F.slot_zip_next ty F.entry_zip_next (nx_item D S1 S2 z0 p1 p2 t1 t2 hx hy fun h' a1 a2 a3 a4 a5 a6 => wpAny_pure (q h' a1 a2 a3 a4 a5 a6)) (F.args_zip_next_1 _))))
theorem py_end {Q : Option Value → Shared → Prop} (hh : A.handled = none) (D : ZipApart z TI TO i1 i2 l1 l2) (S1 : Src prog w i1 l1 xs T1) (S2 : Src prog w i2 l2 ys T2) (z0 : IsZip s.heap z TI TO .none) (p1 : IsPair s.heap TI (.ref i1) (.ref i2)) (p2 : IsPair s.heap TO a b) (t1 : T1 k1 s.heap) (t2 : T2 k2 s.heap) (he : xs[k1]? = none ∨ ys[k2]? = none)
    (q : ∀ h', (∀ c o, c ≠ z → c ≠ TO → c ≠ i1 → c ≠ i2 → s.heap.get? c = some o → h'.get? c = some o) → Q none { s with heap := h' }) : wpAny (model prog w) A (pyNext (.ref z)) Q E s := by
  have ty : s.TypeIs (.ref z) "zip" := ⟨_, z0, rfl⟩
  unfold pyNext
  refine wpAny_bind (wpAny_attempt (wpAny_callSpecial?_slot (name := Str.ofString "__next__") ty F.slot_zip_next (wpAny_call_entry F.slot_zip_next ty F.entry_zip_next (nx_end hh D S1 S2 z0 p1 p2 t1 t2 he fun h' e hk stop => ?_) (F.args_zip_next_1 _))))
  obtain ⟨o, ho, hc⟩ := stop
  exact wpAny_bind (wpAny_isInstance (T := "StopIteration") (b := true) ⟨o, ho, hc⟩ isSubtype_stop (wpAny_pure (q _ hk)))
end
end Zm

set_option Elab.async false
set_option linter.all false
set_option maxRecDepth 100000
set_option maxHeartbeats 4000000
namespace Zm
open PySem PySem.Spec PyProof.Rows L2
/-! ### zip(tuple, list) -/
def ItM (K : PySem.W.Frag) (t l : Addr) : It where
  go := fun i H => ∃ us vs : List V, ∃ u v : V, SqT K H t us ∧ SqL K H l vs ∧ us[i]? = some u ∧ vs[i]? = some v
  yld := fun i H y H' => ∃ n u v, y = .ref n ∧ H n = none ∧ H' = upd H n (.tup [u, v]) ∧ (∀ us, SqT K H t us → us[i]? = some u) ∧ ∀ vs, SqL K H l vs → vs[i]? = some v
  stop := fun i H => ∃ us vs : List V, SqT K H t us ∧ SqL K H l vs ∧ (us.length ≤ i ∨ vs.length ≤ i)
theorem turn_zipM {P : Program} {w : World} {K : PySem.W.Frag} {elts : List Expr} {kk : Nat} {tpos : Pos} {t l z p q i1 i2 : Addr} (D : ZipApart z p q i1 i2 t l) (n1 : t ≠ i1) (n2 : l ≠ i2) :
    Turn P w K (.Tuple elts kk tpos) (ItM K t l) [z, p, q, i1, i2] z (fun i h => IsZip h z p q .none ∧ IsPair h p (.ref i1) (.ref i2) ∧ (∃ u v, IsPair h q u v) ∧ h.IsTupleIter i1 t i ∧ h.IsListIter i2 l i) where
  mem := by simp
  obj := fun i h st c hc => by
    obtain ⟨zz, pp, ⟨u, v, qq⟩, ⟨o1, a1, _, b1⟩, ⟨o2, a2, _, b2⟩⟩ := st
    have cases5 : c = z ∨ c = p ∨ c = q ∨ c = i1 ∨ c = i2 := by simpa using hc
    rcases cases5 with r | r | r | r | r <;> rw [r]
    · exact ⟨_, zz, fun v r => nomatch r⟩
    · exact ⟨_, pp, fun v r => nomatch r⟩
    · exact ⟨_, qq, fun v r => nomatch r⟩
    · exact ⟨o1, a1, fun v r => by rw [b1] at r; cases r⟩
    · exact ⟨o2, a2, fun v r => by rw [b2] at r; cases r⟩
  keep := fun i h h' st k => by
    obtain ⟨zz, pp, ⟨u, v, qq⟩, t1, t2⟩ := st
    exact ⟨k z (by simp) _ zz, k p (by simp) _ pp, ⟨u, v, k q (by simp) _ qq⟩, t1.at fun o r => k i1 (by simp) o r, t2.at fun o r => k i2 (by simp) o r⟩
  item := by
    intro X hP hw hK hc i pins s σ H E I hf st hg; subst hP hw hK
    obtain ⟨zz, pp, ⟨u0, v0, qq⟩, t1, t2⟩ := st
    obtain ⟨us, vs, u, v, hu, hv, eu, ev⟩ := hg
    obtain ⟨its, rv, c1, _⟩ := I.tuple hu
    obtain ⟨its2, rv2, c2, _⟩ := I.list hv
    obtain ⟨x, ex, rx⟩ := rv.get eu
    obtain ⟨y, ey, ry⟩ := rv2.get ev
    have zlt : z < s.heap.objs.size := Heap.lt_size zz
    refine py_item D (src_tup n1) (src_lst n2) zz pp qq ⟨t1, c1⟩ ⟨t2, c2.isList⟩ (x := x) (y := y) (by simpa using ex) (by simpa using ey) fun h' z' q' k1 k2 hT hk => ⟨_, rfl, wpAny_letOwnedTupleGo_zip (s := { s with heap := h' }) z' fun h'' z'' sb => ?_⟩
    have hT2 : h''.get? s.heap.objs.size = some { cls := .type "tuple", data := .seq #[x, y] } := (sb.2 _ (Nat.ne_of_gt zlt)).trans hT
    have ok : ObjOk X.prog X.w (upd H s.heap.objs.size (.tup [u, v])) h'' s.heap.objs.size (.tup [u, v]) := ⟨by show 2 ≤ sizeLine; decide, [x, y], .cons rx (.cons ry .nil), ⟨_, hT2, rfl, _, rfl⟩⟩
    have I1 := I.turnedNew (t' := s.toks) (ch := [z, p, q, i1, i2]) (fun c o nb r => (sb.2 c (fun m => nb (by simp [m]))).trans (hk c o (fun m => nb (by simp [m])) (fun m => nb (by simp [m])) (fun m => nb (by simp [m])) (fun m => nb (by simp [m])) r)) hf (Nat.le_refl _) ok
    refine ⟨.ref s.heap.objs.size, _, I1, rfl, ⟨_, u, v, rfl, I.hok.fresh (Nat.le_refl _), rfl, fun l hl => by rw [I.tuple_inj hl hu]; exact eu, fun l hl => by rw [I.list_inj hl hv]; exact ev⟩, ⟨z'', (sb.2 _ D.TIz).trans (hk _ _ D.TIz D.TITO D.TIi1 D.TIi2 pp), ⟨x, y, (sb.2 _ D.TOz).trans q'⟩, k1.1.at fun o r => (sb.2 _ D.i1z).trans r, k2.1.at fun o r => (sb.2 _ D.i2z).trans r⟩, fun c hcm => ?_⟩
    have clt : c < s.heap.objs.size := by
      have cases5 : c = z ∨ c = p ∨ c = q ∨ c = i1 ∨ c = i2 := by simpa using hcm
      rcases cases5 with r | r | r | r | r <;> rw [r]
      · exact zlt
      · exact Heap.lt_size pp
      · exact Heap.lt_size qq
      · obtain ⟨_, e1, _⟩ := t1; exact Heap.lt_size e1
      · obtain ⟨_, e2, _⟩ := t2; exact Heap.lt_size e2
    rw [upd_ne (Nat.ne_of_lt clt)]; exact (hf c hcm).1
  done := by
    intro X hP hw hK hc i pins s σ H E I hf st hg; subst hP hw hK
    obtain ⟨zz, pp, ⟨u0, v0, qq⟩, t1, t2⟩ := st
    obtain ⟨us, vs, hu, hv, hend⟩ := hg
    obtain ⟨its, rv, c1, _⟩ := I.tuple hu
    obtain ⟨its2, rv2, c2, _⟩ := I.list hv
    have l1 := rv.length
    have l2 := rv2.length
    have he : its.toArray[i]? = none ∨ its2.toArray[i]? = none := by
      rcases hend with r | r
      · left; simp; omega
      · right; simp; omega
    exact py_end (I.ok.hd hc) D (src_tup n1) (src_lst n2) zz pp qq ⟨t1, c1⟩ ⟨t2, c2.isList⟩ he fun h' hk => ⟨rfl, I.turnedL (t' := s.toks) (ch := [z, p, q, i1, i2]) (fun c o nb r => hk c o (fun m => nb (by simp [m])) (fun m => nb (by simp [m])) (fun m => nb (by simp [m])) (fun m => nb (by simp [m])) r) hf⟩
  self := fun A i s Q E st h => wpAny_pyIter_zip st.1 h
def iZipM (K : PySem.W.Frag) (ta : TA) : TI := fun σ H R => ta σ H fun vs H1 => ∃ a b xs ys, vs = [.ref a, .ref b] ∧ SqT K H1 a xs ∧ SqL K H1 b ys ∧ R (ItM K a b) H1
theorem pi_zipM {X : Cx} {e e2 : Expr} {ta : TA} {p pos tpos : Pos} {elts : List Expr} {kk : Nat} (hg : Gl X "zip") (hm : X.mg "zip" = none) (ha : PA X [e, e2] ta)
    (hs : starEach [e, e2] X.env = (false, eval e X.env) :: starEach [e2] X.env := by rfl) (hpl : (backTo pos (starEach [e2] X.env)).any (·.1) = false := by rfl) : PI X (.Tuple elts kk tpos) (.Call (.Name "zip" p) [e, e2] [] pos) (iZipM X.K ta) := ⟨fun pins s σ H R I h => Call_ (ld_blt I hg hm boot_zip (callWith_type1 (thn (ha.run pos pins s σ H _ I h) fun us s1 ⟨vs, H1, I1, r1, q1⟩ => by
  obtain ⟨a, b, xs, ys, ex, hx, hy, q⟩ := q1
  subst ex
  obtain ⟨_, _, rfl, r, r'⟩ := vals2 r1
  cases r
  cases r'
  obtain ⟨its, rv, c1, _⟩ := I1.tuple hx
  obtain ⟨its2, rv2, c2, _⟩ := I1.list hy
  obtain ⟨o1, ho1, _⟩ := id c1
  have lt1 : a < s1.heap.objs.size := Heap.lt_size ho1
  have lt2 : b < s1.heap.objs.size := c2.lt
  refine PySem.zip_begins2 (PySem.begins_tuple a its.toArray) (PySem.begins_list b its2.toArray) c1 c2.isList fun h' zz pp qq g1 g2 hsz hk => wpAny_pyIter_zip zz ?_
  have nw : ∀ c, c ∈ [s1.heap.objs.size + 4, s1.heap.objs.size + 2, s1.heap.objs.size + 3, s1.heap.objs.size, s1.heap.objs.size + 1] → FpOk X pins H1 c := fun c hcm => by
    have cases5 : c = s1.heap.objs.size + 4 ∨ c = s1.heap.objs.size + 2 ∨ c = s1.heap.objs.size + 3 ∨ c = s1.heap.objs.size ∨ c = s1.heap.objs.size + 1 := by simpa using hcm
    have hle : s1.heap.objs.size ≤ c := by
      rcases cases5 with m | m | m | m | m <;> rw [m]
      · exact Nat.le_add_right _ _
      · exact Nat.le_add_right _ _
      · exact Nat.le_add_right _ _
      · exact Nat.le_refl _
      · exact Nat.le_add_right _ _
    exact I1.fpOk hle (I1.hok.fresh hle)
  have I2 : Inv X pins σ H1 { s1 with heap := h' } := I1.kept (t' := s1.toks) hk
  exact ⟨s1.heap.objs.size + 4, [s1.heap.objs.size + 4, s1.heap.objs.size + 2, s1.heap.objs.size + 3, s1.heap.objs.size, s1.heap.objs.size + 1], _, _, H1, rfl, I2, turn_zipM (PySem.W.ktu_apart s1.heap.objs.size a b lt1 lt2) (Nat.ne_of_lt lt1) (Nat.ne_of_lt (Nat.lt_succ_of_lt lt2)), ⟨zz, pp, ⟨_, _, qq⟩, ⟨_, g1, rfl, rfl⟩, ⟨_, g2, rfl, rfl⟩⟩, nw, q⟩) hs hpl))⟩
theorem walk_zipM {K : PySem.W.Frag} {a b : Addr} {xs ys : List V} {n : Nat} (hx : n = xs.length) (hy : n = ys.length) : Walk (ItM K a b) n (fun H => SqT K H a xs ∧ SqL K H b ys) (YPair (fun i => xs[i]?) (fun i => ys[i]?)) := by
  refine ⟨fun i _ hi q => ⟨xs, ys, xs[i], ys[i], q.1, q.2, List.getElem?_eq_getElem (by omega), List.getElem?_eq_getElem (by omega)⟩, fun _ q => ⟨xs, ys, q.1, q.2, .inl (by omega)⟩, fun i H v H' _ q y => ?_⟩
  obtain ⟨T, x, z, h1, h2, h3, h4, h5⟩ := y
  exact ⟨T, x, z, h1, h2, h3, h4 xs q.1, h5 ys q.2⟩
theorem walk_zipTm {K : PySem.W.Frag} {a b : Addr} {xs ys : List V} {n : Nat} (hn : n = min xs.length ys.length) : Walk (RZ.ItzT K a b) n (fun H => SqT K H a xs ∧ SqT K H b ys) (YPair (fun i => xs[i]?) (fun i => ys[i]?)) := by
  refine ⟨fun i _ hi q => ⟨xs, ys, xs[i]'(by omega), ys[i]'(by omega), q.1, q.2, List.getElem?_eq_getElem (by omega), List.getElem?_eq_getElem (by omega)⟩, fun _ q => ⟨xs, ys, q.1, q.2, by omega⟩, fun i H v H' _ q y => ?_⟩
  obtain ⟨T, x, z, h1, h2, h3, h4, h5⟩ := y
  exact ⟨T, x, z, h1, h2, h3, h4 xs q.1, h5 ys q.2⟩
/-! ### the sum of a tuple of ints -/
def rSumT (K : PySem.W.Frag) : List V → Hp → VK → Prop := fun vs H Q => ∃ (a : Addr) (ns : List Int), vs = [V.ref a] ∧ SqT K H a (ns.map V.int) ∧ Q (.int ns.sum) H
theorem cr_sumT {X : Cx} (hc : X.calm = true) : CallR X (.builtin "sum") (rSumT X.K) := fun pins s σ H vs us Q I r h => by
  obtain ⟨a, ns, rfl, hs, q⟩ := h
  obtain ⟨its, rv, hl, _⟩ := I.tuple hs
  obtain ⟨xs, e⟩ := rv.ints.allInts.items
  have hn : numsOf (intItems xs).toList = ns := by rw [← e]; exact rv.ints.numsOf
  rw [nums_intItems] at hn
  have ht : s.heap.IsTuple a its.toArray := hl
  rw [e] at ht
  rw [Vals.ref1 r]
  refine PySem.W.ktm_sumG (I.ok.hd hc) ht fun h' tk t' hk => ⟨.int _, H, I.kept hk, ⟨_, rfl⟩, ?_⟩
  rw [preSum_eq, List.take_of_length_le (by simp), hn]
  exact q
/-! ### slices and sums of tuples: some tuple of these items -/
def rCatH : R2 := fun x y H Q => ∃ a b xs ys, x = .ref a ∧ y = .ref b ∧ H a = some (.tup xs) ∧ H b = some (.tup ys) ∧ xs.length + ys.length ≤ sizeLine ∧ ∀ p H', (∀ b o, H b = some o → H' b = some o) → H' p = some (.tup (xs ++ ys)) → Q (.ref p) H'
theorem op_catH {X : Cx} : OpR X (binaryOp .Add) rCatH := fun pins s σ H x y v u Q I rx ry h => by
  obtain ⟨a, b, xs, ys, ex, ey, ha, hb, hz, q⟩ := h
  refine op_catA pins s σ H x y v u Q I rx ry ⟨a, b, xs, ys, ex, ey, .of ha, .of hb, hz, fun e => ?_, fun _ e => ?_, fun _ _ p hp => q p _ (fun b o e => by rw [upd_ne (fun r => by rw [r, hp] at e; cases e)]; exact e) upd_same⟩
  · exact q b H (fun _ _ e => e) (by rw [e]; exact hb)
  · exact q a H (fun _ _ e => e) (by rw [e, List.append_nil]; exact ha)
def rSlH : V → Option Int → Option Int → Hp → VK → Prop := fun x lo hi H Q => ∃ a xs, x = .ref a ∧ H a = some (.tup xs) ∧ ∀ p H', (∀ b o, H b = some o → H' b = some o) → H' p = some (.tup (cutV xs lo hi)) → Q (.ref p) H'
theorem sl_tupH {X : Cx} : SlR X rSlH := fun pins s σ H x v vl vu lo hi sl Q I rx hs pl pu h => by
  obtain ⟨a, xs, ex, hx, q⟩ := h
  refine sl_tupA pins s σ H x v vl vu lo hi sl Q I rx hs pl pu ⟨a, xs, ex, .of hx, fun e => q a H (fun _ _ e => e) ?_, fun _ p hp => q p _ (fun b o e => by rw [upd_ne (fun r => by rw [r, hp] at e; cases e)]; exact e) upd_same⟩
  have : cutV xs lo hi = xs := by
    unfold cutV
    rw [e.1, e.2]
    simp
  rw [this]
  exact hx
end Zm

set_option Elab.async false
set_option linter.all false
set_option maxRecDepth 100000
set_option maxHeartbeats 4000000
namespace Zm
open PySem PySem.Spec PyProof.Rows HT L2
/-! ### t[::-1] of a tuple -/
theorem adj_rev (n : Nat) : Builtin.Slice.sliceAdjust none none (-1) (n : Int) = ((n : Int) - 1, -1) := by
  unfold Builtin.Slice.sliceAdjust
  simp
theorem pl_rev (n : Nat) : Builtin.Slice.slicePlaces ((n : Int) - 1) (-1) (-1) = n := by
  unfold Builtin.Slice.slicePlaces
  rw [if_neg (by decide)]
  split
  · rw [show (n : Int) - 1 - -1 - 1 = (n : Int) - 1 by omega, show (- -1 : Int) = 1 by decide, Int.ediv_one]
    omega
  · omega
theorem pick_rev (xs : Array Value) : ((List.range xs.size).filterMap fun (k : Nat) => xs[(((xs.size : Int) - 1) + (k : Int) * (-1)).toNat]?).toArray = xs.toList.reverse.toArray := by
  have e : (List.range xs.size).filterMap (fun (k : Nat) => xs[(((xs.size : Int) - 1) + (k : Int) * (-1)).toNat]?) = ((List.range xs.size).map fun k => xs.size - 1 - k).filterMap (xs[·]?) := by
    rw [List.filterMap_map]
    congr 1
    funext k
    show xs[(((xs.size : Int) - 1) + (k : Int) * (-1)).toNat]? = xs[xs.size - 1 - k]?
    congr 1
    omega
  rw [e, PySem.W.krv_range, List.filterMap_reverse, PySem.W.krv_all]
section
variable {prog : Program} {w : World} {A : Around} {E : Value → Shared → Prop} {s : Shared}
theorem applied_rev {sl : Addr} {vs : Value} {n : Nat} {Q : Int × Int × Nat → Shared → Prop} (hs : s.heap.IsSliceOf sl .none .none vs) (ps : IsPart vs (some (-1))) (h : Q ((n : Int) - 1, -1, n) s) : wpAny (model prog w) A (Builtin.Slice.sliceApplied (.ref sl) (pure (n : Int))) Q E s := by
  obtain ⟨o, ho, hc, hd⟩ := id hs
  unfold Builtin.Slice.sliceApplied Builtin.Slice.sliceFields
  refine wpAny_bind (wpAny_bind (wpAny_field ho hd (x := .none) rfl (wpAny_bind (wpAny_field ho hd (x := .none) rfl (wpAny_bind (wpAny_field ho hd (x := vs) rfl (wpAny_pure ?_)))))))
  refine wpAny_bind (slicePart_ ps ?_)
  show wpAny _ _ (if ((-1 : Int) == 0) = true then _ else _) _ _ s
  rw [if_neg (by decide)]
  refine wpAny_bind (slicePart_none (wpAny_bind (slicePart_none (wpAny_bind (wpAny_pure ?_)))))
  show wpAny _ _ (match Builtin.Slice.sliceAdjust none none (-1) (n : Int) with | (lo, hi) => pure (lo, (-1 : Int), Builtin.Slice.slicePlaces lo hi (-1))) _ _ s
  rw [adj_rev n]
  show wpAny _ _ (pure ((n : Int) - 1, (-1 : Int), Builtin.Slice.slicePlaces ((n : Int) - 1) (-1) (-1))) _ _ s
  rw [pl_rev]
  exact wpAny_pure h
theorem item_rev {t sl : Addr} {items : Array Value} {vs : Value} {Q : Value → Shared → Prop} (ht : IsTup s.heap t items) (hs : s.heap.IsSliceOf sl .none .none vs) (ps : IsPart vs (some (-1))) (hsz : items.size ≤ sizeLine)
    (h : Q (.ref s.heap.objs.size) { s with heap := s.heap.push { cls := .type "tuple", data := .seq items.toList.reverse.toArray } }) : wpAny (model prog w) A (getItem (.ref t) (.ref sl)) Q E s := by
  have fit : sizeOk (.seq items.toList.reverse.toArray) := by
    show items.toList.reverse.toArray.size ≤ sizeLine
    rw [List.size_toArray, List.length_reverse, Array.length_toList]
    exact hsz
  obtain ⟨o, ho, hc, hd⟩ := id hs
  have ty : s.TypeIs (.ref sl) "slice" := ⟨o, ho, hc⟩
  unfold getItem
  try with_reducible refine wpAny_holding ?_
  first | refine wpAny_bind (wpAny_pure ?_) | skip
  refine wpAny_bind (wpAny_sequenceKey ht.typeIs (by decide) (wpAny_bind (wpAny_callSpecial?_slot (name := Str.ofString "__getitem__") ht.typeIs PyProof.Rows.slot_tuple_getitem (wpAny_call_entry PyProof.Rows.slot_tuple_getitem ht.typeIs entry_tuple_getitem ?_ (args_tuple_getitem _ _)))))
  show wpAny _ _ (Builtin.Tuple.tupleItemsOf (.ref t) >>= _) _ _ s
  refine wpAny_bind (tupleItemsOf_ ht (wpAny_bind (wpAny_typeOf ty ?_)))
  rw [if_pos (by decide)]
  refine wpAny_bind (applied_rev hs ps ?_)
  have no : ¬ ((((items.size : Int) - 1) == 0 && (-1 : Int) == 1 && items.size == items.size) = true) := by
    intro q
    rw [Bool.and_eq_true, Bool.and_eq_true] at q
    exact absurd (eq_of_beq q.1.2) (by decide)
  show wpAny _ _ (if (((items.size : Int) - 1) == 0 && (-1 : Int) == 1 && items.size == items.size) = true then _ else _) _ _ s
  rw [if_neg no, pick_rev]
  first
    | exact wpAny_bind (m := Builtin.Tuple.tupleExact _) (wpAny_newObj_type (wpAny_pure ⟨_, rfl, wpAny_pure h⟩) fit)
    | exact wpAny_bind (m := Builtin.Tuple.tupleExact _) (wpAny_newObj_type (wpAny_bind (wpAny_pure (wpAny_pure ⟨_, rfl, wpAny_pure h⟩))) fit)
    | exact wpAny_bind (wpAny_bind (m := Builtin.Tuple.tupleExact _) (wpAny_newObj_type (wpAny_pure (wpAny_pure ⟨_, rfl, wpAny_pure h⟩)) fit))
end
def tRevT (te : TE) : TE := fun σ H Q => te σ H fun x H1 => ∃ a xs, x = .ref a ∧ H1 a = some (.tup xs) ∧ ∀ p, H1 p = none → Q (.ref p) (upd H1 p (.tup xs.reverse))
theorem pe_revT {X : Cx} {e : Expr} {te : TE} {k : Nat} {p1 p2 p3 pos : Pos} (he : PE X e te) : PE X (.Subscript e (.Slice none none (some (.UnaryOp .USub (.Constant (.int 1) k p1) p2)) p3) pos) (tRevT te) := ⟨fun pins s σ H Q I h => Subscript_ (thn (he.run pins s σ H _ I h) fun v s1 ⟨x, H1, I1, r1, q1⟩ => by
  obtain ⟨a, xs, ex, hx, q⟩ := q1
  subst ex
  cases r1
  have step : PO X (some (.UnaryOp .USub (.Constant (.int 1) k p1) p2)) (tPart (tUn (rU fun i => .int (-i)) (tC (.int 1)))) := po_some (pe_un un_neg pe_int)
  refine wpAny_Slice (wpAny_pure (wpAny_pure ?_))
  refine thn (step.run pins s1 σ H1 (fun o H4 => o = some (-1) ∧ H4 = H1) I1 ⟨1, rfl, -1, rfl, rfl, rfl⟩) fun vs s4 ⟨o, H4, I4, ps, eo, e4⟩ => ?_
  subst eo e4
  have I5 : Inv X pins σ H4 { s4 with heap := s4.heap.push { cls := .type "slice", data := .fields #[.none, .none, vs] } } := I4.kept (t' := s4.toks) fun b ob q => Heap.get?_push_of_some _ q
  obtain ⟨its, r, ht, hz⟩ := I5.tuple (SqT.of hx)
  have hlen := r.length
  show wpAny (model X.prog X.w) X.A (subscriptTail e (.Slice none none (some (.UnaryOp .USub (.Constant (.int 1) k p1) p2)) p3) (.ref a) (.ref s4.heap.objs.size)) (EP X pins σ Q) X.xe { s4 with heap := s4.heap.push { cls := .type "slice", data := .fields #[.none, .none, vs] } }
  refine tail_any (ops := [.ref a, .ref s4.heap.objs.size]) ht.typeIs (PyProof.Rows.slot_tuple_getitem.lookup) ?_ (by with_unfolding_all rfl)
  refine item_rev ht (Heap.IsSliceOf.new _ .none .none vs) ps (by rw [List.size_toArray]; omega) ⟨.ref _, _, I5.laid (t' := s4.toks) (o := .tup xs.reverse) (fun b ob q => Heap.get?_push_of_some _ q) (Nat.le_refl _) ⟨by rw [List.length_reverse]; exact hz, _, r.reverse, ⟨_, Heap.get?_push_size _ rfl, rfl, _, rfl⟩⟩, rfl, q _ (I5.hok.fresh (Nat.le_refl _))⟩)⟩
end Zm

set_option Elab.async false
set_option linter.all false
set_option maxRecDepth 100000
set_option maxHeartbeats 4000000
namespace Zm
open PySem PySem.Spec PyProof.Rows L2
/-! ### zip(list, tuple, tuple) -/
def It3 (K : PySem.W.Frag) (l t r : Addr) : It where
  go := fun i H => ∃ us vs ws : List V, ∃ u v w : V, SqL K H l us ∧ SqT K H t vs ∧ SqT K H r ws ∧ us[i]? = some u ∧ vs[i]? = some v ∧ ws[i]? = some w
  yld := fun i H y H' => ∃ n u v w, y = .ref n ∧ H n = none ∧ H' = upd H n (.tup [u, v, w]) ∧ (∀ us, SqL K H l us → us[i]? = some u) ∧ (∀ vs, SqT K H t vs → vs[i]? = some v) ∧ ∀ ws, SqT K H r ws → ws[i]? = some w
  stop := fun i H => ∃ us vs ws : List V, SqL K H l us ∧ SqT K H t vs ∧ SqT K H r ws ∧ i ≤ us.length ∧ i ≤ vs.length ∧ i ≤ ws.length ∧ (i = us.length ∨ i = vs.length ∨ i = ws.length)
structure Off (z p q i1 i2 i3 l t r : Addr) : Prop where
  sep : ZipSep3 z p q i1 i2 i3 [i1, l] [i2, t] [i3, r]
  n1 : l ≠ i1
  n2 : t ≠ i2
  n3 : r ≠ i3
theorem nin {x a b : Addr} (h1 : x ≠ a) (h2 : x ≠ b) : x ∉ [a, b] := fun h => by
  rcases List.mem_cons.mp h with e | h
  · exact h1 e
  · exact h2 (List.mem_singleton.mp h)
theorem off_new {I l t r : Nat} (h1 : l < I) (h2 : t < I) (h3 : r < I) : Off (I + 5) (I + 3) (I + 4) I (I + 1) (I + 2) l t r := by
  have ne : ∀ {a b : Nat}, a ≠ b → (a : Addr) ≠ b := fun h => h
  refine ⟨?_, ne (by omega), ne (by omega), ne (by omega)⟩
  constructor <;> first
    | (refine ne ?_; omega)
    | exact List.mem_cons_self ..
    | (refine nin (ne ?_) (ne ?_) <;> omega)
theorem turn_zip3 {P : Program} {w : World} {K : PySem.W.Frag} {elts : List Expr} {kk : Nat} {tpos : Pos} {l t r z p q i1 i2 i3 : Addr} (D : Off z p q i1 i2 i3 l t r) :
    Turn P w K (.Tuple elts kk tpos) (It3 K l t r) [z, p, q, i1, i2, i3] z (fun i h => IsZip h z p q .none ∧ IsTupOf3 h p (.ref i1) (.ref i2) (.ref i3) ∧ (∃ u v x, IsTupOf3 h q u v x) ∧ h.IsListIter i1 l i ∧ h.IsTupleIter i2 t i ∧ h.IsTupleIter i3 r i) where
  mem := by simp
  obj := fun i h st c hc => by
    obtain ⟨zz, pp, ⟨u, v, x, qq⟩, ⟨o1, a1, _, b1⟩, ⟨o2, a2, _, b2⟩, ⟨o3, a3, _, b3⟩⟩ := st
    have cases6 : c = z ∨ c = p ∨ c = q ∨ c = i1 ∨ c = i2 ∨ c = i3 := by simpa using hc
    rcases cases6 with r | r | r | r | r | r <;> rw [r]
    · exact ⟨_, zz, fun v r => nomatch r⟩
    · exact ⟨_, pp, fun v r => nomatch r⟩
    · exact ⟨_, qq, fun v r => nomatch r⟩
    · exact ⟨o1, a1, fun v r => by rw [b1] at r; cases r⟩
    · exact ⟨o2, a2, fun v r => by rw [b2] at r; cases r⟩
    · exact ⟨o3, a3, fun v r => by rw [b3] at r; cases r⟩
  keep := fun i h h' st k => by
    obtain ⟨zz, pp, ⟨u, v, x, qq⟩, t1, t2, t3⟩ := st
    exact ⟨k z (by simp) _ zz, k p (by simp) _ pp, ⟨u, v, x, k q (by simp) _ qq⟩, t1.at fun o r => k i1 (by simp) o r, t2.at fun o r => k i2 (by simp) o r, t3.at fun o r => k i3 (by simp) o r⟩
  item := by
    intro X hP hw hK hc i pins s σ H E I hf st hg; subst hP hw hK
    obtain ⟨zz, pp, ⟨u0, v0, x0, qq⟩, t1, t2, t3⟩ := st
    obtain ⟨us, vs, ws, u, v, x, hu, hv, hx, eu, ev, ex⟩ := hg
    obtain ⟨its, rv, c1, _⟩ := I.list hu
    obtain ⟨its2, rv2, c2, _⟩ := I.tuple hv
    obtain ⟨its3, rv3, c3, _⟩ := I.tuple hx
    obtain ⟨y1, e1, r1⟩ := rv.get eu
    obtain ⟨y2, e2, r2⟩ := rv2.get ev
    obtain ⟨y3, e3, r3⟩ := rv3.get ex
    have g1 : i < its.length := (List.getElem?_eq_some_iff.mp e1).1
    have g2 : i < its2.length := (List.getElem?_eq_some_iff.mp e2).1
    have g3 : i < its3.length := (List.getElem?_eq_some_iff.mp e3).1
    have zlt : z < s.heap.objs.size := Heap.lt_size zz
    have hh : X.A.in1.handled = none := I.ok.hd hc
    refine wpAny_pyNext_zipD3_item D.sep (Draws.list hh i1 l D.n1 its.toArray) (Draws.tuple hh i2 t D.n2 its2.toArray) (Draws.tuple hh i3 r D.n3 its3.toArray) zz pp qq ⟨t1, c1.isList⟩ ⟨t2, c2⟩ ⟨t3, c3⟩ (by simpa using g1) (by simpa using g2) (by simpa using g3) fun x1 x2 x3 h' tk f1 f2 f3 z' q' k1 k2 k3 hT _ hk => ?_
    have f1 : x1 = y1 := by
      have f1 : its.toArray[i]? = some x1 := f1
      rw [List.getElem?_toArray, e1] at f1
      cases f1
      rfl
    have f2 : x2 = y2 := by
      have f2 : its2.toArray[i]? = some x2 := f2
      rw [List.getElem?_toArray, e2] at f2
      cases f2
      rfl
    have f3 : x3 = y3 := by
      have f3 : its3.toArray[i]? = some x3 := f3
      rw [List.getElem?_toArray, e3] at f3
      cases f3
      rfl
    subst f1 f2 f3
    refine ⟨_, rfl, wpAny_letOwnedTupleGo_zip (s := { s with heap := h', toks := tk }) z' fun h'' z'' sb => ?_⟩
    have hT2 : h''.get? s.heap.objs.size = some { cls := .type "tuple", data := .seq #[x1, x2, x3] } := (sb.2 _ (Nat.ne_of_gt zlt)).trans hT
    have ok : ObjOk X.prog X.w (upd H s.heap.objs.size (.tup [u, v, x])) h'' s.heap.objs.size (.tup [u, v, x]) := ⟨by show 3 ≤ sizeLine; decide, [x1, x2, x3], .cons r1 (.cons r2 (.cons r3 .nil)), ⟨_, hT2, rfl, _, rfl⟩⟩
    have I1 := I.turnedNew (t' := tk) (ch := [z, p, q, i1, i2, i3]) (fun c o nb r => (sb.2 c (fun m => nb (by simp [m]))).trans (hk c o (fun m => nb (by simp [m])) (fun m => nb (by simp [m])) (fun m => nb (by simp [m])) (fun m => nb (by simp [m])) (fun m => nb (by simp [m])) r)) hf (Nat.le_refl _) ok
    refine ⟨.ref s.heap.objs.size, _, I1, rfl, ⟨_, u, v, x, rfl, I.hok.fresh (Nat.le_refl _), rfl, fun l hl => by rw [I.list_inj hl hu]; exact eu, fun l hl => by rw [I.tuple_inj hl hv]; exact ev, fun l hl => by rw [I.tuple_inj hl hx]; exact ex⟩, ⟨z'', (sb.2 _ D.sep.TIz).trans (hk _ _ D.sep.TIz D.sep.TITO D.sep.TIi1 D.sep.TIi2 D.sep.TIi3 pp), ⟨x1, x2, x3, (sb.2 _ D.sep.TOz).trans q'⟩, k1.1.at fun o r => (sb.2 _ D.sep.zi1.symm).trans r, k2.1.at fun o r => (sb.2 _ D.sep.zi2.symm).trans r, k3.1.at fun o r => (sb.2 _ D.sep.zi3.symm).trans r⟩, fun c hcm => ?_⟩
    have clt : c < s.heap.objs.size := by
      have cases6 : c = z ∨ c = p ∨ c = q ∨ c = i1 ∨ c = i2 ∨ c = i3 := by simpa using hcm
      rcases cases6 with r | r | r | r | r | r <;> rw [r]
      · exact zlt
      · exact Heap.lt_size pp
      · exact Heap.lt_size qq
      · obtain ⟨_, e1, _⟩ := t1; exact Heap.lt_size e1
      · obtain ⟨_, e2, _⟩ := t2; exact Heap.lt_size e2
      · obtain ⟨_, e3, _⟩ := t3; exact Heap.lt_size e3
    rw [upd_ne (Nat.ne_of_lt clt)]; exact (hf c hcm).1
  done := by
    intro X hP hw hK hc i pins s σ H E I hf st hg; subst hP hw hK
    obtain ⟨zz, pp, ⟨u0, v0, x0, qq⟩, t1, t2, t3⟩ := st
    obtain ⟨us, vs, ws, hu, hv, hx, l1, l2, l3, hend⟩ := hg
    obtain ⟨its, rv, c1, _⟩ := I.list hu
    obtain ⟨its2, rv2, c2, _⟩ := I.tuple hv
    obtain ⟨its3, rv3, c3, _⟩ := I.tuple hx
    have m1 := rv.length
    have m2 := rv2.length
    have m3 := rv3.length
    have hh : X.A.in1.handled = none := I.ok.hd hc
    exact wpAny_pyNext_zipD3_end D.sep (Draws.list hh i1 l D.n1 its.toArray) (Draws.tuple hh i2 t D.n2 its2.toArray) (Draws.tuple hh i3 r D.n3 its3.toArray) zz pp qq ⟨t1, c1.isList⟩ ⟨t2, c2⟩ ⟨t3, c3⟩ (by simp; omega) (by simp; omega) (by simp; omega) (by simp; omega) fun h' tk hk => ⟨rfl, I.turnedL (t' := tk) (ch := [z, p, q, i1, i2, i3]) (fun c o nb r => hk c o (fun m => nb (by simp [m])) (fun m => nb (by simp [m])) (fun m => nb (by simp [m])) (fun m => nb (by simp [m])) (fun m => nb (by simp [m])) r) hf⟩
  self := fun A i s Q E st h => wpAny_pyIter_zip st.1 h
def iZip3 (K : PySem.W.Frag) (ta : TA) : TI := fun σ H R => ta σ H fun vs H1 => ∃ a b c xs ys zs, vs = [.ref a, .ref b, .ref c] ∧ SqL K H1 a xs ∧ SqT K H1 b ys ∧ SqT K H1 c zs ∧ R (It3 K a b c) H1
theorem pi_zip3 {X : Cx} {e e2 e3 : Expr} {ta : TA} {p pos tpos : Pos} {elts : List Expr} {kk : Nat} (hg : Gl X "zip") (hm : X.mg "zip" = none) (ha : PA X [e, e2, e3] ta)
    (hs : starEach [e, e2, e3] X.env = (false, eval e X.env) :: starEach [e2, e3] X.env := by rfl) (hpl : (backTo pos (starEach [e2, e3] X.env)).any (·.1) = false := by rfl) : PI X (.Tuple elts kk tpos) (.Call (.Name "zip" p) [e, e2, e3] [] pos) (iZip3 X.K ta) := ⟨fun pins s σ H R I h => Call_ (ld_blt I hg hm boot_zip (callWith_type1 (thn (ha.run pos pins s σ H _ I h) fun us s1 ⟨vs, H1, I1, r1, q1⟩ => by
  obtain ⟨a, b, c, xs, ys, zs, ex, hx, hy, hz, q⟩ := q1
  subst ex
  cases r1 with
  | cons r rr =>
  cases rr with
  | cons r' rr =>
  obtain ⟨_, rfl, r''⟩ := vals1 rr
  cases r
  cases r'
  cases r''
  obtain ⟨its, rv, c1, _⟩ := I1.list hx
  obtain ⟨its2, rv2, c2, _⟩ := I1.tuple hy
  obtain ⟨its3, rv3, c3, _⟩ := I1.tuple hz
  obtain ⟨o2, ho2, _⟩ := id c2
  obtain ⟨o3, ho3, _⟩ := id c3
  have lt1 : a < s1.heap.objs.size := c1.lt
  have lt2 : b < s1.heap.objs.size := Heap.lt_size ho2
  have lt3 : c < s1.heap.objs.size := Heap.lt_size ho3
  refine PySem.zip_begins3 (PySem.begins_list a its.toArray) (PySem.begins_tuple b its2.toArray) (PySem.begins_tuple c its3.toArray) c1.isList c2 c3 fun h' zz pp qq g1 g2 g3 hsz hk => wpAny_pyIter_zip zz ?_
  have nw : ∀ d, d ∈ [s1.heap.objs.size + 5, s1.heap.objs.size + 3, s1.heap.objs.size + 4, s1.heap.objs.size, s1.heap.objs.size + 1, s1.heap.objs.size + 2] → FpOk X pins H1 d := fun d hdm => by
    have cases6 : d = s1.heap.objs.size + 5 ∨ d = s1.heap.objs.size + 3 ∨ d = s1.heap.objs.size + 4 ∨ d = s1.heap.objs.size ∨ d = s1.heap.objs.size + 1 ∨ d = s1.heap.objs.size + 2 := by simpa using hdm
    have hle : s1.heap.objs.size ≤ d := by
      rcases cases6 with m | m | m | m | m | m <;> rw [m]
      · exact Nat.le_add_right _ _
      · exact Nat.le_add_right _ _
      · exact Nat.le_add_right _ _
      · exact Nat.le_refl _
      · exact Nat.le_add_right _ _
      · exact Nat.le_add_right _ _
    exact I1.fpOk hle (I1.hok.fresh hle)
  have I2 : Inv X pins σ H1 { s1 with heap := h' } := I1.kept (t' := s1.toks) hk
  exact ⟨s1.heap.objs.size + 5, [s1.heap.objs.size + 5, s1.heap.objs.size + 3, s1.heap.objs.size + 4, s1.heap.objs.size, s1.heap.objs.size + 1, s1.heap.objs.size + 2], _, _, H1, rfl, I2, turn_zip3 (off_new lt1 lt2 lt3), ⟨zz, pp, ⟨_, _, _, qq⟩, ⟨_, g1, rfl, rfl⟩, ⟨_, g2, rfl, rfl⟩, ⟨_, g3, rfl, rfl⟩⟩, nw, q⟩) hs hpl))⟩
/-- a new triple of the i-th of each -/
def Y3 (xs ys zs : List V) : Nat → Hp → V → Hp → Prop := fun i H v H' => ∃ T x y z, v = .ref T ∧ H T = none ∧ H' = upd H T (.tup [x, y, z]) ∧ xs[i]? = some x ∧ ys[i]? = some y ∧ zs[i]? = some z
theorem walk_zip3 {K : PySem.W.Frag} {a b c : Addr} {xs ys zs : List V} {n : Nat} (hx : n = xs.length) (hy : n = ys.length) (hz : n = zs.length) : Walk (It3 K a b c) n (fun H => SqL K H a xs ∧ SqT K H b ys ∧ SqT K H c zs) (Y3 xs ys zs) := by
  refine ⟨fun i _ hi q => ⟨xs, ys, zs, xs[i]'(by omega), ys[i]'(by omega), zs[i]'(by omega), q.1, q.2.1, q.2.2, List.getElem?_eq_getElem (by omega), List.getElem?_eq_getElem (by omega), List.getElem?_eq_getElem (by omega)⟩, fun _ q => ⟨xs, ys, zs, q.1, q.2.1, q.2.2, by omega, by omega, by omega, by omega⟩, fun i H v H' _ q y => ?_⟩
  obtain ⟨T, x, z, u, h1, h2, h3, h4, h5, h6⟩ := y
  exact ⟨T, x, z, u, h1, h2, h3, h4 xs q.1, h5 ys q.2.1, h6 zs q.2.2⟩
end Zm

set_option Elab.async false
set_option linter.all false
set_option maxRecDepth 100000
set_option maxHeartbeats 4000000
namespace Fl
open PySem PySem.Spec PyProof.Rows L2
/-! ### several except clauses, each with a name -/
abbrev Suites := List (Value × Nat × (Addr → Value → Option Addr → TS))
inductive ClsOk (X : Cx) : List ExceptHandler → Suites → Prop
  | nil : ClsOk X [] []
  | cons {x n : Str} {c : Value} {i : Nat} {ts : Addr → Value → Option Addr → TS} {b : Stmt} {su : List Stmt} {p q : Pos} {hs : List ExceptHandler} {l : Suites} (at_ : X.N[i]? = some n) (lo : X.env.kindOf n = some .local) (nm : Names X x c)
      (go : ∀ (a : Addr) (o : Obj) (cls : Value) (d : Option Addr) (pn : List (Addr × Obj)), Zc cls d o → (∃ vs, o.data = .fields vs) → PSs (X.suite a ((a, o) :: pn)) (b :: su) (ts a cls d)) (r : ClsOk X hs l) : ClsOk X (.ExceptHandler (some (.Name x p)) (some n) (b :: su) q :: hs) ((c, i, ts) :: l)
def wCls (K : PySem.W.Frag) (Wo : WX) (D : Ends) : Suites → WX
  | [] => Wo
  | (c, i, ts) :: r => wAs K c i ts (wCls K Wo D r) D
theorem ps_try_cls {X : Cx} {body : List Stmt} {h : ExceptHandler} {hds : List ExceptHandler} {l : Suites} {pos : Pos} {tb : WX → TS} {Wo : WX} (hs : X.stack = X.env :: X.outer) (hf : X.env.frame = some X.env.locals) (nd : X.N.Nodup) (tk : Takes X Wo)
    (hb : ∀ (W : WX) (pn : List (Addr × Obj)) (xe : Value → Shared → Prop), Takes (X.tr pn xe) W → PassesOwn (model X.prog X.w) X.A X.env xe → PSs (X.tr pn xe) body (tb W)) (hh : ClsOk X (h :: hds) l) :
    PS X (.Try body (h :: hds) [] [] pos) (fun D σ H => tb (wCls X.K Wo D l) D σ H) := by
  refine ⟨fun pins s σ H D I hw => ?_⟩
  have ok := I.ok
  have fr1 : X.A.frames = some (X.env :: X.outer) := ok.frames.trans (by rw [hs])
  refine wpAny_Try_except (wpAny_mono ((hb (wCls X.K Wo D l) (X.pn ++ pins) (fun e t₁ => wpAny (model X.prog X.w) X.A (noteFrame e X.env) (fun _ t₂ => wpAny (model X.prog X.w) X.A (setFlight e none) (fun _ t₃ => wpAny (model X.prog X.w) X.A (handleBy e X.env (h :: hds)) (SP X pins D) X.xe t₃) X.xe t₂) X.xe t₁) (fun u s' xx => ?_) PassesOwn.looking).run [] s σ H D (I.toTry _) hw) (fun f s1 hsp => ?_) (fun e s1 he => he))
  · obtain ⟨a, B, sI, _, σ', H', cls, d, rfl, J0, nb, up, sk0, na, os, ag, wish⟩ := xx
    have J : Inv X pins σ' H' sI := J0.ofTry ok
    have sk1 : Sky B (X.env :: X.outer) a (Zc cls d) X.env.locals s'.heap := by rw [← hs]; exact sk0
    show wpAny (model X.prog X.w) X.A (noteFrame (.ref a) X.env) _ _ _
    refine Sky.land Zc.steady fr1 hf sk1 fun g3 f3 u3 => ?_
    have Jn : Inv X pins σ' H' { s' with heap := g3 } := J.landed nb f3.1 (up.trans u3) os ag
    obtain ⟨o3, vs3, ho3, hz3, hd3⟩ := f3.there
    have far : a ∉ frs (X.env :: X.outer) := fun m => by
      obtain ⟨_, o', e', bad⟩ := f3.2.2.1.mem m
      cases ho3.symm.trans e'
      exact bad _ hd3
    have nL : a ≠ X.env.locals := fun z => far (List.mem_filterMap.mpr ⟨X.env, List.mem_cons_self, by rw [hf, z]⟩)
    have nF : a ∉ X.fs := fun m => by
      obtain ⟨e, me, q⟩ := List.mem_filterMap.mp m
      exact far (List.mem_filterMap.mpr ⟨e, List.mem_cons_of_mem _ me, q⟩)
    have Sn := Jn.suite ho3 hd3 na nL nF
    have each : ∀ {gs : List ExceptHandler} {m : Suites}, ClsOk X gs m → wCls X.K Wo D m cls d σ' H' → wpAny (model X.prog X.w) X.A (handleBy (.ref a) X.env gs) (SP X pins D) X.xe { s' with heap := g3 } := by
      intro gs m hk
      induction hk with
      | nil =>
        intro w0
        refine wpAny_handleBy_nil ?_
        obtain ⟨_, _, _, oe, vs, T, oT, ts', he, hz, hd, h1, hr⟩ := id f3
        have fin : wpAny (model X.prog X.w) X.A (setFlight (.ref a) X.env.frame) (fun _ s4 => wpAny (model X.prog X.w) X.A (throw (.ref a) : Sem Flow) (SP X pins D) X.xe s4) X.xe { s' with heap := g3 } := by
          rw [hf]
          exact HandSPX.setFlight_upZ f3 fun h4 hh4 up4 => wpAny_throw (tk _ _ ⟨a, B, sI, pins, σ', H', cls, d, rfl, J, nb, (up.trans u3).trans up4, .inr (.inr (by rw [hs]; exact hh4)), na, os, ag, w0⟩)
        unfold PySem.passOn
        refine wpAny_bind (wpAny_field he hd h1 ?_)
        rw [if_neg (by simp : ¬ ((Value.ref T == Value.none) = true))]
        first | exact wpAny_bind (wpAny_pure (wpAny_bind fin)) | exact wpAny_bind fin
      | @cons x n c i ts b su p q hs' l' at_ lo nm go r ih =>
        rintro ⟨k, hk1, yes, no⟩
        refine wpAny_handleBy_cons (codeAny_handlers_test ?_) nofun
        have LM := PySem.W.exm_one (M := model X.prog X.w) Jn.kIn (fun A Q E s k q => wpAny_typeOf_ref (k _ _ ho3) (by rw [hz3.1]; exact q)) hk1
        have asked : ∀ {Q E : Value → Shared → Prop}, Q c { s' with heap := g3 } → wpAny (model X.prog X.w) (X.A.mark (some (.ref a))) (eval (.Name x p) X.env) Q E { s' with heap := g3 } := fun {Q E} y => by
          obtain ⟨g, db, hm | ⟨hm, hv, hn⟩⟩ := nm
          · exact ld_glob (X := X.suite a ((a, o3) :: (X.pn ++ pins))) Sn g hm y db
          · exact ld_blt (X := X.suite a ((a, o3) :: (X.pn ++ pins))) Sn g hm hv y hn db
        refine asked (LM.here ?_)
        cases k with
        | false => exact ih (no rfl)
        | true =>
          refine codeAny_handlers_suite_as (HandSPX.lands_againZ f3 fun g4 f4 u4 => ?_)
          have J4 : Inv X pins σ' H' { s' with heap := g4 } := J.landed nb f4.1 ((up.trans u3).trans u4) os ag
          obtain ⟨o4, vs4, ho4, hz4, hd4⟩ := f4.there
          have S4 := J4.suite ho4 hd4 na nL nF
          refine store_ok (X := X.suite a ((a, o4) :: (X.pn ++ pins))) (v := .ref a) S4 nd at_ (.inl lo) rfl (fun s5 S5 => ?_) (.inr lo)
          refine wpAny_mono ((go a o4 cls d (X.pn ++ pins) hz4 ⟨_, hd4⟩).run [] s5 _ H' _ S5 (yes rfl a na)) (fun f s6 z6 => ?_) (fun _ _ z => z.elim)
          have gone : ∀ {σ6 : L2.St} {H6 : Hp} {Q : Shared → Prop}, Inv (X.suite a ((a, o4) :: (X.pn ++ pins))) [] σ6 H6 s6 → (∀ s7, Inv X pins (σ6.set i none) H6 s7 → Q s7) → wpAny (model X.prog X.w) X.A (do bindName X.env n .none; unbindBehindTheSuite X.env n q) (fun _ s7 => Q s7) X.xe s6 := fun {σ6 H6 Q} S6 y => gone_ok (S6.unsuite ok) nd at_ lo y
          cases f with
          | ret u =>
            obtain ⟨v6, σ6, H6, S6, r6, q6⟩ := z6
            exact gone S6 fun s7 J7 => ⟨_, _, _, J7, r6, q6⟩
          | next => obtain ⟨σ6, H6, S6, q6⟩ := z6; exact gone S6 fun s7 J7 => ⟨_, _, J7, q6⟩
          | brk => obtain ⟨σ6, H6, S6, q6⟩ := z6; exact gone S6 fun s7 J7 => ⟨_, _, J7, q6⟩
          | cont => obtain ⟨σ6, H6, S6, q6⟩ := z6; exact gone S6 fun s7 J7 => ⟨_, _, J7, q6⟩
    exact each hh wish
  · cases f with
    | ret u => obtain ⟨v, σ', H', J', r, q⟩ := hsp; exact ⟨v, σ', H', J'.ofTry ok, r, q⟩
    | next => obtain ⟨σ', H', J', q⟩ := hsp; exact wpAny_execs_nil ⟨σ', H', J'.ofTry ok, q⟩
    | brk => obtain ⟨σ', H', J', q⟩ := hsp; exact ⟨σ', H', J'.ofTry ok, q⟩
    | cont => obtain ⟨σ', H', J', q⟩ := hsp; exact ⟨σ', H', J'.ofTry ok, q⟩
end Fl

set_option Elab.async false
set_option linter.all false
set_option maxRecDepth 100000
set_option maxHeartbeats 4000000
namespace Bx
open PySem PySem.Spec PyProof.Rows L2 Fl
theorem int_add_own (a : Int) (t : Tok) (x C dx : Addr) : Meets (Builtin.«int.__add__» ⟨[.int a t, .ref x], []⟩) (fun _ R s => s.heap.get? x = some (PySem.W.instObj C dx) ∧ R (.ok (.ret Value.notImplemented)) s) :=
  .of_wp fun prog w A R s h => by obtain ⟨hp, g, d, tk, os⟩ := s; obtain ⟨hl, h⟩ := h; unfold PySem.W.instObj at hl; wp_walk; exact ⟨_, rfl, h⟩
theorem int_sub_own (a : Int) (t : Tok) (x C dx : Addr) : Meets (Builtin.«int.__sub__» ⟨[.int a t, .ref x], []⟩) (fun _ R s => s.heap.get? x = some (PySem.W.instObj C dx) ∧ R (.ok (.ret Value.notImplemented)) s) :=
  .of_wp fun prog w A R s h => by obtain ⟨hp, g, d, tk, os⟩ := s; obtain ⟨hl, h⟩ := h; unfold PySem.W.instObj at hl; wp_walk; exact ⟨_, rfl, h⟩
theorem int_mul_own (a : Int) (t : Tok) (x C dx : Addr) : Meets (Builtin.«int.__mul__» ⟨[.int a t, .ref x], []⟩) (fun _ R s => s.heap.get? x = some (PySem.W.instObj C dx) ∧ R (.ok (.ret Value.notImplemented)) s) :=
  .of_wp fun prog w A R s h => by obtain ⟨hp, g, d, tk, os⟩ := s; obtain ⟨hl, h⟩ := h; unfold PySem.W.instObj at hl; wp_walk; exact ⟨_, rfl, h⟩
section
open PySem.W PySem.Calls
variable {prog : Program} {w : World} {A : Around} {E : Value → Shared → Prop} {s : Shared} {K : Frag} {x C L f g dx : Addr} {h₀ : Heap} {m : Str → Option Value} {od : Option Obj}
theorem bin_refl {op : Operator} {n : Int} {t : Tok} {id : String} {B : Builtin} {Q : Value → Shared → Prop} (F : Fr h₀ L s.heap m) (X₀ : K.In h₀) (I : PySem.W.InstAt s.heap x (PySem.W.instObj C dx) C od) (hc : selfFirst K C = true)
    (hs : findIn K (.ref C) (PySem.dunder op.info.2) = some (some (.ref f))) (hr : findIn K (.ref C) (dunderR op.info.2) = some (some (.ref g))) (hg : isFn K (.ref g) = true)
    (hsub : subIn K (.ref C) (.type "int") = some false) (fills : fillsNumberSlot (.type "int") op.info.2 = pure true) (slot : Slot "int" (PySem.dunder op.info.2) id) (entry : entryFor table id = some B) (args : argsOk id ⟨[.int n t, .ref x], []⟩)
    (mt : Meets (B ⟨[.int n t, .ref x], []⟩) (fun _ R s => s.heap.get? x = some (PySem.W.instObj C dx) ∧ R (.ok (.ret Value.notImplemented)) s))
    (h : wpAny (model prog w) A (call (.ref g) [.ref x, .int n t]) (PySem.W.CmpBack Q) E s) : wpAny (model prog w) A (binaryOp op (.int n t) (.ref x)) Q E s := by
  have X := X₀.keeps F.keep
  obtain ⟨cd, rest, hcd, hm⟩ := ksp_first hc
  rcases hi : op.info with ⟨sym, nm'⟩
  rw [hi] at hs hr fills slot
  dsimp only at hs hr fills slot
  have one := ksp_try X I hr hg h
  simp only [binaryOp, hi]
  refine wpAny_holding (wpAny_bind ?_)
  simp only [binaryOp1]
  refine wpAny_bind (wpAny_typeOf (typeIs_int s n t) (wpAny_bind (I.type.here (wpAny_bind (wpAny_of_eq fills ?_)))))
  have hne : (Value.type "int" == Value.ref C) = false := Bool.eq_false_iff.mpr fun q => by cases beq_iff_eq.mp q
  simp only [hne, Bool.false_eq_true, if_false]
  refine wpAny_bind ((fills_K X hcd hm hs).here ?_)
  simp only [Bool.and_self, if_true]
  refine wpAny_bind ((looks_subIn X hsub).here ?_)
  have hpy : numberSlotInPython (.type "int") nm' = pure false := rfl
  simp only [Bool.false_eq_true, if_false, pure_bind, Bool.not_false, Bool.and_self, if_true, hpy]
  refine wpAny_bind (wpAny_tryMethod_declines (typeIs_int s n t) slot (call_meets slot (typeIs_int s n t) entry args mt ⟨I.at_, ?_⟩))
  refine ⟨rfl, ?_⟩
  refine wpAny_bind (wpAny_mono one (fun r s' hr' => ?_) fun _ _ e => e)
  obtain ⟨v, rfl, hq⟩ := hr'
  exact wpAny_bind (wpAny_rule (wpAny_pure (wpAny_pure hq)))
end

section
open PySem.W PySem.Calls
variable {prog : Program} {w : World} {A : Around} {E : Value → Shared → Prop} {s : Shared} {K : Frag} {x C f : Addr} {ox : Obj} {od : Option Obj}
theorem call_abs_own {Q : Value → Shared → Prop} (X : K.In s.heap) (I : PySem.W.InstAt s.heap x ox C od) (hs : findIn K (.ref C) "__abs__" = some (some (.ref f))) (hf : isFn K (.ref f) = true)
    (h : wpAny (model prog w) A.in1 (call (.ref f) [.ref x]) Q E s) : wpAny (model prog w) A (call (.builtin "abs") [.ref x]) Q E s := by
  refine call_function_entry kind_abs plain_abs entry_abs (args_abs _) ?_
  unfold Builtin.«abs»
  refine wpAny_bind (wpAny_pure ?_)
  refine wpAny_bind (m := callSpecial? (.ref x) (Str.ofString "__abs__")) (special_fn X I hs (beq_iff_eq.mp hf) (wpAny_mono h (fun v s' hv => ?_) fun _ _ z => ?_))
  · exact wpAny_pure ⟨_, rfl, hv⟩
  · exact z
end
section
/-- the def that an operator's special name of the class C finds -/
structure OpOwn (P : Program) (w : World) (K : PySem.W.Frag) (mg : Str → Option Value) (base : Heap) (k : Nat) (C : Addr) (nm : Str) (ps : List Str) (sp : Sp) : Prop where
  ex : ∃ (f : Addr) (fd : FuncData), PySem.W.findIn K (.ref C) nm = some (some (.ref f)) ∧ PySem.W.isFn K (.ref f) = true ∧ FnOk P w K mg base CX0 k f fd ps sp ∧ Binds K fd ps []
def oR (Q : VK) : VK := fun v H2 => ∃ z, v = .ref z ∧ Q (.ref z) H2
def rOO (C : Addr) (sp : Sp) : R2 := fun x y H Q => ∃ (a dx : Addr) (gs : List (Str × V)) (b dy : Addr) (hs : List (Str × V)), x = .ref a ∧ H a = some (.ins C dx gs) ∧ y = .ref b ∧ H b = some (.ins C dy hs) ∧ sp [.ref a, .ref b] H (oR Q) E0
def rOI (C : Addr) (sp : Sp) : R2 := fun x y H Q => ∃ (a dx : Addr) (gs : List (Str × V)) (n : Int), x = .ref a ∧ H a = some (.ins C dx gs) ∧ y = .int n ∧ sp [.ref a, .int n] H (oR Q) E0
def rIO (C : Addr) (sp : Sp) : R2 := fun x y H Q => ∃ (a dx : Addr) (gs : List (Str × V)) (n : Int), y = .ref a ∧ H a = some (.ins C dx gs) ∧ x = .int n ∧ sp [.ref a, .int n] H (oR Q) E0
variable {X : Cx} {k : Nat} {C : Addr} {ps : List Str} {sp : Sp} {op : Operator}
theorem op_oo (M : OpOwn X.prog X.w X.K X.mg X.base k C (PySem.dunder op.info.2) ps sp) (hc : PySem.W.selfFirst X.K C = true) (hr : Room k X.A) : OpR X (binaryOp op) (rOO C sp) := by
  obtain ⟨f, fd, hs, hf, F, b⟩ := M.ex
  intro pins s σ H x y v u Q I rx ry h
  obtain ⟨a, dx, gs, b', dy, gs', rfl, ea, rfl, eb, q⟩ := h
  cases rx
  cases ry
  obtain ⟨mA, J, _⟩ := ins_get I.hok ea
  obtain ⟨od, J, _⟩ := J.look
  obtain ⟨mB, J', _⟩ := ins_get I.hok eb
  obtain ⟨od', J', _⟩ := J'.look
  obtain ⟨m, hF⟩ := I.fr
  refine PySem.W.binop_K hF I.ok.mod.kin J J'.type hc hs hf (wpAny_mono (run_fn F hr b (dvs := []) .nil pass0 I (.cons (show RelV (.ref a) (.ref a) from rfl) (.cons (show RelV (.ref b') (.ref b') from rfl) .nil)) q) (fun r s' hr => ?_) fun _ _ z => z)
  obtain ⟨z, H2, I2, rz, c, rfl, q2⟩ := hr
  cases rz
  exact ⟨V.ref c, H2, I2, rfl, q2⟩
theorem op_oi {rc : Option Value} {fo ro : Option Value} (M : OpOwn X.prog X.w X.K X.mg X.base k C (PySem.dunder op.info.2) ps sp) (hc : PySem.W.selfFirst X.K C = true) (hR : PySem.W.findIn X.K (.ref C) (dunderR op.info.2) = some rc) (hp : rc = none ∨ ∃ g : Addr, rc = some (.ref g))
    (h1 : PySem.W.findIn X.K (.type "int") (PySem.dunder op.info.2) = some fo) (h2 : PySem.W.findIn X.K (.type "int") (dunderR op.info.2) = some ro) (hsub : PySem.W.subIn X.K (.type "int") (.ref C) = some false) (hr : Room k X.A) : OpR X (binaryOp op) (rOI C sp) := by
  obtain ⟨f, fd, hs, hf, F, b⟩ := M.ex
  intro pins s σ H x y v u Q I rx ry h
  obtain ⟨a, dx, gs, n, rfl, ea, rfl, q⟩ := h
  cases rx
  obtain ⟨t, rfl⟩ := ry
  obtain ⟨mA, J, _⟩ := ins_get I.hok ea
  obtain ⟨od, J, _⟩ := J.look
  obtain ⟨m, hF⟩ := I.fr
  refine PySem.W.ksp_binT hF I.ok.mod.kin J (T := "int") rfl hc hs hf hR hp h1 h2 hsub (wpAny_mono (run_fn F hr b (dvs := []) .nil pass0 I (.cons (show RelV (.ref a) (.ref a) from rfl) (.cons (show RelV (.int n) (.int n t) from ⟨_, rfl⟩) .nil)) q) (fun r s' hr => ?_) fun _ _ z => z)
  obtain ⟨z, H2, I2, rz, c, rfl, q2⟩ := hr
  cases rz
  exact ⟨V.ref c, H2, I2, rfl, q2⟩
theorem op_io {f0 : Addr} {id : String} {B : Builtin} (M : OpOwn X.prog X.w X.K X.mg X.base k C (dunderR op.info.2) ps sp) (hc : PySem.W.selfFirst X.K C = true) (hs0 : PySem.W.findIn X.K (.ref C) (PySem.dunder op.info.2) = some (some (.ref f0))) (hsub : PySem.W.subIn X.K (.ref C) (.type "int") = some false)
    (fills : fillsNumberSlot (.type "int") op.info.2 = pure true) (slot : Slot "int" (PySem.dunder op.info.2) id) (entry : entryFor table id = some B) (args : ∀ a b, argsOk id ⟨[a, b], []⟩)
    (mt : ∀ (n : Int) (t : Tok) (x C dx : Addr), Meets (B ⟨[.int n t, .ref x], []⟩) (fun _ R s => s.heap.get? x = some (PySem.W.instObj C dx) ∧ R (.ok (.ret Value.notImplemented)) s)) (hr : Room k X.A) : OpR X (binaryOp op) (rIO C sp) := by
  obtain ⟨f, fd, hs, hf, F, b⟩ := M.ex
  intro pins s σ H x y v u Q I rx ry h
  obtain ⟨a, dx, gs, n, rfl, ea, rfl, q⟩ := h
  cases ry
  obtain ⟨t, rfl⟩ := rx
  obtain ⟨mA, J, _⟩ := ins_get I.hok ea
  obtain ⟨od, J, _⟩ := J.look
  obtain ⟨m, hF⟩ := I.fr
  refine bin_refl hF I.ok.mod.kin J hc hs0 hs hf hsub fills slot entry (args _ _) (mt n t a C dx) (wpAny_mono (run_fn F hr b (dvs := []) .nil pass0 I (.cons (show RelV (.ref a) (.ref a) from rfl) (.cons (show RelV (.int n) (.int n t) from ⟨_, rfl⟩) .nil)) q) (fun r s' hr => ?_) fun _ _ z => z)
  obtain ⟨z, H2, I2, rz, c, rfl, q2⟩ := hr
  cases rz
  exact ⟨V.ref c, H2, I2, rfl, q2⟩
def rNegO (C : Addr) (sp : Sp) : V → Hp → VK → Prop := fun x H Q => ∃ (a dx : Addr) (gs : List (Str × V)), x = .ref a ∧ H a = some (.ins C dx gs) ∧ sp [.ref a] H Q E0
theorem un_negO (M : OpOwn X.prog X.w X.K X.mg X.base k C "__neg__" ps sp) (hr : Room k X.A) : UnR X (unaryOp .USub) (rNegO C sp) := by
  obtain ⟨f, fd, hs, hf, F, b⟩ := M.ex
  intro pins s σ H x v Q I rx h
  obtain ⟨a, dx, gs, rfl, ea, q⟩ := h
  cases rx
  obtain ⟨mA, J, _⟩ := ins_get I.hok ea
  obtain ⟨od, J, _⟩ := J.look
  obtain ⟨m, hF⟩ := I.fr
  exact PySem.W.ksp_neg hF I.ok.mod.kin J hs hf (run_fn F hr b (dvs := []) .nil pass0 I (.cons (show RelV (.ref a) (.ref a) from rfl) .nil) q)
def rAbsO (C : Addr) (sp : Sp) : List V → Hp → VK → Prop := fun xs H Q => ∃ (a dx : Addr) (gs : List (Str × V)), xs = [.ref a] ∧ H a = some (.ins C dx gs) ∧ sp [.ref a] H Q E0
theorem call_absO (M : OpOwn X.prog X.w X.K X.mg X.base k C "__abs__" ps sp) (hr : Room (k + 1) X.A) : CallR X (.builtin "abs") (rAbsO C sp) := by
  obtain ⟨f, fd, hs, hf, F, b⟩ := M.ex
  intro pins s σ H xs us Q I r h
  obtain ⟨a, dx, gs, rfl, ea, q⟩ := h
  obtain ⟨u, rfl, rx⟩ := vals1 r
  cases rx
  obtain ⟨mA, J, _⟩ := ins_get I.hok ea
  obtain ⟨od, J, _⟩ := J.look
  have hl := F.len _ _ _ _ q
  have r2 : Vals [V.ref a] [Value.ref a] := .cons (show RelV (.ref a) (.ref a) from rfl) .nil
  have bb := b s [.ref a] I.kIn (by simpa using hl)
  rw [List.append_nil] at bb
  refine call_abs_own I.kIn J hs hf (wpAny_call (codeAny_mono (F.run X.A.in1 X.stack s H ⟨[.ref a], []⟩ [.ref a] [.ref a] Q E0 hr.in1 I.env0.in1 bb r2 q) fun r s' hq => ?_))
  cases r with
  | error e => exact (pass0 pins σ H s e s' I hq)
  | ok fl =>
    cases fl with
    | ret z => exact I.after hq
    | next => exact False.elim hq
    | brk => exact False.elim hq
    | cont => exact False.elim hq
end
end Bx

set_option Elab.async false
set_option linter.all false
set_option maxRecDepth 100000
set_option maxHeartbeats 4000000
namespace Bx
open PySem PySem.Spec PyProof.Rows L2 Fl
section
/-- a def of the class that may raise what its spec says -/
structure OwnX (P : Program) (w : World) (K : PySem.W.Frag) (mg : Str → Option Value) (base : Heap) (k : Nat) (C : Addr) (nm : Str) (ps : List Str) (sp : Sp) : Prop where
  ex : ∃ (f : Addr) (fd : FuncData), PySem.W.findIn K (.ref C) nm = some (some (.ref f)) ∧ PySem.W.isFn K (.ref f) = true ∧ PySem.W.keepIn K (.ref f) = true ∧ FnOk P w K mg base (L2.CX P w) k f fd ps sp ∧ Binds K fd ps []
variable {X : Cx} {k : Nat} {C : Addr} {ps : List Str} {sp : Sp} {op : Operator} {E : L2.St → XK}
def tMethX (C : Addr) (m : Str) (sp : Sp) (E : L2.St → XK) (ta : TE) (t : TA) : TE := fun σ H Q => ta σ H fun x H1 => ∃ a dx fs, x = .ref a ∧ H1 a = some (.ins C dx fs) ∧ fs.lookup m = none ∧ t σ H1 fun vs H2 => sp (x :: vs) H2 Q (E σ)
theorem pe_methX {pl : Sem Bool} {m : Str} {o e : Expr} {es : List Expr} {apos pos : Pos} {ta : TE} {t : TA} (M : OwnX X.prog X.w X.K X.mg X.base k C m ps sp) (c : Cls X.K C) (hx : ∀ σ, PassesAt (L2.CX X.prog X.w) X σ (E σ)) (hr : Room k X.A) (he : PE X o ta) (ha : PA X (e :: es) t)
    (hst : starEach (e :: es) X.env = (false, eval e X.env) :: starEach es X.env := by rfl) (hpl : (backTo pos (starEach es X.env)).any (·.1) = false := by rfl)
    (ht : eval (.Call (.Attribute o m apos) (e :: es) [] pos) X.env = (do
      let ov ← eval o X.env
      standAt apos.atName
      let (f, first) ← holding [ov] (getMethod ov m pl)
      callWith pos f first (backTo pos (starEach (e :: es) X.env)) (backToKw pos (keywordEach [] X.env))) := by rfl) :
    PE X (.Call (.Attribute o m apos) (e :: es) [] pos) (tMethX C m sp E ta t) := by
  obtain ⟨f, fd, h1, h2, h3, F, b⟩ := M.ex
  refine ⟨fun pins s σ H Q I h => ?_⟩
  refine PySem.W.methodCall_KW (pl := pl) (thn (he.run pins s σ H _ I h) fun u s1 ⟨x, H1, I1, rx, a, dx, fs, ex, ea, l, q⟩ => ?_) ht
  subst ex
  obtain rfl : u = Value.ref a := rx
  refine getmeth_ok I1 ea c ⟨h1, h2, h3⟩ l ?_
  refine PySem.W.callWith_K (first := [.ref a]) (h₀ := X.base) I.ok.mod.kin h3 (thn (ha.run pos pins s1 σ H1 _ I1 q) fun us s2 ⟨vs, H2, I2, r, q2⟩ => ⟨I2.kIn, ?_⟩) hst hpl
  exact run_fnS (us := .ref a :: us) (vs := .ref a :: vs) (E := E) F hr b (hx σ) I2 (.cons rfl r) q2
/-- what comes back: a reference or a whole number -/
def oA (Q : VK) : VK := fun v H2 => ((∃ z, v = .ref z) ∨ ∃ i, v = .int i) ∧ Q v H2
def rOwnX (C : Addr) (sp : Sp) (E : L2.St → XK) : L2.St → R2 := fun σ x y H Q => ∃ (a dx : Addr) (gs : List (Str × V)), x = .ref a ∧ H a = some (.ins C dx gs) ∧ ((∃ (b dy : Addr) (hs : List (Str × V)), y = .ref b ∧ H b = some (.ins C dy hs)) ∨ ∃ n : Int, y = .int n) ∧ sp [x, y] H (oA Q) (E σ)
def tOpS (R : L2.St → R2) (ta tb : TE) : TE := fun σ H Q => ta σ H fun x H1 => tb σ H1 fun y H2 => R σ x y H2 Q
theorem back {pins : List (Addr × Obj)} {σ : L2.St} {Q : VK} {r : Value} {s' : Shared} (h : EP X pins σ (oA Q) r s') : PySem.W.CmpBack (EP X pins σ Q) r s' := by
  obtain ⟨z, H2, I2, rz, c, q2⟩ := h
  rcases c with ⟨c, rfl⟩ | ⟨i, rfl⟩
  · cases rz
    exact ⟨V.ref c, H2, I2, rfl, q2⟩
  · obtain ⟨t, rfl⟩ := rz
    exact ⟨V.int i, H2, I2, ⟨t, rfl⟩, q2⟩
theorem pe_ownX {rc fo ro : Option Value} {a b : Expr} {ta tb : TE} {pos : Pos} (M : OwnX X.prog X.w X.K X.mg X.base k C (PySem.dunder op.info.2) ps sp) (hx : ∀ σ, PassesAt (L2.CX X.prog X.w) X σ (E σ)) (hc : PySem.W.selfFirst X.K C = true)
    (hR : PySem.W.findIn X.K (.ref C) (dunderR op.info.2) = some rc) (hp : rc = none ∨ ∃ g : Addr, rc = some (.ref g)) (h1 : PySem.W.findIn X.K (.type "int") (PySem.dunder op.info.2) = some fo) (h2 : PySem.W.findIn X.K (.type "int") (dunderR op.info.2) = some ro)
    (hsub : PySem.W.subIn X.K (.type "int") (.ref C) = some false) (hr : Room k X.A) (ha : PE X a ta) (hb : PE X b tb) : PE X (.BinOp a op b pos) (tOpS (rOwnX C sp E) ta tb) := by
  obtain ⟨f, fd, hs, hf, hk, F, bd⟩ := M.ex
  refine ⟨fun pins s σ H Q I h => ?_⟩
  refine wpAny_BinOp (binT ha hb I h fun v u s2 x y H2 I2 rx ry q => ?_)
  obtain ⟨a', dx, gs, rfl, ea, hy, q⟩ := q
  cases rx
  obtain ⟨mA, J, _⟩ := ins_get I2.hok ea
  obtain ⟨od, J, _⟩ := J.look
  obtain ⟨m, hF⟩ := I2.fr
  have run := run_fnS (E := E) F hr bd (hx σ) I2 (.cons (show RelV (.ref a') (.ref a') from rfl) (.cons ry .nil)) q
  rcases hy with ⟨b', dy, gs', rfl, eb⟩ | ⟨n, rfl⟩
  · cases ry
    obtain ⟨mB, J', _⟩ := ins_get I2.hok eb
    obtain ⟨od', J', _⟩ := J'.look
    exact PySem.W.binop_K hF I2.ok.mod.kin J J'.type hc hs hf (wpAny_mono run (fun r s' hr => back hr) fun _ _ z => z)
  · obtain ⟨t, rfl⟩ := ry
    exact PySem.W.ksp_binT hF I2.ok.mod.kin J (T := "int") rfl hc hs hf hR hp h1 h2 hsub (wpAny_mono run (fun r s' hr => back hr) fun _ _ z => z)
theorem op_or {f : Value → Value → Sem Value} {r1 r2 : R2} (h1 : OpR X f r1) (h2 : OpR X f r2) : OpR X f (fun x y H Q => r1 x y H Q ∨ r2 x y H Q) := fun pins s σ H x y v u Q I rx ry h => h.elim (h1 pins s σ H x y v u Q I rx ry) (h2 pins s σ H x y v u Q I rx ry)
end
end Bx

set_option Elab.async false
set_option linter.all false
set_option maxRecDepth 100000
set_option maxHeartbeats 4000000
namespace Bx
open PySem PySem.Spec PyProof.Rows L2 Fl
theorem int_lt_own (a : Int) (t : Tok) (x C dx : Addr) : Meets (Builtin.«int.__lt__» ⟨[.int a t, .ref x], []⟩) (fun _ R s => s.heap.get? x = some (PySem.W.instObj C dx) ∧ R (.ok (.ret Value.notImplemented)) s) :=
  .of_wp fun prog w A R s h => by obtain ⟨hp, g, d, tk, os⟩ := s; obtain ⟨hl, h⟩ := h; unfold PySem.W.instObj at hl; wp_walk; exact ⟨_, rfl, h⟩
theorem int_le_own (a : Int) (t : Tok) (x C dx : Addr) : Meets (Builtin.«int.__le__» ⟨[.int a t, .ref x], []⟩) (fun _ R s => s.heap.get? x = some (PySem.W.instObj C dx) ∧ R (.ok (.ret Value.notImplemented)) s) :=
  .of_wp fun prog w A R s h => by obtain ⟨hp, g, d, tk, os⟩ := s; obtain ⟨hl, h⟩ := h; unfold PySem.W.instObj at hl; wp_walk; exact ⟨_, rfl, h⟩
theorem int_gt_own (a : Int) (t : Tok) (x C dx : Addr) : Meets (Builtin.«int.__gt__» ⟨[.int a t, .ref x], []⟩) (fun _ R s => s.heap.get? x = some (PySem.W.instObj C dx) ∧ R (.ok (.ret Value.notImplemented)) s) :=
  .of_wp fun prog w A R s h => by obtain ⟨hp, g, d, tk, os⟩ := s; obtain ⟨hl, h⟩ := h; unfold PySem.W.instObj at hl; wp_walk; exact ⟨_, rfl, h⟩
theorem int_ge_own (a : Int) (t : Tok) (x C dx : Addr) : Meets (Builtin.«int.__ge__» ⟨[.int a t, .ref x], []⟩) (fun _ R s => s.heap.get? x = some (PySem.W.instObj C dx) ∧ R (.ok (.ret Value.notImplemented)) s) :=
  .of_wp fun prog w A R s h => by obtain ⟨hp, g, d, tk, os⟩ := s; obtain ⟨hl, h⟩ := h; unfold PySem.W.instObj at hl; wp_walk; exact ⟨_, rfl, h⟩
theorem int_eq_own (a : Int) (t : Tok) (x C dx : Addr) : Meets (Builtin.«int.__eq__» ⟨[.int a t, .ref x], []⟩) (fun _ R s => s.heap.get? x = some (PySem.W.instObj C dx) ∧ R (.ok (.ret Value.notImplemented)) s) :=
  .of_wp fun prog w A R s h => by obtain ⟨hp, g, d, tk, os⟩ := s; obtain ⟨hl, h⟩ := h; unfold PySem.W.instObj at hl; wp_walk; exact ⟨_, rfl, h⟩
theorem int_ne_own (a : Int) (t : Tok) (x C dx : Addr) : Meets (Builtin.«int.__ne__» ⟨[.int a t, .ref x], []⟩) (fun _ R s => s.heap.get? x = some (PySem.W.instObj C dx) ∧ R (.ok (.ret Value.notImplemented)) s) :=
  .of_wp fun prog w A R s h => by obtain ⟨hp, g, d, tk, os⟩ := s; obtain ⟨hl, h⟩ := h; unfold PySem.W.instObj at hl; wp_walk; exact ⟨_, rfl, h⟩
section
open PySem.W PySem.Calls
variable {prog : Program} {w : World} {A : Around} {E : Value → Shared → Prop} {s : Shared} {K : Frag} {x C L f g dx : Addr} {h₀ : Heap} {m : Str → Option Value} {od : Option Obj}
theorem cmp_refl {op : CmpOp} {n : Int} {t : Tok} {id : String} {B : Builtin} {Q : Value → Shared → Prop} (hu : A.units < cLine) (F : Fr h₀ L s.heap m) (X₀ : K.In h₀) (I : PySem.W.InstAt s.heap x (PySem.W.instObj C dx) C od)
    (hr : findIn K (.ref C) (cmpInfo op).2.2 = some (some (.ref g))) (hg : isFn K (.ref g) = true)
    (hsub : subIn K (.ref C) (.type "int") = some false) (slot : Slot "int" (cmpInfo op).2.1 id) (entry : entryFor table id = some B) (args : argsOk id ⟨[.int n t, .ref x], []⟩)
    (mt : Meets (B ⟨[.int n t, .ref x], []⟩) (fun _ R s => s.heap.get? x = some (PySem.W.instObj C dx) ∧ R (.ok (.ret Value.notImplemented)) s))
    (h : wpAny (model prog w) A (call (.ref g) [.ref x, .int n t]) (PySem.W.CmpBack Q) E s) : wpAny (model prog w) A (richCompare op (.int n t) (.ref x)) Q E s := by
  have X := X₀.keeps F.keep
  have one : wpAny (model prog w) A (tryCompare (.ref x) (cmpInfo op).2.2 (.int n t)) (fun r s' => ∃ v, r = some v ∧ Q v s') E s := by
    unfold tryCompare
    refine wpAny_bind (ifBound_K X I hr hg (wpAny_mono h (fun v s' hv => ?_) fun _ _ e => e))
    cases v <;> first | exact hv.elim | exact wpAny_pure ⟨_, rfl, hv⟩
  have ot : oneThing? op (.int n t) (.ref x) = none := rfl
  unfold richCompare
  simp only [ot]
  refine wpAny_holding (wpAny_bind (wpAny_cRoomFor hu ?_))
  refine wpAny_bind (wpAny_typeOf (typeIs_int s n t) (wpAny_bind (I.type.here ?_)))
  have hne : (Value.type "int" != Value.ref C) = true := by
    rw [bne_iff_ne]
    intro q
    cases q
  simp only [hne, if_true]
  refine wpAny_bind ((looks_subIn X hsub).here ?_)
  simp only [Bool.false_eq_true, if_false, Bool.not_false, if_true]
  refine wpAny_bind (wpAny_tryCompare_declines (typeIs_int s n t) slot (call_meets slot (typeIs_int s n t) entry args mt ⟨I.at_, ?_⟩))
  refine ⟨rfl, ?_⟩
  refine wpAny_bind (wpAny_mono one (fun r s' hr' => ?_) fun _ _ e => e)
  obtain ⟨v, rfl, hq⟩ := hr'
  exact wpAny_pure hq
end
section
variable {X : Cx} {k : Nat} {C : Addr} {ps : List Str} {sp : Sp} {op : CmpOp}
def oB (Q : VK) : VK := fun v H2 => ∃ b, v = .bl b ∧ Q (.bl b) H2
/-- own op y: y of the same class -/
def cOO (C : Addr) (sp : Sp) : R2 := fun x y H Q => ∃ (a dx : Addr) (gs : List (Str × V)) (b dy : Addr) (hs : List (Str × V)), x = .ref a ∧ H a = some (.ins C dx gs) ∧ y = .ref b ∧ H b = some (.ins C dy hs) ∧ sp [.ref a, .ref b] H (oB Q) E0
def cOI (C : Addr) (sp : Sp) : R2 := fun x y H Q => ∃ (a dx : Addr) (gs : List (Str × V)) (n : Int), x = .ref a ∧ H a = some (.ins C dx gs) ∧ y = .int n ∧ sp [.ref a, .int n] H (oB Q) E0
def cIO (C : Addr) (sp : Sp) : R2 := fun x y H Q => ∃ (a dx : Addr) (gs : List (Str × V)) (n : Int), y = .ref a ∧ H a = some (.ins C dx gs) ∧ x = .int n ∧ sp [.ref a, .int n] H (oB Q) E0
theorem backB {pins : List (Addr × Obj)} {σ : L2.St} {Q : VK} {r : Value} {s' : Shared} (h : EP X pins σ (oB Q) r s') : PySem.W.CmpBack (EP X pins σ Q) r s' := by
  obtain ⟨z, H2, I2, rz, c, rfl, q2⟩ := h
  cases rz
  exact ⟨V.bl c, H2, I2, rfl, q2⟩
theorem cmp_oo (hop : ∀ a b, compareOp op a b = richCompare op a b) (M : OpOwn X.prog X.w X.K X.mg X.base k C (cmpInfo op).2.1 ps sp) (hu : X.A.units < cLine) (hr : Room k X.A) : OpR X (compareOp op) (cOO C sp) := by
  obtain ⟨f, fd, hs, hf, F, b⟩ := M.ex
  intro pins s σ H x y v u Q I rx ry h
  obtain ⟨a, dx, gs, b', dy, gs', rfl, ea, rfl, eb, q⟩ := h
  cases rx
  cases ry
  obtain ⟨mA, J, _⟩ := ins_get I.hok ea
  obtain ⟨od, J, _⟩ := J.look
  obtain ⟨mB, J', _⟩ := ins_get I.hok eb
  obtain ⟨od', J', _⟩ := J'.look
  obtain ⟨m, hF⟩ := I.fr
  rw [hop]
  refine PySem.W.cmp_K hu hF I.ok.mod.kin J J'.type (by unfold PySem.W.notFirst; simp) hs hf (wpAny_mono (run_fn F hr b (dvs := []) .nil pass0 I (.cons (show RelV (.ref a) (.ref a) from rfl) (.cons (show RelV (.ref b') (.ref b') from rfl) .nil)) q) (fun r s' hr => backB hr) fun _ _ z => z)
theorem cmp_oi (hop : ∀ a b, compareOp op a b = richCompare op a b) (M : OpOwn X.prog X.w X.K X.mg X.base k C (cmpInfo op).2.1 ps sp) (hsub : PySem.W.subIn X.K (.type "int") (.ref C) = some false) (hu : X.A.units < cLine) (hr : Room k X.A) : OpR X (compareOp op) (cOI C sp) := by
  obtain ⟨f, fd, hs, hf, F, b⟩ := M.ex
  intro pins s σ H x y v u Q I rx ry h
  obtain ⟨a, dx, gs, n, rfl, ea, rfl, q⟩ := h
  cases rx
  obtain ⟨t, rfl⟩ := ry
  obtain ⟨mA, J, _⟩ := ins_get I.hok ea
  obtain ⟨od, J, _⟩ := J.look
  obtain ⟨m, hF⟩ := I.fr
  rw [hop]
  refine PySem.W.cmp_K (tb := .type "int") hu hF I.ok.mod.kin J (PySem.W.Looks.of_pure rfl) (by unfold PySem.W.notFirst; rw [hsub]; simp) hs hf (wpAny_mono (run_fn F hr b (dvs := []) .nil pass0 I (.cons (show RelV (.ref a) (.ref a) from rfl) (.cons (show RelV (.int n) (.int n t) from ⟨_, rfl⟩) .nil)) q) (fun r s' hr => backB hr) fun _ _ z => z)
theorem cmp_io {id : String} {B : Builtin} (hop : ∀ a b, compareOp op a b = richCompare op a b) (M : OpOwn X.prog X.w X.K X.mg X.base k C (cmpInfo op).2.2 ps sp) (hsub : PySem.W.subIn X.K (.ref C) (.type "int") = some false) (slot : Slot "int" (cmpInfo op).2.1 id) (entry : entryFor table id = some B) (args : ∀ a b, argsOk id ⟨[a, b], []⟩)
    (mt : ∀ (n : Int) (t : Tok) (x C dx : Addr), Meets (B ⟨[.int n t, .ref x], []⟩) (fun _ R s => s.heap.get? x = some (PySem.W.instObj C dx) ∧ R (.ok (.ret Value.notImplemented)) s)) (hu : X.A.units < cLine) (hr : Room k X.A) : OpR X (compareOp op) (cIO C sp) := by
  obtain ⟨f, fd, hs, hf, F, b⟩ := M.ex
  intro pins s σ H x y v u Q I rx ry h
  obtain ⟨a, dx, gs, n, rfl, ea, rfl, q⟩ := h
  cases ry
  obtain ⟨t, rfl⟩ := rx
  obtain ⟨mA, J, _⟩ := ins_get I.hok ea
  obtain ⟨od, J, _⟩ := J.look
  obtain ⟨m, hF⟩ := I.fr
  rw [hop]
  refine cmp_refl hu hF I.ok.mod.kin J hs hf hsub slot entry (args _ _) (mt n t a C dx) (wpAny_mono (run_fn F hr b (dvs := []) .nil pass0 I (.cons (show RelV (.ref a) (.ref a) from rfl) (.cons (show RelV (.int n) (.int n t) from ⟨_, rfl⟩) .nil)) q) (fun r s' hr => backB hr) fun _ _ z => z)
end
end Bx

set_option Elab.async false
set_option linter.all false
set_option maxRecDepth 100000
set_option maxHeartbeats 4000000
namespace Bx
open PySem PySem.Spec PyProof.Rows L2 Fl
section
variable {X : Cx} {k : Nat} {C : Addr} {x m : Str} {ps : List Str} {dvs : List V} {sp : Sp} {E : L2.St → XK} {p pos apos : Pos} {e o : Expr} {es : List Expr} {t : TA} {tv ta : TE}
/-- v(e, ..), v a local that holds the class at C -/
def tMakeV (C : Addr) (sp : Sp) (dvs : List V) (E : L2.St → XK) (tv : TE) (t : TA) : TE := fun σ H Q => tv σ H fun v H1 => v = .ref C ∧ t σ H1 fun vs H2 => ∀ x dx, H2 x = none → H2 dx = none → dx ≠ x →
  sp (.ref x :: (vs ++ dvs)) (upd (upd H2 dx (.own x)) x (.ins C dx [])) (fun v H2 => v = .non ∧ Q (.ref x) H2) (E σ)
theorem pe_mkV (M : CalC X.prog X.w X.K X.mg X.base (L2.CX X.prog X.w) k C x ps dvs sp) (hx : ∀ σ, PassesAt (L2.CX X.prog X.w) X σ (E σ)) (hr : Room (k + 1) X.A) {y : Str} (hv : PE X (.Name y p) tv) (ha : PA X (e :: es) t)
    (he : starEach (e :: es) X.env = (false, eval e X.env) :: starEach es X.env := by rfl) (hpl : (backTo pos (starEach es X.env)).any (·.1) = false := by rfl) :
    PE X (.Call (.Name y p) (e :: es) [] pos) (tMakeV C sp dvs E tv t) := by
  obtain ⟨f, fd, ds, M, F, hm, hb, hd⟩ := M.ex
  refine ⟨fun pins s σ H Q I h => ?_⟩
  refine wpAny_Call_Name_kw (thn (hv.run pins s σ H _ I h) fun u s1 ⟨v, H1, I1, rv, ev, q⟩ => ?_)
  subst ev
  cases rv
  refine PySem.W.callWith_K (h₀ := X.base) I1.ok.mod.kin M.kp (thn (ha.run pos pins s1 σ H1 _ I1 q) fun us s2 ⟨vs, H2, I2, r, q2⟩ => ⟨I2.kIn, ?_⟩) he hpl
  exact run_makeS (E := E) M F hr hb hd (hx σ) I2 r q2
/-- a classmethod of C by the name m -/
structure CalCM (P : Program) (w : World) (K : PySem.W.Frag) (mg : Str → Option Value) (base : Heap) (k : Nat) (C : Addr) (m : Str) (ps : List Str) (sp : Sp) : Prop where
  ex : ∃ (mc : Value) (p g : Addr) (fd : FuncData), ClX.CRead K C mc ∧ ClX.CMet K C mc m p g ∧ FnOk P w K mg base (L2.CX P w) k g fd ps sp ∧ Binds K fd ps []
def tCMethS (C : Addr) (sp : Sp) (E : L2.St → XK) (ta : TE) (t : TA) : TE := fun σ H Q => ta σ H fun x H1 => x = .ref C ∧ t σ H1 fun vs H2 => sp (.ref C :: vs) H2 Q (E σ)
theorem pe_cm {pl : Sem Bool} (M : CalCM X.prog X.w X.K X.mg X.base k C m ps sp) (hx : ∀ σ, PassesAt (L2.CX X.prog X.w) X σ (E σ)) (hr : Room k X.A) (he : PE X o ta) (ha : PA X (e :: es) t)
    (hst : starEach (e :: es) X.env = (false, eval e X.env) :: starEach es X.env := by rfl) (hpl : (backTo pos (starEach es X.env)).any (·.1) = false := by rfl)
    (ht : eval (.Call (.Attribute o m apos) (e :: es) [] pos) X.env = (do
      let ov ← eval o X.env
      standAt apos.atName
      let (f, first) ← holding [ov] (getMethod ov m pl)
      callWith pos f first (backTo pos (starEach (e :: es) X.env)) (backToKw pos (keywordEach [] X.env))) := by rfl) :
    PE X (.Call (.Attribute o m apos) (e :: es) [] pos) (tCMethS C sp E ta t) := by
  obtain ⟨mc, pp, g, fd, r, c, F, b⟩ := M.ex
  refine ⟨fun pins s σ H Q I h => ?_⟩
  refine PySem.W.methodCall_KW (pl := pl) (thn (he.run pins s σ H _ I h) fun u s1 ⟨x, H1, I1, rx, ex, q⟩ => ?_) ht
  subst ex
  obtain rfl : u = Value.ref C := rx
  refine ClX.getmethcm_ok I1 r c fun s2 I2 => ?_
  refine ClX.callwith_cm I2 (ClX.base_none I1 (Nat.le_refl _)) c.fi (thn (ha.run pos _ s2 σ H1 _ I2 q) fun us s3 ⟨vs, H2, I3, rv, q2⟩ => ⟨⟨ClX.pin_at I3, I3.kIn⟩, ?_⟩) hst hpl
  have hl := F.len _ _ _ _ q2
  have r2 : Vals (V.ref C :: vs) (Value.ref C :: us) := .cons (show RelV (.ref C) (.ref C) from rfl) rv
  have bb := b s3 (Value.ref C :: us) I3.kIn (by rw [List.append_nil, ← r2.length]; exact hl)
  rw [List.append_nil] at bb
  have z : wpAny (model X.prog X.w) X.A (call (.ref s1.heap.objs.size) us) (EP X ((s1.heap.objs.size, PySem.W.methodObj (.ref g) (.ref C)) :: pins) σ Q) X.xe s3 := by
    refine wpAny_call (PySem.W.method_call (ClX.pin_at I3) (codeAny_mono (F.run X.A X.stack s3 H2 ⟨Value.ref C :: us, []⟩ (Value.ref C :: us) (V.ref C :: vs) Q (E σ) hr I3.env0 bb r2 q2) fun r s' hq => ?_))
    cases r with
    | error e => exact hx σ _ H2 s3 e s' I3 hq
    | ok fl =>
      cases fl with
      | ret u => exact I3.after hq
      | next => exact False.elim hq
      | brk => exact False.elim hq
      | cont => exact False.elim hq
  exact thn z fun _ _ y => ClX.unpinE y
end
end Bx

set_option Elab.async false
set_option linter.all false
set_option maxRecDepth 100000
set_option maxHeartbeats 4000000
namespace Fl
open PySem PySem.Spec PyProof.Rows L2
/-! ### what stands in a heap, as a list of places and objects -/
def Al (fs : List (Addr × HO)) (H : Hp) : Prop := ∀ a o, (a, o) ∈ fs → H a = some o
theorem Al.nil {H : Hp} : Al [] H := fun _ _ h => nomatch h
theorem Al.at {fs : List (Addr × HO)} {H : Hp} {a : Addr} {o : HO} (W : Al fs H) (h : (a, o) ∈ fs) : H a = some o := W a o h
theorem Al.same {fs : List (Addr × HO)} {H H' : Hp} (W : Al fs H) (s : Same H H') : Al fs H' := fun a o h => s a o (W a o h)
theorem Al.got {fs : List (Addr × HO)} {H : Hp} {a : Addr} {o : HO} (W : Al fs H) (h : H a = some o) : Al ((a, o) :: fs) H := fun b u hm => by
  rcases List.mem_cons.mp hm with e | e
  · cases e
    exact h
  · exact W b u e
theorem Al.new {fs : List (Addr × HO)} {H : Hp} {a : Addr} {o : HO} (W : Al fs H) (h : H a = none) : Al ((a, o) :: fs) (upd H a o) := (W.same (same_upd h)).got upd_same
structure Wd (p : Pla) (fs : List (Addr × HO)) (H : Hp) : Prop where
  P : Pool H p
  W : Al fs H
  n : ∀ a o, (a, o) ∈ fs → a ≠ p.p
theorem Wd.nil {p : Pla} {H : Hp} (h : Pool H p) : Wd p [] H := ⟨h, Al.nil, fun _ _ h => nomatch h⟩
theorem Wd.at {p : Pla} {fs : List (Addr × HO)} {H : Hp} {a : Addr} {o : HO} (W : Wd p fs H) (h : (a, o) ∈ fs) : H a = some o := W.W a o h
theorem Wd.same {p : Pla} {fs : List (Addr × HO)} {H H' : Hp} (W : Wd p fs H) (s : Same H H') : Wd p fs H' := ⟨W.P.same s, W.W.same s, W.n⟩
theorem Wd.keep {p : Pla} {fs : List (Addr × HO)} {H H' : Hp} (W : Wd p fs H) (hP : Pool H' p) (k : Keeps H H' p.p) : Wd p fs H' := ⟨hP, fun a o h => k a o (W.W a o h) (W.n a o h), W.n⟩
theorem Wd.got {p : Pla} {fs : List (Addr × HO)} {H : Hp} {a : Addr} {o : HO} (W : Wd p fs H) (h : H a = some o) (ne : ∀ xs, o ≠ .lst xs) : Wd p ((a, o) :: fs) H := ⟨W.P, W.W.got h, fun b u hm => by
  rcases List.mem_cons.mp hm with e | e
  · cases e
    obtain ⟨ns, i, b, c, d, h1, _⟩ := W.P
    exact ne_of h h1 (ne _)
  · exact W.n b u e⟩
theorem Wd.new {p : Pla} {fs : List (Addr × HO)} {H : Hp} {a : Addr} {o : HO} (W : Wd p fs H) (h : H a = none) : Wd p ((a, o) :: fs) (upd H a o) := ⟨W.P.upd h, W.W.new h, fun b u hm => by
  rcases List.mem_cons.mp hm with e | e
  · cases e
    exact (W.P.apart h).1
  · exact W.n b u e⟩
/-! ### tests whose answer is known -/
theorem itT {p : Prop} [Decidable p] {A B : Prop} (h : p) (a : A) : if decide p = true then A else B := by rw [decide_eq_true h]; exact iteT a
theorem itF {p : Prop} [Decidable p] {A B : Prop} (h : ¬ p) (b : B) : if decide p = true then A else B := by rw [decide_eq_false h]; exact iteF b
theorem niT {p : Prop} [Decidable p] {A B : Prop} (h : p) (b : B) : if (!decide p) = true then A else B := by rw [decide_eq_true h]; exact iteF b
theorem niF {p : Prop} [Decidable p] {A B : Prop} (h : ¬ p) (a : A) : if (!decide p) = true then A else B := by rw [decide_eq_false h]; exact iteT a
theorem ieT {a b : Int} {A B : Prop} (h : a = b) (x : A) : if decide (V.int a = V.int b) = true then A else B := itT (by rw [h]) x
theorem ieF {a b : Int} {A B : Prop} (h : a ≠ b) (x : B) : if decide (V.int a = V.int b) = true then A else B := itF (fun e => h (V.int.inj e)) x
theorem jeT {a b : Int} {A B : Prop} (h : a = b) (x : B) : if (!decide (V.int a = V.int b)) = true then A else B := niT (by rw [h]) x
theorem jeF {a b : Int} {A B : Prop} (h : a ≠ b) (x : A) : if (!decide (V.int a = V.int b)) = true then A else B := niF (fun e => h (V.int.inj e)) x
/-! ### values that are known -/
theorem vT {Q : VK} {H : Hp} {p : Prop} [Decidable p] (h : p) (q : Q (.bl true) H) : Q (.bl (decide p)) H := by rw [decide_eq_true h]; exact q
theorem vF {Q : VK} {H : Hp} {p : Prop} [Decidable p] (h : ¬ p) (q : Q (.bl false) H) : Q (.bl (decide p)) H := by rw [decide_eq_false h]; exact q
theorem veT {Q : VK} {H : Hp} {a b : Int} (h : a = b) (q : Q (.bl true) H) : Q (.bl (decide (V.int a = V.int b))) H := vT (by rw [h]) q
theorem veF {Q : VK} {H : Hp} {a b : Int} (h : a ≠ b) (q : Q (.bl false) H) : Q (.bl (decide (V.int a = V.int b))) H := vF (fun e => h (V.int.inj e)) q
/-! ### bounds -/
theorem ba {i j : Int} {a : Nat} (h1 : i.natAbs < 2 ^ a) (h2 : j.natAbs < 2 ^ a) : (i + j).natAbs < 2 ^ (a + 1) := by
  rw [Nat.pow_succ]
  generalize 2 ^ a = z at *
  omega
theorem bs {i j : Int} {a : Nat} (h1 : i.natAbs < 2 ^ a) (h2 : j.natAbs < 2 ^ a) : (i - j).natAbs < 2 ^ (a + 1) := by
  rw [Nat.pow_succ]
  generalize 2 ^ a = z at *
  omega
theorem bn {i : Int} {a : Nat} (h1 : i.natAbs < 2 ^ a) : (-i).natAbs < 2 ^ a := by
  rw [Int.natAbs_neg]
  exact h1
theorem ub {n : Int} {a b : Nat} (h : n.natAbs < 2 ^ a) (k : a ≤ b) : n.natAbs < 2 ^ b := Nat.lt_of_lt_of_le h (Nat.pow_le_pow_right (by decide) k)
end Fl
namespace Fl
open PySem PySem.Spec PyProof.Rows L2
theorem Al.drop {x : Addr × HO} {fs : List (Addr × HO)} {H : Hp} (W : Al (x :: fs) H) : Al fs H := fun a o h => W a o (List.mem_cons_of_mem _ h)
theorem Wd.drop {p : Pla} {x : Addr × HO} {fs : List (Addr × HO)} {H : Hp} (W : Wd p (x :: fs) H) : Wd p fs H := ⟨W.P, W.W.drop, fun a o h => W.n a o (List.mem_cons_of_mem _ h)⟩
end Fl

set_option Elab.async false
set_option linter.all false
set_option maxRecDepth 100000
set_option maxHeartbeats 4000000
namespace Bx
open PySem PySem.Spec PyProof.Rows L2 Fl
section
open PySem.W PySem.Calls
variable {prog : Program} {w : World} {A : Around} {E : Value → Shared → Prop} {s : Shared} {K : Frag} {x C L f dx : Addr} {h₀ : Heap} {m : Str → Option Value} {od : Option Obj} {ox : Obj} {b tb : Value}
open Builtin in
theorem obj_ne {Q : Value → Shared → Prop} (hu : A.in1.units < cLine) (X : K.In s.heap) (I : PySem.W.InstAt s.heap x ox C od) (hm : mroIn K C (.type "object") = some true) (hs : findIn K (.ref C) "__eq__" = some (some (.ref f))) (hf : isFn K (.ref f) = true)
    (h : wpAny (model prog w) A.in1 (call (.ref f) [.ref x, b]) (fun v s' => ∃ c, v = .bool c ∧ Q (.bool (!c)) s') E s) : wpAny (model prog w) A (call (.builtin "object.__ne__") [.ref x, b]) Q E s := by
  refine wpAny_call (codeAny_call_builtin PySem.F.slot_object_ne.plain PySem.F.entry_object_ne (check_slot (i := "object.__ne__") (owner := "object") (n := "__ne__") (by decide +kernel) (by decide +kernel) (I.type.andThen (looks_mroIn X hm)) (PySem.F.args_object_ne_2 _ _) ?_))
  unfold Builtin.«object.__ne__»
  refine wpAny_bind (m := slotArgs "__ne__" 1 _) (wpAny_pure ?_)
  refine wpAny_bind (m := cRoomFor _ _) (wpAny_cRoomFor hu ?_)
  refine wpAny_bind (m := callSpecialIfBound? (.ref x) (Str.ofString "__eq__") _) (ifBound_K X I hs hf (wpAny_mono h (fun r s' hq => ?_) fun _ _ y => y))
  obtain ⟨c, rfl, hq⟩ := hq
  exact wpAny_bind (m := truthy (.bool _)) (wpAny_truthy_bool (wpAny_pure hq))
theorem try_ne {Q : Value → Shared → Prop} (hu : A.in1.units < cLine) (X : K.In s.heap) (I : PySem.W.InstAt s.heap x ox C od) (hm : mroIn K C (.type "object") = some true) (hN : findIn K (.ref C) "__ne__" = some (some (.builtin "object.__ne__"))) (hs : findIn K (.ref C) "__eq__" = some (some (.ref f))) (hf : isFn K (.ref f) = true)
    (h : wpAny (model prog w) A.in1 (call (.ref f) [.ref x, b]) (fun v s' => ∃ c, v = .bool c ∧ Q (.bool (!c)) s') E s) : wpAny (model prog w) A (tryCompare (.ref x) "__ne__" b) (fun r s' => ∃ v, r = some v ∧ Q v s') E s := by
  have fin : wpAny (model prog w) A (call (.builtin "object.__ne__") [.ref x, b] >>= fun v => pure (some v)) (fun r s' => ∃ c, r = some (.bool c) ∧ Q (.bool c) s') E s :=
    wpAny_bind (wpAny_mono (obj_ne (Q := fun v s' => ∃ c, v = .bool c ∧ Q (.bool c) s') hu X I hm hs hf (wpAny_mono h (fun v s' ⟨c, e, q⟩ => ⟨c, e, _, rfl, q⟩) fun _ _ e => e)) (fun v s' ⟨c, e, q⟩ => wpAny_pure ⟨c, by rw [e], q⟩) fun _ _ e => e)
  unfold tryCompare
  refine wpAny_bind (wpAny_mono (Q := fun r s' => ∃ c, r = some (.bool c) ∧ Q (.bool c) s') ?_ (fun r s' ⟨c, e, q⟩ => ?_) fun _ _ e => e)
  · simp only [callSpecialIfBound?, bindSpecialIfBound?]
    refine wpAny_holding (wpAny_bind (wpAny_bind (wpAny_bind (I.type.here ((looks_findIn X hN).here ?_)))))
    refine wpAny_bind (wpAny_askSetting (wpAny_ite ?_))
    split
    · exact wpAny_bind ((Looks.of_pure (PySem.F.slot_object_ne.bind _)).here (wpAny_pure (by exact fin)))
    · exact wpAny_tryCatch (wpAny_bind ((Looks.of_pure (PySem.F.slot_object_ne.bind _)).here (wpAny_pure (by exact fin))))
  · subst e
    exact wpAny_pure ⟨_, rfl, q⟩
theorem ne_K {Q : Value → Shared → Prop} (hu : A.in1.units < cLine) (hu0 : A.units < cLine) (F : Fr h₀ L s.heap m) (X₀ : K.In h₀) (I : PySem.W.InstAt s.heap x ox C od) (hb : Looks (model prog w) s.heap (typeOf b) tb) (hn : notFirst K C tb = true) (hm : mroIn K C (.type "object") = some true)
    (hN : findIn K (.ref C) "__ne__" = some (some (.builtin "object.__ne__"))) (hs : findIn K (.ref C) "__eq__" = some (some (.ref f))) (hf : isFn K (.ref f) = true)
    (h : wpAny (model prog w) A.in1 (call (.ref f) [.ref x, b]) (fun v s' => ∃ c, v = .bool c ∧ Q (.bool (!c)) s') E s) : wpAny (model prog w) A (richCompare .NotEq (.ref x) b) Q E s := by
  have X := X₀.keeps F.keep
  have one := try_ne (Q := Q) hu X I hm hN hs hf h
  unfold richCompare
  simp only [oneThing_ref]
  refine wpAny_holding (wpAny_bind (wpAny_cRoomFor hu0 ?_))
  refine wpAny_bind (I.type.here (wpAny_bind (hb.here ?_)))
  unfold notFirst at hn
  by_cases hne : (Value.ref C != tb) = true
  · simp only [hne, if_true]
    by_cases h0 : subIn K tb (.ref C) = some false
    · refine wpAny_bind ((looks_subIn X h0).here ?_)
      simp only [Bool.false_eq_true, if_false]
      refine wpAny_bind (wpAny_mono one (fun r s' hr' => ?_) fun _ _ e => e)
      obtain ⟨v, rfl, hq⟩ := hr'
      exact wpAny_pure hq
    · exfalso
      have e : (tb == Value.ref C) = false := by
        rw [beq_eq_false_iff_ne]
        intro q
        rw [q] at hne
        simp at hne
      simp [e, h0] at hn
  · simp only [hne, Bool.false_eq_true, if_false]
    refine wpAny_bind (wpAny_pure ?_)
    simp only [Bool.false_eq_true, if_false]
    refine wpAny_bind (wpAny_mono one (fun r s' hr' => ?_) fun _ _ e => e)
    obtain ⟨v, rfl, hq⟩ := hr'
    exact wpAny_pure hq
theorem ne_refl {n : Int} {t : Tok} {Q : Value → Shared → Prop} (hu : A.in1.units < cLine) (hu0 : A.units < cLine) (F : Fr h₀ L s.heap m) (X₀ : K.In h₀) (I : PySem.W.InstAt s.heap x (PySem.W.instObj C dx) C od) (hm : mroIn K C (.type "object") = some true)
    (hN : findIn K (.ref C) "__ne__" = some (some (.builtin "object.__ne__"))) (hs : findIn K (.ref C) "__eq__" = some (some (.ref f))) (hf : isFn K (.ref f) = true) (hsub : subIn K (.ref C) (.type "int") = some false)
    (h : wpAny (model prog w) A.in1 (call (.ref f) [.ref x, .int n t]) (fun v s' => ∃ c, v = .bool c ∧ Q (.bool (!c)) s') E s) : wpAny (model prog w) A (richCompare .NotEq (.int n t) (.ref x)) Q E s := by
  have X := X₀.keeps F.keep
  have one := try_ne (Q := Q) hu X I hm hN hs hf h
  have ot : oneThing? .NotEq (.int n t) (.ref x) = none := rfl
  unfold richCompare
  simp only [ot]
  refine wpAny_holding (wpAny_bind (wpAny_cRoomFor hu0 ?_))
  refine wpAny_bind (wpAny_typeOf (typeIs_int s n t) (wpAny_bind (I.type.here ?_)))
  have hne : (Value.type "int" != Value.ref C) = true := by
    rw [bne_iff_ne]
    intro q
    cases q
  simp only [hne, if_true]
  refine wpAny_bind ((looks_subIn X hsub).here ?_)
  simp only [Bool.false_eq_true, if_false, Bool.not_false, if_true]
  refine wpAny_bind (wpAny_tryCompare_declines (typeIs_int s n t) PySem.F.slot_int_ne (call_meets PySem.F.slot_int_ne (typeIs_int s n t) PySem.F.entry_int_ne (PySem.F.args_int_ne_2 _ _) (int_ne_own n t x C dx) ⟨I.at_, ?_⟩))
  refine ⟨rfl, ?_⟩
  refine wpAny_bind (wpAny_mono one (fun r s' hr' => ?_) fun _ _ e => e)
  obtain ⟨v, rfl, hq⟩ := hr'
  exact wpAny_pure hq
end
end Bx

set_option Elab.async false
set_option linter.all false
set_option maxRecDepth 100000
set_option maxHeartbeats 4000000
namespace Bx
open PySem PySem.Spec PyProof.Rows L2 Fl
section
open PySem.W PySem.Calls
variable {prog : Program} {w : World} {A : Around} {E : Value → Shared → Prop} {s : Shared}
theorem bool_in (x : Value) : MeetsIn prog w (Builtin.«bool.__new__» ⟨[.type "bool", x], []⟩) (fun A R s => wpAny (model prog w) A.in1 (truthy x) (fun c s' => R (.ok (.ret (.bool c))) s') (fun e s' => R (.error e) s') s) :=
  .of_wp fun A R s h => by
    have f1 := F.conv_sub_bool
    obtain ⟨hp, g, d, tk, os⟩ := s
    repeat (any_goals (first | assumption | (with_reducible refine wpAny_mono h (fun c s' q => ?_) fun _ _ z => z) | wp_step))
    all_goals first | exact ⟨_, rfl, q⟩ | exact q | skip
theorem call_bool_own {x : Value} {Q : Value → Shared → Prop} (h : wpAny (model prog w) A.in1.in1 (truthy x) (fun c s' => Q (.bool c) s') E s) : wpAny (model prog w) A (call (.type "bool") [x]) Q E s :=
  callType_newIn F.called_bool F.newNe_bool (F.typeCall_bool_1 x) (F.newCall_bool_1 x) (fun obj => F.args_object_init_2 obj x) F.entry_bool_new (bool_in x) (wpAny_mono h (fun c s' q => ⟨rfl, q⟩) fun _ _ z => z)
end
end Bx
namespace Bx
open PySem PySem.Spec PyProof.Rows L2 Fl
section
variable {X : Cx} {k : Nat} {C : Addr} {ps : List Str} {sp : Sp}
/-- a def of one's own run one frame in -/
theorem run_in1 {pins : List (Addr × Obj)} {s : Shared} {σ : L2.St} {H : Hp} {f : Addr} {fd : FuncData} {us : List Value} {vs : List V} {Q : VK} (F : FnOk X.prog X.w X.K X.mg X.base CX0 k f fd ps sp) (bd : Binds X.K fd ps []) (hr : Room (k + 1) X.A) (I : Inv X pins σ H s) (r : Vals vs us) (q : sp vs H Q E0) :
    wpAny (model X.prog X.w) X.A.in1 (call (.ref f) us) (EP X pins σ Q) X.xe s := by
  have hl := F.len _ _ _ _ q
  have bb := bd s us I.kIn (by rw [List.append_nil]; rw [← r.length]; exact hl)
  rw [List.append_nil] at bb
  refine wpAny_call (codeAny_mono (F.run X.A.in1 X.stack s H ⟨us, []⟩ us vs Q E0 hr.in1 I.env0.in1 bb r q) fun r s' hq => ?_)
  cases r with
  | error e => exact pass0 pins σ H s e s' I hq
  | ok fl =>
    cases fl with
    | ret z => exact I.after hq
    | next => exact False.elim hq
    | brk => exact False.elim hq
    | cont => exact False.elim hq
theorem run_in2 {pins : List (Addr × Obj)} {s : Shared} {σ : L2.St} {H : Hp} {f : Addr} {fd : FuncData} {us : List Value} {vs : List V} {Q : VK} (F : FnOk X.prog X.w X.K X.mg X.base CX0 k f fd ps sp) (bd : Binds X.K fd ps []) (hr : Room (k + 2) X.A) (I : Inv X pins σ H s) (r : Vals vs us) (q : sp vs H Q E0) :
    wpAny (model X.prog X.w) X.A.in1.in1 (call (.ref f) us) (EP X pins σ Q) X.xe s := by
  have hl := F.len _ _ _ _ q
  have bb := bd s us I.kIn (by rw [List.append_nil]; rw [← r.length]; exact hl)
  rw [List.append_nil] at bb
  refine wpAny_call (codeAny_mono (F.run X.A.in1.in1 X.stack s H ⟨us, []⟩ us vs Q E0 hr.in1.in1 I.env0.in1.in1 bb r q) fun r s' hq => ?_)
  cases r with
  | error e => exact pass0 pins σ H s e s' I hq
  | ok fl =>
    cases fl with
    | ret z => exact I.after hq
    | next => exact False.elim hq
    | brk => exact False.elim hq
    | cont => exact False.elim hq
def oN (Q : VK) : VK := fun v H2 => ∃ c, v = .bl c ∧ Q (.bl (!c)) H2
theorem backN {pins : List (Addr × Obj)} {σ : L2.St} {Q : VK} {r : Value} {s' : Shared} (h : EP X pins σ (oN Q) r s') : ∃ c, r = .bool c ∧ EP X pins σ Q (.bool (!c)) s' := by
  obtain ⟨z, H2, I2, rz, c, rfl, q2⟩ := h
  cases rz
  exact ⟨c, rfl, V.bl (!c), H2, I2, rfl, q2⟩
structure NeC (K : PySem.W.Frag) (C : Addr) : Prop where
  hm : PySem.W.mroIn K C (.type "object") = some true
  hN : PySem.W.findIn K (.ref C) "__ne__" = some (some (.builtin "object.__ne__"))
  si : PySem.W.subIn K (.type "int") (.ref C) = some false
  sc : PySem.W.subIn K (.ref C) (.type "int") = some false
def nOX (C : Addr) (sp : Sp) : R2 := fun x y H Q => ∃ (a dx : Addr) (gs : List (Str × V)), x = .ref a ∧ H a = some (.ins C dx gs) ∧ ((∃ n : Int, y = .int n) ∨ ∃ (b dy : Addr) (hs : List (Str × V)), y = .ref b ∧ H b = some (.ins C dy hs)) ∧ sp [.ref a, y] H (oN Q) E0
def nIO (C : Addr) (sp : Sp) : R2 := fun x y H Q => ∃ (a dx : Addr) (gs : List (Str × V)) (n : Int), y = .ref a ∧ H a = some (.ins C dx gs) ∧ x = .int n ∧ sp [.ref a, .int n] H (oN Q) E0
theorem op_ne_ox (N : NeC X.K C) (M : OpOwn X.prog X.w X.K X.mg X.base k C "__eq__" ps sp) (hr : Room (k + 1) X.A) : OpR X (compareOp .NotEq) (nOX C sp) := by
  obtain ⟨f, fd, hs, hf, F, b⟩ := M.ex
  intro pins s σ H x y v u Q I rx ry h
  obtain ⟨a, dx, gs, rfl, ea, hy, q⟩ := h
  cases rx
  obtain ⟨mA, J, _⟩ := ins_get I.hok ea
  obtain ⟨od, J, _⟩ := J.look
  obtain ⟨m, hF⟩ := I.fr
  have run := run_in1 F b hr I (.cons (show RelV (.ref a) (.ref a) from rfl) (.cons ry .nil)) q
  have fin := wpAny_mono run (fun r s' z => backN z) fun _ _ z => z
  rcases hy with ⟨n, rfl⟩ | ⟨b', dy, gs', rfl, eb⟩
  · obtain ⟨t, rfl⟩ := ry
    exact ne_K (tb := .type "int") hr.in1.units0 hr.units0 hF I.ok.mod.kin J (PySem.W.Looks.of_pure rfl) (by unfold PySem.W.notFirst; rw [N.si]; simp) N.hm N.hN hs hf fin
  · cases ry
    obtain ⟨mB, J', _⟩ := ins_get I.hok eb
    obtain ⟨od', J', _⟩ := J'.look
    exact ne_K hr.in1.units0 hr.units0 hF I.ok.mod.kin J J'.type (by unfold PySem.W.notFirst; simp) N.hm N.hN hs hf fin
theorem op_ne_io (N : NeC X.K C) (M : OpOwn X.prog X.w X.K X.mg X.base k C "__eq__" ps sp) (hr : Room (k + 1) X.A) : OpR X (compareOp .NotEq) (nIO C sp) := by
  obtain ⟨f, fd, hs, hf, F, b⟩ := M.ex
  intro pins s σ H x y v u Q I rx ry h
  obtain ⟨a, dx, gs, n, rfl, ea, rfl, q⟩ := h
  cases ry
  obtain ⟨t, rfl⟩ := rx
  obtain ⟨mA, J, _⟩ := ins_get I.hok ea
  obtain ⟨od, J, _⟩ := J.look
  obtain ⟨m, hF⟩ := I.fr
  have run := run_in1 F b hr I (.cons (show RelV (.ref a) (.ref a) from rfl) (.cons (show RelV (.int n) (.int n t) from ⟨_, rfl⟩) .nil)) q
  exact ne_refl hr.in1.units0 hr.units0 hF I.ok.mod.kin J N.hm N.hN hs hf N.sc (wpAny_mono run (fun r s' z => backN z) fun _ _ z => z)
/-- own == y, y of a built-in type -/
def cOX (K : PySem.W.Frag) (C : Addr) (sp : Sp) : R2 := fun x y H Q => ∃ (a dx : Addr) (gs : List (Str × V)) (T : String), x = .ref a ∧ H a = some (.ins C dx gs) ∧ TyX K H y (.type T) ∧ PySem.W.subIn K (.type T) (.ref C) = some false ∧ sp [.ref a, y] H (oB Q) E0
theorem cmp_ox (M : OpOwn X.prog X.w X.K X.mg X.base k C "__eq__" ps sp) (hr : Room (k + 1) X.A) : OpR X (compareOp .Eq) (cOX X.K C sp) := by
  obtain ⟨f, fd, hs, hf, F, b⟩ := M.ex
  intro pins s σ H x y v u Q I rx ry h
  obtain ⟨a, dx, gs, T, rfl, ea, ty, hsub, q⟩ := h
  cases rx
  obtain ⟨mA, J, _⟩ := ins_get I.hok ea
  obtain ⟨od, J, _⟩ := J.look
  obtain ⟨m, hF⟩ := I.fr
  obtain ⟨P, kx, hp, _⟩ := kit_of I ry ty
  refine PySem.W.cmp_K (op := .Eq) hr.units0 hF I.ok.mod.kin J (kx.ty _ _ I.kIn hp) (by unfold PySem.W.notFirst; rw [hsub]; simp) hs hf ?_
  exact wpAny_mono (run_fn F (hr.mono (Nat.le_succ _)) b (dvs := []) .nil pass0 I (.cons (show RelV (.ref a) (.ref a) from rfl) (.cons ry .nil)) q) (fun r s' hr => backB hr) fun _ _ z => z
def rBoolO (C : Addr) (sp : Sp) : List V → Hp → VK → Prop := fun xs H Q => ∃ (a dx : Addr) (gs : List (Str × V)), xs = [.ref a] ∧ H a = some (.ins C dx gs) ∧ sp [.ref a] H (oB Q) E0
theorem call_boolO (M : OpOwn X.prog X.w X.K X.mg X.base k C "__bool__" ps sp) (hr : Room (k + 2) X.A) : CallR X (.type "bool") (rBoolO C sp) := by
  obtain ⟨f, fd, hs, hf, F, b⟩ := M.ex
  intro pins s σ H xs us Q I r h
  obtain ⟨a, dx, gs, rfl, ea, q⟩ := h
  obtain ⟨u, rfl, rx⟩ := vals1 r
  cases rx
  obtain ⟨mA, J, _⟩ := ins_get I.hok ea
  obtain ⟨od, J, _⟩ := J.look
  obtain ⟨m, hF⟩ := I.fr
  refine call_bool_own (PySem.W.truthy_K hF I.ok.mod.kin J hs hf (wpAny_mono (run_in2 F b hr I r q) (fun v s' hv => ?_) fun _ _ z => z))
  obtain ⟨z, H2, I2, rz, c, rfl, q2⟩ := hv
  cases rz
  exact ⟨V.bl c, H2, I2, rfl, q2⟩
def oS (Q : VK) : VK := fun v H2 => ∃ z, v = .str z ∧ Q (.str z) H2
def rStrO (C : Addr) (sp : Sp) : List V → Hp → VK → Prop := fun xs H Q => ∃ (a dx : Addr) (gs : List (Str × V)), xs = [.ref a] ∧ H a = some (.ins C dx gs) ∧ sp [.ref a] H (oS Q) E0
theorem call_strO (M : OpOwn X.prog X.w X.K X.mg X.base k C "__str__" ps sp) (hr : Room (k + 2) X.A) : CallR X (.type "str") (rStrO C sp) := by
  obtain ⟨f, fd, hs, hf, F, b⟩ := M.ex
  intro pins s σ H xs us Q I r h
  obtain ⟨a, dx, gs, rfl, ea, q⟩ := h
  obtain ⟨u, rfl, rx⟩ := vals1 r
  cases rx
  obtain ⟨mA, J, _⟩ := ins_get I.hok ea
  obtain ⟨od, J, _⟩ := J.look
  refine PySem.W.kso_call hr.in1.in1.units0 I.kIn J hs hf (wpAny_mono (run_in2 F b hr I r q) (fun v s' hv => ?_) fun _ _ z => z)
  obtain ⟨z, H2, I2, rz, c, rfl, q2⟩ := hv
  obtain ⟨t, rfl⟩ := rz
  exact ⟨V.str c, H2, I2, ⟨t, rfl⟩, q2⟩
def CPowW (i j : Int) : Prop := 0 ≤ j ∧ (Builtin.Int.intBits i : Int) * j ≤ 2 ^ 27
theorem op_powW : OpR X (binaryOp .Pow) (rI CPowW fun i j => .int (i ^ j.toNat)) := opI fun _ _ _ _ _ _ _ hc q => PyProof.Rows.pow_int hc.1 hc.2 q
end
end Bx

set_option Elab.async false
set_option linter.all false
set_option maxRecDepth 100000
set_option maxHeartbeats 4000000
namespace Fl
open PySem PySem.Spec PyProof.Rows L2
/-! ### a heap without one place -/
def wo (H : Hp) (d : Addr) : Hp := fun a => if a = d then none else H a
theorem wo_sub (H : Hp) (d : Addr) : Same (wo H d) H := fun a o h => by
  unfold wo at h
  split at h
  · cases h
  · exact h
theorem wo_same {H H' : Hp} (d : Addr) (s : Same H H') : Same (wo H d) (wo H' d) := fun a o h => by
  unfold wo at *
  split at h
  · cases h
  · rename_i n
    rw [if_neg n]
    exact s a o h
theorem wo_keep {H H' : Hp} {d : Addr} (s : Keeps H H' d) : Same (wo H d) (wo H' d) := fun a o h => by
  unfold wo at *
  split at h
  · cases h
  · rename_i n
    rw [if_neg n]
    exact s a o h n
theorem wo_upd {H : Hp} {d : Addr} {o : HO} : Same (wo H d) (wo (upd H d o) d) := fun a u h => by
  unfold wo at *
  split at h
  · cases h
  · rename_i n
    rw [if_neg n, upd_ne n]
    exact h
theorem wo_of {H : Hp} {d : Addr} (h : H d = none) : Same H (wo H d) := fun a o e => by
  unfold wo
  rw [if_neg (ne_of_none e h)]
  exact e
theorem wo_at {H : Hp} {d a : Addr} {o : HO} (h : H a = some o) (n : a ≠ d) : wo H d a = some o := by
  unfold wo
  rw [if_neg n]
  exact h
theorem same_late {H0 H : Hp} {D : Addr} {o : HO} (s : Same H0 H) (h : H0 D = none) : Same H0 (upd H D o) := fun b u e => by
  rw [upd_ne (ne_of_none e h)]
  exact s b u e
/-! ### lists whose items are told one by one -/
def LAt {α : Type} (R : Hp → V → α → Prop) (H : Hp) (a : Addr) (xs : List α) : Prop := ∃ vs : List V, H a = some (.lst vs) ∧ vs.length = xs.length ∧ ∀ (i : Nat) (x : α), xs[i]? = some x → ∃ v, vs[i]? = some v ∧ R H v x
def Mono {α : Type} (R : Hp → V → α → Prop) : Prop := ∀ (H H' : Hp) (v : V) (x : α), Same H H' → R H v x → R H' v x
theorem LAt.same {α : Type} {R : Hp → V → α → Prop} (m : Mono R) {H H' : Hp} {a : Addr} {xs : List α} (h : LAt R H a xs) (k : Same H H') : LAt R H' a xs := by
  obtain ⟨vs, h1, h2, h3⟩ := h
  refine ⟨vs, k _ _ h1, h2, fun i x hx => ?_⟩
  obtain ⟨v, hv, r⟩ := h3 i x hx
  exact ⟨v, hv, m _ _ _ _ k r⟩
theorem LAt.imp {α β : Type} {R : Hp → V → α → Prop} {S : Hp → V → β → Prop} {f : α → β} {H : Hp} {a : Addr} {xs : List α} (h : LAt R H a xs) (k : ∀ v x, R H v x → S H v (f x)) : LAt S H a (xs.map f) := by
  obtain ⟨vs, h1, h2, h3⟩ := h
  refine ⟨vs, h1, by rw [List.length_map]; exact h2, fun i y hy => ?_⟩
  rw [List.getElem?_map] at hy
  cases hx : xs[i]? with
  | none => rw [hx] at hy; cases hy
  | some x =>
    rw [hx] at hy
    cases hy
    obtain ⟨v, hv, r⟩ := h3 i x hx
    exact ⟨v, hv, k v x r⟩
theorem LAt.map {α : Type} {R : Hp → V → α → Prop} {H : Hp} {a : Addr} {xs : List α} {f : α → V} (h : LAt R H a xs) (k : ∀ v x, R H v x → v = f x) : H a = some (.lst (xs.map f)) := by
  obtain ⟨vs, h1, h2, h3⟩ := h
  rw [h1]
  congr 2
  refine List.ext_getElem? fun i => ?_
  rw [List.getElem?_map]
  cases hx : xs[i]? with
  | none =>
    rw [List.getElem?_eq_none_iff] at hx
    exact List.getElem?_eq_none (by omega)
  | some x =>
    obtain ⟨v, hv, r⟩ := h3 i x hx
    rw [hv, k v x r]
    rfl
theorem item {vs : List V} {α : Type} {xs : List α} {i : Nat} {v : V} (hl : vs.length = xs.length) (hv : vs[i]? = some v) : ∃ x, xs[i]? = some x := by
  have h : i < vs.length := (List.getElem?_eq_some_iff.mp hv).1
  exact ⟨_, List.getElem?_eq_getElem (by omega)⟩
/-- a comprehension over a list, one new item for each -/
theorem lc_build {K : PySem.W.Frag} {a : Addr} {xs : List V} {g : TG} {tt : TT} {te : TE} {vs : List Nat} {σ : L2.St} {Hc : Hp} {D : Addr} {Qd : Hp → Prop} {β : Type} (S : Hp → V → β → Prop) (ys : List β) (mono : Mono S)
    (hD : Hc D = none) (hlen : xs.length = ys.length) (hl : SqL K Hc a xs) (small : ys.length ≤ 1000)
    (hs : ∀ (i : Nat) (x : V) (y : β) (H : Hp) (Kc : VK) (Ke : Hp → Prop), xs[i]? = some x → ys[i]? = some y → Same Hc H → (∃ acc, H D = some (.lst acc)) → (∀ v H4, Same H H4 → S (wo H4 D) v y → Kc v H4) →
      g x (wipe σ vs) H fun σ2 H2 => wipe σ2 vs = wipe σ vs ∧ tt σ2 H2 fun b H3 => if b = true then te σ2 H3 Kc else Ke H3)
    (hd : ∀ H', Same Hc H' → LAt S H' D ys → Qd H') :
    ∃ W : Nat → Nat → Hp → Prop, (∃ m, W 0 m (upd Hc D (.lst []))) ∧ ∀ i m H, W i m H →
      ((Itl K a).stop i H ∧ Qd H) ∨ ((Itl K a).go i H ∧ ∃ Nx : Hp → Prop, (∀ H', Nx H' → ∃ m', m' < m ∧ W (i + 1) m' H') ∧ ∀ x H', (Itl K a).yld i H x H' → g x (wipe σ vs) H' fun σ2 H2 => wipe σ2 vs = wipe σ vs ∧ tt σ2 H2 fun b H3 =>
        if b = true then te σ2 H3 fun y H4 => ∃ acc, H4 D = some (.lst acc) ∧ acc.length < sizeLine ∧ Nx (upd H4 D (.lst (acc ++ [y]))) else Nx H3) := by
  refine lc_list (xs := xs) (fun i H' => Same Hc H' ∧ ∃ acc : List V, H' D = some (.lst acc) ∧ acc.length = i ∧ ∀ (j : Nat) (y : β), j < i → ys[j]? = some y → ∃ v, acc[j]? = some v ∧ S (wo H' D) v y)
    ⟨same_upd hD, [], upd_same, rfl, fun j y hj => absurd hj (by omega)⟩ (fun i H' _ h => h.1.seq hl) ?_ ?_
  · rintro i x H hx ⟨s, acc, hacc, hlen2, hall⟩
    have hi : i < xs.length := (List.getElem?_eq_some_iff.mp hx).1
    have hy : ys[i]? = some ys[i] := List.getElem?_eq_getElem (by omega)
    refine hs i x ys[i] H _ _ hx hy s ⟨acc, hacc⟩ fun v H4 s4 hS => ?_
    have hacc4 := s4 _ _ hacc
    refine ⟨acc, hacc4, by rw [hlen2]; exact small1000 (by omega), same_late (s.trans s4) hD, acc ++ [v], upd_same, by rw [List.length_append, hlen2]; rfl, fun j y hj hyj => ?_⟩
    by_cases hji : j < i
    · obtain ⟨u, hu, hSu⟩ := hall j y hji hyj
      refine ⟨u, by rw [List.getElem?_append_left (by omega)]; exact hu, ?_⟩
      exact mono _ _ _ _ ((wo_same D s4).trans wo_upd) hSu
    · have e : j = i := by omega
      subst e
      rw [hy] at hyj
      cases hyj
      refine ⟨v, by rw [List.getElem?_append_right (by omega), hlen2, Nat.sub_self]; rfl, mono _ _ _ _ wo_upd hS⟩
  · rintro H' ⟨s, acc, hacc, hlen2, hall⟩
    refine hd H' s ⟨acc, hacc, by omega, fun j y hy => ?_⟩
    have hj : j < ys.length := (List.getElem?_eq_some_iff.mp hy).1
    obtain ⟨v, hv, hS⟩ := hall j y (by omega) hy
    exact ⟨v, hv, mono _ _ _ _ (wo_sub H' D) hS⟩
end Fl

set_option Elab.async false
set_option linter.all false
set_option maxRecDepth 100000
set_option maxHeartbeats 4000000
set_option pp.maxSteps 160
set_option pp.deepTerms false
namespace L
open PySem PySem.Spec PyProof.Rows L2 Fl
local macro_rules | `(tactic| walk_at "side") => `(tactic| first | (exact .inl ⟨by omega, by omega⟩) | (exact .inr ⟨by omega, by omega⟩) | (exact .inr ⟨by decide, by decide⟩) | (show (_ : Int) ≠ _; omega) | (exact ⟨by omega, by decide⟩) | (exact ⟨by decide, by decide, by decide⟩))
local macro_rules | `(tactic| walk_at "go") => `(tactic| repeat (first | refine ⟨_, rfl, ?_⟩ | refine ⟨_, _, rfl, rfl, ?_⟩ | refine .inl ⟨_, rfl, ?_⟩ | refine ⟨rfl, ?_⟩ | refine ⟨(by walk_at "side"), ?_⟩))
local macro_rules | `(tactic| walk_at "see") => `(tactic| (set_option pp.maxSteps 110 in set_option pp.deepTerms false in trace_state))
local macro_rules | `(tactic| walk_at "if") => `(tactic| first | refine ifE ?_ ?_ | refine ifNE ?_ ?_ | refine ifD ?_ ?_ | refine ifN ?_ ?_ | refine ifB ?_ ?_)
def topS (i : Nat) : Stmt := PySem.Challenge.pw_fieldlots_k43_dealt_gain.main.body.getD i (.Pass ⟨0, 0, 0, 0⟩)
abbrev s_wall : Stmt := topS 1
theorem sc_wall : FnScope ["k"] ["k"] (defScope s_wall) := ⟨rfl, rfl, rfl, by decide +kernel, rfl, by decide +kernel, by decide +kernel⟩
abbrev s_BadNumber_init : Stmt := inClass (topS 5) 0
theorem sc_BadNumber_init : FnScope ["self", "name", "value"] ["self", "name", "value"] (defScope s_BadNumber_init) := ⟨rfl, rfl, rfl, by decide +kernel, rfl, by decide +kernel, by decide +kernel⟩
abbrev s_TooMany_init : Stmt := inClass (topS 6) 0
theorem sc_TooMany_init : FnScope ["self", "name", "most"] ["self", "name", "most"] (defScope s_TooMany_init) := ⟨rfl, rfl, rfl, by decide +kernel, rfl, by decide +kernel, by decide +kernel⟩
abbrev s_check_ties : Stmt := topS 10
theorem sc_check_ties : FnScope ["ties"] ["ties"] (defScope s_check_ties) := ⟨rfl, rfl, rfl, by decide +kernel, rfl, by decide +kernel, by decide +kernel⟩
abbrev s_check_worth : Stmt := topS 11
theorem sc_check_worth : FnScope ["worth"] ["worth"] (defScope s_check_worth) := ⟨rfl, rfl, rfl, by decide +kernel, rfl, by decide +kernel, by decide +kernel⟩
abbrev s_is_number : Stmt := topS 14
theorem sc_is_number : FnScope ["value"] ["value"] (defScope s_is_number) := ⟨rfl, rfl, rfl, by decide +kernel, rfl, by decide +kernel, by decide +kernel⟩
abbrev s_as_ratio : Stmt := topS 15
theorem sc_as_ratio : FnScope ["number"] ["number"] (defScope s_as_ratio) := ⟨rfl, rfl, rfl, by decide +kernel, rfl, by decide +kernel, by decide +kernel⟩
abbrev s_added : Stmt := topS 16
theorem sc_added : FnScope ["numbers", "total", "number"] ["numbers"] (defScope s_added) := ⟨rfl, rfl, rfl, by decide +kernel, rfl, by decide +kernel, by decide +kernel⟩
abbrev s_top_of : Stmt := topS 17
theorem sc_top_of : FnScope ["number"] ["number"] (defScope s_top_of) := ⟨rfl, rfl, rfl, by decide +kernel, rfl, by decide +kernel, by decide +kernel⟩
abbrev s_under_of : Stmt := topS 18
theorem sc_under_of : FnScope ["number"] ["number"] (defScope s_under_of) := ⟨rfl, rfl, rfl, by decide +kernel, rfl, by decide +kernel, by decide +kernel⟩
abbrev s_rounded_quotient : Stmt := topS 19
theorem sc_rounded_quotient : FnScope ["number", "divisor", "under"] ["number", "divisor"] (defScope s_rounded_quotient) := ⟨rfl, rfl, rfl, by decide +kernel, rfl, by decide +kernel, by decide +kernel⟩
abbrev s_remainder : Stmt := topS 20
theorem sc_remainder : FnScope ["number", "divisor"] ["number", "divisor"] (defScope s_remainder) := ⟨rfl, rfl, rfl, by decide +kernel, rfl, by decide +kernel, by decide +kernel⟩
abbrev s_Ratio_init : Stmt := inClass (topS 21) 0
theorem sc_Ratio_init : FnScope ["self", "top", "under", "shared"] ["self", "top", "under"] (defScope s_Ratio_init) := ⟨rfl, rfl, rfl, by decide +kernel, rfl, by decide +kernel, by decide +kernel⟩
abbrev s_Ratio_whole : Stmt := inClass (topS 21) 1
theorem sc_Ratio_whole : FnScope ["self"] ["self"] (defScope s_Ratio_whole) := ⟨rfl, rfl, rfl, by decide +kernel, rfl, by decide +kernel, by decide +kernel⟩
abbrev s_Ratio_floor : Stmt := inClass (topS 21) 2
theorem sc_Ratio_floor : FnScope ["self"] ["self"] (defScope s_Ratio_floor) := ⟨rfl, rfl, rfl, by decide +kernel, rfl, by decide +kernel, by decide +kernel⟩
abbrev s_Ratio_ceiling : Stmt := inClass (topS 21) 3
theorem sc_Ratio_ceiling : FnScope ["self"] ["self"] (defScope s_Ratio_ceiling) := ⟨rfl, rfl, rfl, by decide +kernel, rfl, by decide +kernel, by decide +kernel⟩
abbrev s_Ratio_over : Stmt := inClass (topS 21) 4
theorem sc_Ratio_over : FnScope ["self", "number"] ["self", "number"] (defScope s_Ratio_over) := ⟨rfl, rfl, rfl, by decide +kernel, rfl, by decide +kernel, by decide +kernel⟩
abbrev s_Ratio_power : Stmt := inClass (topS 21) 5
theorem sc_Ratio_power : FnScope ["self", "n", "top", "under", "_"] ["self", "n"] (defScope s_Ratio_power) := ⟨rfl, rfl, rfl, by decide +kernel, rfl, by decide +kernel, by decide +kernel⟩
abbrev s_Ratio_str : Stmt := inClass (topS 21) 6
theorem sc_Ratio_str : FnScope ["self"] ["self"] (defScope s_Ratio_str) := ⟨rfl, rfl, rfl, by decide +kernel, rfl, by decide +kernel, by decide +kernel⟩
abbrev s_Ratio_bool : Stmt := inClass (topS 21) 7
theorem sc_Ratio_bool : FnScope ["self"] ["self"] (defScope s_Ratio_bool) := ⟨rfl, rfl, rfl, by decide +kernel, rfl, by decide +kernel, by decide +kernel⟩
abbrev s_Ratio_neg : Stmt := inClass (topS 21) 8
theorem sc_Ratio_neg : FnScope ["self"] ["self"] (defScope s_Ratio_neg) := ⟨rfl, rfl, rfl, by decide +kernel, rfl, by decide +kernel, by decide +kernel⟩
abbrev s_Ratio_abs : Stmt := inClass (topS 21) 9
theorem sc_Ratio_abs : FnScope ["self"] ["self"] (defScope s_Ratio_abs) := ⟨rfl, rfl, rfl, by decide +kernel, rfl, by decide +kernel, by decide +kernel⟩
abbrev s_Ratio_add : Stmt := inClass (topS 21) 10
theorem sc_Ratio_add : FnScope ["self", "other", "top"] ["self", "other"] (defScope s_Ratio_add) := ⟨rfl, rfl, rfl, by decide +kernel, rfl, by decide +kernel, by decide +kernel⟩
abbrev s_Ratio_radd : Stmt := inClass (topS 21) 11
theorem sc_Ratio_radd : FnScope ["self", "other"] ["self", "other"] (defScope s_Ratio_radd) := ⟨rfl, rfl, rfl, by decide +kernel, rfl, by decide +kernel, by decide +kernel⟩
abbrev s_Ratio_sub : Stmt := inClass (topS 21) 12
theorem sc_Ratio_sub : FnScope ["self", "other", "top"] ["self", "other"] (defScope s_Ratio_sub) := ⟨rfl, rfl, rfl, by decide +kernel, rfl, by decide +kernel, by decide +kernel⟩
abbrev s_Ratio_rsub : Stmt := inClass (topS 21) 13
theorem sc_Ratio_rsub : FnScope ["self", "other"] ["self", "other"] (defScope s_Ratio_rsub) := ⟨rfl, rfl, rfl, by decide +kernel, rfl, by decide +kernel, by decide +kernel⟩
abbrev s_Ratio_mul : Stmt := inClass (topS 21) 14
theorem sc_Ratio_mul : FnScope ["self", "other"] ["self", "other"] (defScope s_Ratio_mul) := ⟨rfl, rfl, rfl, by decide +kernel, rfl, by decide +kernel, by decide +kernel⟩
abbrev s_Ratio_rmul : Stmt := inClass (topS 21) 15
theorem sc_Ratio_rmul : FnScope ["self", "other"] ["self", "other"] (defScope s_Ratio_rmul) := ⟨rfl, rfl, rfl, by decide +kernel, rfl, by decide +kernel, by decide +kernel⟩
abbrev s_Ratio_floordiv : Stmt := inClass (topS 21) 16
theorem sc_Ratio_floordiv : FnScope ["self", "other"] ["self", "other"] (defScope s_Ratio_floordiv) := ⟨rfl, rfl, rfl, by decide +kernel, rfl, by decide +kernel, by decide +kernel⟩
abbrev s_Ratio_rfloordiv : Stmt := inClass (topS 21) 17
theorem sc_Ratio_rfloordiv : FnScope ["self", "other"] ["self", "other"] (defScope s_Ratio_rfloordiv) := ⟨rfl, rfl, rfl, by decide +kernel, rfl, by decide +kernel, by decide +kernel⟩
abbrev s_Ratio_mod : Stmt := inClass (topS 21) 18
theorem sc_Ratio_mod : FnScope ["self", "other"] ["self", "other"] (defScope s_Ratio_mod) := ⟨rfl, rfl, rfl, by decide +kernel, rfl, by decide +kernel, by decide +kernel⟩
abbrev s_Ratio_rmod : Stmt := inClass (topS 21) 19
theorem sc_Ratio_rmod : FnScope ["self", "other"] ["self", "other"] (defScope s_Ratio_rmod) := ⟨rfl, rfl, rfl, by decide +kernel, rfl, by decide +kernel, by decide +kernel⟩
abbrev s_Ratio_pow : Stmt := inClass (topS 21) 20
theorem sc_Ratio_pow : FnScope ["self", "other"] ["self", "other"] (defScope s_Ratio_pow) := ⟨rfl, rfl, rfl, by decide +kernel, rfl, by decide +kernel, by decide +kernel⟩
abbrev s_Ratio_eq : Stmt := inClass (topS 21) 21
theorem sc_Ratio_eq : FnScope ["self", "other"] ["self", "other"] (defScope s_Ratio_eq) := ⟨rfl, rfl, rfl, by decide +kernel, rfl, by decide +kernel, by decide +kernel⟩
abbrev s_Ratio_lt : Stmt := inClass (topS 21) 22
theorem sc_Ratio_lt : FnScope ["self", "other"] ["self", "other"] (defScope s_Ratio_lt) := ⟨rfl, rfl, rfl, by decide +kernel, rfl, by decide +kernel, by decide +kernel⟩
abbrev s_Ratio_le : Stmt := inClass (topS 21) 23
theorem sc_Ratio_le : FnScope ["self", "other"] ["self", "other"] (defScope s_Ratio_le) := ⟨rfl, rfl, rfl, by decide +kernel, rfl, by decide +kernel, by decide +kernel⟩
abbrev s_Ratio_gt : Stmt := inClass (topS 21) 24
theorem sc_Ratio_gt : FnScope ["self", "other"] ["self", "other"] (defScope s_Ratio_gt) := ⟨rfl, rfl, rfl, by decide +kernel, rfl, by decide +kernel, by decide +kernel⟩
abbrev s_Ratio_ge : Stmt := inClass (topS 21) 25
theorem sc_Ratio_ge : FnScope ["self", "other"] ["self", "other"] (defScope s_Ratio_ge) := ⟨rfl, rfl, rfl, by decide +kernel, rfl, by decide +kernel, by decide +kernel⟩
abbrev s_check_classes : Stmt := topS 24
theorem sc_check_classes : FnScope ["classes", "worth", "many", "_"] ["classes"] (defScope s_check_classes) := ⟨rfl, rfl, rfl, by decide +kernel, rfl, by decide +kernel, by decide +kernel⟩
abbrev s_is_row : Stmt := topS 25
theorem sc_is_row : FnScope ["row", "many", "greater", "less"] ["row", "many"] (defScope s_is_row) := ⟨rfl, rfl, rfl, by decide +kernel, rfl, by decide +kernel, by decide +kernel⟩
abbrev s_Ground_init : Stmt := inClass (topS 26) 2
theorem sc_Ground_init : FnScope ["self", "classes", "_", "many"] ["self", "classes"] (defScope s_Ground_init) := ⟨rfl, rfl, rfl, by decide +kernel, rfl, by decide +kernel, by decide +kernel⟩
abbrev s_Ground_plain : Stmt := inClass (topS 26) 3
theorem sc_Ground_plain : FnScope ["cls", "fields"] ["cls", "fields"] (defScope s_Ground_plain) := ⟨rfl, rfl, rfl, by decide +kernel, rfl, by decide +kernel, by decide +kernel⟩
abbrev s_Ground_total : Stmt := inClass (topS 26) 4
theorem sc_Ground_total : FnScope ["self", "spread", "row", "_", "many", "forces"] ["self", "spread"] (defScope s_Ground_total) := ⟨rfl, rfl, rfl, by decide +kernel, rfl, by decide +kernel, by decide +kernel⟩
abbrev s_Ground_spreads : Stmt := inClass (topS 26) 5
theorem sc_Ground_spreads : FnScope ["self", "total"] ["self", "total"] (defScope s_Ground_spreads) := ⟨rfl, rfl, rfl, by decide +kernel, rfl, by decide +kernel, by decide +kernel⟩
abbrev s_Ground_count_spreads : Stmt := inClass (topS 26) 6
theorem sc_Ground_count_spreads : FnScope ["self", "total"] ["self", "total"] (defScope s_Ground_count_spreads) := ⟨rfl, rfl, rfl, by decide +kernel, rfl, by decide +kernel, by decide +kernel⟩
abbrev s_Ground_eq : Stmt := inClass (topS 26) 7
theorem sc_Ground_eq : FnScope ["self", "other"] ["self", "other"] (defScope s_Ground_eq) := ⟨rfl, rfl, rfl, by decide +kernel, rfl, by decide +kernel, by decide +kernel⟩
abbrev s_pairs_gain : Stmt := topS 27
theorem sc_pairs_gain : FnScope ["row", "facing", "ties", "total", "x", "y"] ["row", "facing", "ties"] (defScope s_pairs_gain) := ⟨rfl, rfl, rfl, by decide +kernel, rfl, by decide +kernel, by decide +kernel⟩
abbrev s_spread_gain : Stmt := topS 28
theorem sc_spread_gain : FnScope ["ground", "one", "other", "ties", "gains", "worth", "many", "row", "facing"] ["ground", "one", "other", "ties"] (defScope s_spread_gain) := ⟨rfl, rfl, rfl, by decide +kernel, rfl, by decide +kernel, by decide +kernel⟩
abbrev s_pool : Stmt := topS 30
theorem sc_pool : FnScope ["_law_script", "_law_cell"] ["_law_script"] (defScope s_pool) := ⟨rfl, rfl, rfl, by decide +kernel, rfl, by decide +kernel, by decide +kernel⟩
abbrev s_mix : Stmt := topS 31
theorem sc_mix : FnScope ["_law_state", "_law_turn", "_law_many", "_law_first", "_law_second"] ["_law_state", "_law_turn", "_law_many"] (defScope s_mix) := ⟨rfl, rfl, rfl, by decide +kernel, rfl, by decide +kernel, by decide +kernel⟩
abbrev s_draw : Stmt := topS 32
theorem sc_draw : FnScope ["_law_pool_here", "_law_many", "_law_spare", "_law_found", "_law_cell"] ["_law_pool_here", "_law_many"] (defScope s_draw) := ⟨rfl, rfl, rfl, by decide +kernel, rfl, by decide +kernel, by decide +kernel⟩
abbrev s_wide : Stmt := topS 33
theorem sc_wide : FnScope ["_law_pool_here", "_law_size", "_law_many", "_law_found", "_law_spare"] ["_law_pool_here"] (defScope s_wide) := ⟨rfl, rfl, rfl, by decide +kernel, rfl, by decide +kernel, by decide +kernel⟩
abbrev s_whole : Stmt := topS 34
theorem sc_whole : FnScope ["_law_actual"] ["_law_actual"] (defScope s_whole) := ⟨rfl, rfl, rfl, by decide +kernel, rfl, by decide +kernel, by decide +kernel⟩
abbrev s_gcd : Stmt := topS 35
theorem sc_gcd : FnScope ["_law_one", "_law_other", "_law_spare"] ["_law_one", "_law_other"] (defScope s_gcd) := ⟨rfl, rfl, rfl, by decide +kernel, rfl, by decide +kernel, by decide +kernel⟩
abbrev s_low : Stmt := topS 36
theorem sc_low : FnScope ["_law_top", "_law_under", "_law_common"] ["_law_top", "_law_under"] (defScope s_low) := ⟨rfl, rfl, rfl, by decide +kernel, rfl, by decide +kernel, by decide +kernel⟩
abbrev s_plus : Stmt := topS 37
theorem sc_plus : FnScope ["_law_one", "_law_other"] ["_law_one", "_law_other"] (defScope s_plus) := ⟨rfl, rfl, rfl, by decide +kernel, rfl, by decide +kernel, by decide +kernel⟩
abbrev s_ratio : Stmt := topS 38
theorem sc_ratio : FnScope ["_law_actual"] ["_law_actual"] (defScope s_ratio) := ⟨rfl, rfl, rfl, by decide +kernel, rfl, by decide +kernel, by decide +kernel⟩
abbrev s_same : Stmt := topS 39
theorem sc_same : FnScope ["_law_actual", "_law_due"] ["_law_actual", "_law_due"] (defScope s_same) := ⟨rfl, rfl, rfl, by decide +kernel, rfl, by decide +kernel, by decide +kernel⟩
abbrev s_classes : Stmt := topS 40
theorem sc_classes : FnScope ["_law_pool_here", "_law_most", "_law_many", "_law_extra", "_law_classes_here", "_law_index", "_law_own", "_law_worth"] ["_law_pool_here", "_law_most"] (defScope s_classes) := ⟨rfl, rfl, rfl, by decide +kernel, rfl, by decide +kernel, by decide +kernel⟩
abbrev s_ground : Stmt := topS 41
theorem sc_ground : FnScope ["_law_classes_here"] ["_law_classes_here"] (defScope s_ground) := ⟨rfl, rfl, rfl, by decide +kernel, rfl, by decide +kernel, by decide +kernel⟩
abbrev s_cut : Stmt := topS 42
theorem sc_cut : FnScope ["_law_classes_here", "_law_strengths", "_law_spread_here", "_law_at", "_law_row", "_law_own", "_law_index"] ["_law_classes_here", "_law_strengths"] (defScope s_cut) := ⟨rfl, rfl, rfl, by decide +kernel, rfl, by decide +kernel, by decide +kernel⟩
abbrev s_spread : Stmt := topS 43
theorem sc_spread : FnScope ["_law_pool_here", "_law_classes_here", "_law_total_here", "_law_fields", "_law_row", "_law_strengths", "_law_left", "_law_index"] ["_law_pool_here", "_law_classes_here", "_law_total_here"] (defScope s_spread) := ⟨rfl, rfl, rfl, by decide +kernel, rfl, by decide +kernel, by decide +kernel⟩
abbrev s_outcome : Stmt := topS 44
theorem sc_outcome : FnScope ["_law_x", "_law_y", "_law_rule"] ["_law_x", "_law_y", "_law_rule"] (defScope s_outcome) := ⟨rfl, rfl, rfl, by decide +kernel, rfl, by decide +kernel, by decide +kernel⟩
abbrev s_put_in : Stmt := topS 45
theorem sc_put_in : FnScope ["_law_orders_here", "_law_strength", "_law_longer", "_law_order", "_law_at"] ["_law_orders_here", "_law_strength"] (defScope s_put_in) := ⟨rfl, rfl, rfl, by decide +kernel, rfl, by decide +kernel, by decide +kernel⟩
abbrev s_orders : Stmt := topS 46
theorem sc_orders : FnScope ["_law_row", "_law_at", "_law_orders_here", "_law_strength"] ["_law_row"] (defScope s_orders) := ⟨rfl, rfl, rfl, by decide +kernel, rfl, by decide +kernel, by decide +kernel⟩
abbrev s_dealt : Stmt := topS 47
theorem sc_dealt : FnScope ["_law_classes_here", "_law_one", "_law_other", "_law_rule", "_law_found", "_law_index", "_law_orders_here", "_law_won", "_law_order", "_law_at"] ["_law_classes_here", "_law_one", "_law_other", "_law_rule"] (defScope s_dealt) := ⟨rfl, rfl, rfl, by decide +kernel, rfl, by decide +kernel, by decide +kernel⟩
abbrev s_far : Stmt := topS 48
theorem sc_far : FnScope ["_law_pool_here"] ["_law_pool_here"] (defScope s_far) := ⟨rfl, rfl, rfl, by decide +kernel, rfl, by decide +kernel, by decide +kernel⟩
abbrev s_total : Stmt := topS 49
theorem sc_total : FnScope ["_law_pool_here"] ["_law_pool_here"] (defScope s_total) := ⟨rfl, rfl, rfl, by decide +kernel, rfl, by decide +kernel, by decide +kernel⟩
abbrev s_beside : Stmt := topS 50
theorem sc_beside : FnScope ["_law_pool_here", "_law_classes_here", "_law_spread_here", "_law_strengths", "_law_row", "_law_strength"] ["_law_pool_here", "_law_classes_here", "_law_spread_here"] (defScope s_beside) := ⟨rfl, rfl, rfl, by decide +kernel, rfl, by decide +kernel, by decide +kernel⟩
abbrev s_spoiled : Stmt := topS 51
theorem sc_spoiled : FnScope ["_law_pool_here", "_law_spread_here", "_law_at", "_law_row", "_law_way"] ["_law_pool_here", "_law_spread_here"] (defScope s_spoiled) := ⟨rfl, rfl, rfl, by decide +kernel, rfl, by decide +kernel, by decide +kernel⟩
abbrev s_refused : Stmt := topS 52
theorem sc_refused : FnScope ["_law_ground_here", "_law_one", "_law_other", "_law_rule", "_law_found", "_law_kinds", "wrong", "bad"] ["_law_ground_here", "_law_one", "_law_other", "_law_rule"] (defScope s_refused) := ⟨rfl, rfl, rfl, by decide +kernel, rfl, by decide +kernel, by decide +kernel⟩
abbrev s_law : Stmt := topS 53
theorem sc_law : FnScope ["_law_script", "_law_pool_here", "_law_classes_here", "_law_one", "_law_other", "_law_way", "_law_rule", "_law_far_here", "_law_spoiled_here", "_law_ground_here", "_law_due", "_law_pair"] ["_law_script"] (defScope s_law) := ⟨rfl, rfl, rfl, by decide +kernel, rfl, by decide +kernel, by decide +kernel⟩
section
variable {P : Program} {w : World} {K : PySem.W.Frag} {mg : Str → Option Value} {base : Heap}

def spMix : Sp := fun vs H Q _ => ∃ (s t m : Int), vs = [.int s, .int t, .int m] ∧ 2 ≤ m ∧ m < 1073741824 ∧ ∀ r : Int, 0 ≤ r → r < m → Q (.int r) H
abbrev CalMix (P : Program) (w : World) (K : PySem.W.Frag) (mg : Str → Option Value) (base : Heap) := Cal P w K mg base 1 "_law_mix" ["_law_state", "_law_turn", "_law_many"] spMix
theorem ok_mix (B : Blt mg) (D : Dfn K mg "_law_mix" "_law_mix" s_mix ["_law_state", "_law_turn", "_law_many"]) : CalMix P w K mg base := by
  refine D.cal sc_mix (fun vs H Q E h => ?_) (fun f cdv A outer st H vs Q E hr h => ?_)
  · obtain ⟨s, t, m, rfl, _⟩ := h
    rfl
  · obtain ⟨s, t, m, rfl, h2, h3, q⟩ := h
    refine ⟨_, (pss_cons (ps_set (i := 3) sc_mix.nd rfl (Or.inl rfl) (pe_op op_modN (pe_callTy call_int1 (by rfl) B.int (by decide +kernel) (pa_cons (pe_op op_add (pe_op op_add (pe_op op_mul (pv 0) (pe_int)) (pe_op op_mul (pv 1) (pe_int))) (pe_int)) pa_nil)) (pe_int)))
      (pss_cons (ps_set (i := 4) sc_mix.nd rfl (Or.inl rfl) (pe_op op_modN (pe_callTy call_int1 (by rfl) B.int (by decide +kernel) (pa_cons (pe_op op_add (pe_op op_add (pe_op op_mul (pv 3) (pv 3)) (pe_op op_mul (pv 1) (pe_int))) (pv 0)) pa_nil)) (pe_int)))
      (pss_one (ps_ret (pe_op op_modN (pe_callTy call_int1 (by rfl) B.int (by decide +kernel) (pa_cons (pe_op op_fdivA (pv 4) (pe_int)) pa_nil)) (pv 2)))))), ?_⟩
    walk_at "go"
    have b1 := fm (s * 16807 + t * 7919 + 101) (show (0 : Int) < 2147483629 by decide)
    refine ⟨.inl ⟨by omega, by omega⟩, ?_⟩
    walk_at "go"
    have b2 := fm (((((s * 16807 + t * 7919 + 101).fmod 2147483629 * (s * 16807 + t * 7919 + 101).fmod 2147483629) + t * 104729 + s).fmod 2147483587).fdiv 11) (show (0 : Int) < m by omega)
    exact q _ b2.1 b2.2
def spDraw : Sp := fun vs H Q _ => ∃ (p : Pla) (m : Int), vs = [.ref p, .int m] ∧ Pool H p ∧ 2 ≤ m ∧ m < 1073741824 ∧ ∀ (r : Int) (H' : Hp), 0 ≤ r → r < m → Pool H' p → Keeps H H' p → Q (.int r) H'
abbrev CalDraw (P : Program) (w : World) (K : PySem.W.Frag) (mg : Str → Option Value) (base : Heap) := Cal P w K mg base 2 "_law_draw" ["_law_pool_here", "_law_many"] spDraw
theorem ok_draw (B : Blt mg) (D : Dfn K mg "_law_draw" "_law_draw" s_draw ["_law_pool_here", "_law_many"]) (C_mix : CalMix P w K mg base) : CalDraw P w K mg base := by
  refine D.cal sc_draw (fun vs H Q E h => ?_) (fun f cdv A outer st H vs Q E hr h => ?_)
  · obtain ⟨p, m, rfl, _⟩ := h
    rfl
  · obtain ⟨p, m, rfl, ⟨ns, i, b, c, d, hp, hq, hi, hqp⟩, h2, h3, k⟩ := h
    refine ⟨_, (pss_cons (ps_if (PW.pt (pw_or (pt_cmpR op_lt (pv 1) (pe_int) (nomark _)) (pw_or1 (pt_cmpR op_eq (pe_callB call_len_seq (by rfl) B.len PySem.boot_len (pa_cons (pe_ix ix_list (pv 0) (pe_int) (fun _ _ => rfl)) pa_nil)) (pe_int) (nomark _))))) (pss_one (ps_ret (pe_int))) pss_nil)
      (pss_cons (ps_asg (pe_op op_add (pe_ix ix_list (pv 0) (pe_int) (fun _ _ => rfl)) (pe_int)) (pg_sub (pv 0) (pe_int) set_list))
      (pss_cons (ps_for PassesOwn.never rfl (pi_range1 (by rfl) B.range (pa_cons (pe_int) pa_nil)) (pg_name (i := 2) sc_draw.nd rfl (Or.inl rfl)) (pss_cons (ps_if (pt_cmpR op_gt (pe_ix ix_list (pv 0) (pe_int) (fun _ _ => rfl)) (pe_int) (nomark _)) (pss_cons (ps_set (i := 3) sc_draw.nd rfl (Or.inl rfl) (pe_op op_modN (pe_callTy call_int1 (by rfl) B.int (by decide +kernel) (pa_cons (pe_ix ix_list (pv 0) (pe_int) (fun _ _ => rfl)) pa_nil)) (pv 1)))
      (pss_cons (ps_asg (pe_op op_fdivA (pe_ix ix_list (pv 0) (pe_int) (fun _ _ => rfl)) (pv 1)) (pg_sub (pv 0) (pe_int) set_list))
      (pss_one (ps_ret (pv 3))))) pss_nil)
      (pss_cons (ps_if (pt_cmpR op_ge (pe_ix ix_list (pv 0) (pe_int) (fun _ _ => rfl)) (pe_callB call_len_seq (by rfl) B.len PySem.boot_len (pa_cons (pe_ix ix_list (pv 0) (pe_int) (fun _ _ => rfl)) pa_nil)) (nomark _)) (pss_one (ps_ret (pe_cal C_mix (hr.mono (by decide)) (pa_cons (pe_ix ix_list (pv 0) (pe_int) (fun _ _ => rfl)) (pa_cons (pe_ix ix_list (pv 0) (pe_int) (fun _ _ => rfl)) (pa_cons (pv 1) pa_nil)))))) pss_nil)
      (pss_cons (ps_set (i := 4) sc_draw.nd rfl (Or.inl rfl) (pe_ix ix_list (pe_ix ix_list (pv 0) (pe_int) (fun _ _ => rfl)) (pe_ix ix_list (pv 0) (pe_int) (fun _ _ => rfl)) (fun _ _ => rfl)))
      (pss_cons (ps_asg (pe_op op_add (pe_ix ix_list (pv 0) (pe_int) (fun _ _ => rfl)) (pe_int)) (pg_sub (pv 0) (pe_int) set_list))
      (pss_cons (ps_asg (pe_op op_modN (pe_callTy call_int1 (by rfl) B.int (by decide +kernel) (pa_cons (pe_op op_add (pe_op op_add (pe_op op_mul (pe_ix ix_list (pv 0) (pe_int) (fun _ _ => rfl)) (pe_int)) (pe_op op_mul (pv 4) (pe_int))) (pe_int)) pa_nil)) (pe_int)) (pg_sub (pv 0) (pe_int) set_list))
      (pss_cons (ps_if (pt_cmpR op_lt (pv 4) (pe_op op_pow (pe_int) (pe_int)) (nomark _)) (pss_one (ps_ret (pe_cal C_mix (hr.mono (by decide)) (pa_cons (pe_ix ix_list (pv 0) (pe_int) (fun _ _ => rfl)) (pa_cons (pe_ix ix_list (pv 0) (pe_int) (fun _ _ => rfl)) (pa_cons (pv 1) pa_nil)))))) pss_nil)
      (pss_one (ps_asg (pe_op op_sub (pv 4) (pe_op op_pow (pe_int) (pe_int))) (pg_sub (pv 0) (pe_int) set_list))))))))))
      (pss_one (ps_ret (pe_cal C_mix (hr.mono (by decide)) (pa_cons (pe_ix ix_list (pv 0) (pe_int) (fun _ _ => rfl)) (pa_cons (pe_ix ix_list (pv 0) (pe_int) (fun _ _ => rfl)) (pa_cons (pv 1) pa_nil))))))))), ?_⟩
    walk_at "go"
    rw [decide_eq_false (by omega)]
    refine iteF ?_
    walk_at "go"
    refine ⟨_, _, _, _, rfl, rfl, SqL.of hp, rfl, ?_⟩
    refine ⟨_, _, rfl, .inl (SqL.of hq), ?_⟩
    walk_at "go"
    walk_at "if"
    · intro _
      walk_at "go"
      exact k 0 H (by omega) (by omega) ⟨ns, i, b, c, d, hp, hq, hi, hqp⟩ (Keeps.refl _ _)
    intro hlen
    refine ⟨_, rfl, _, _, _, _, rfl, rfl, SqL.of hp, rfl, ?_⟩
    walk_at "go"
    refine ⟨_, _, _, _, rfl, rfl, hp, rfl, ?_⟩
    refine ⟨64, rfl, by decide, by decide, for_range (n := 64) (fun _ σ H' => ∃ v2 v3 v4 : Option V, σ = [some (.ref (p : Addr)), some (.int m), v2, v3, v4] ∧ ∃ i b c d : Int, H' p = some (.lst [.ref p.q, .int i, .int b, .int c, .int d]) ∧ H' p.q = some (.lst (ns.map V.int)) ∧ 0 ≤ i ∧ Keeps H H' p)
      ⟨none, none, none, rfl, i, b, c, d + 1, upd_same, by rw [upd_ne hqp]; exact hq, hi, Keeps.upd⟩ ?_ ?_⟩
    · rintro j σ H1 hj ⟨v2, v3, v4, rfl, i, b, c, d, hp, hq, hi, hk⟩
      refine ⟨_, rfl, _, _, _, _, rfl, rfl, SqL.of hp, rfl, ?_⟩
      walk_at "go"
      walk_at "if"
      · intro hb
        refine ⟨_, rfl, _, _, _, _, rfl, rfl, SqL.of hp, rfl, ?_⟩
        walk_at "go"
        refine ⟨_, _, _, _, rfl, rfl, SqL.of hp, rfl, ?_⟩
        walk_at "go"
        refine ⟨divA (b := 30) (by omega) (by omega) (by decide) (by decide), ?_⟩
        walk_at "go"
        refine ⟨_, _, _, _, rfl, rfl, hp, rfl, ?_⟩
        walk_at "go"
        have b2 := fm b (show (0 : Int) < m by omega)
        exact k _ _ b2.1 b2.2 ⟨ns, i, _, c, d, upd_same, by rw [upd_ne hqp]; exact hq, hi, hqp⟩ (hk.trans Keeps.upd)
      · intro hb
        refine ⟨_, rfl, _, _, _, _, rfl, rfl, SqL.of hp, rfl, ?_⟩
        walk_at "go"
        refine ⟨_, _, _, _, rfl, rfl, SqL.of hp, rfl, ?_⟩
        refine ⟨_, _, rfl, .inl (SqL.of hq), ?_⟩
        walk_at "go"
        walk_at "if"
        · intro hl
          refine ⟨_, rfl, _, _, _, _, rfl, rfl, SqL.of hp, rfl, ?_⟩
          refine ⟨_, rfl, _, _, _, _, rfl, rfl, SqL.of hp, rfl, ?_⟩
          walk_at "go"
          refine ⟨_, _, _, rfl, h2, h3, fun r r0 r1 => ?_⟩
          exact k _ _ r0 r1 ⟨ns, i, b, c, d, hp, hq, hi, hqp⟩ hk
        · intro hl
          have hl2 : i < (ns.length : Int) := by
            have hl' : ¬ ((ns.map V.int).length : Int) ≤ i := hl
            rw [List.length_map] at hl'
            omega
          obtain ⟨n, rfl⟩ : ∃ n : Nat, i = (n : Int) := ⟨i.toNat, by omega⟩
          have hn : n < ns.length := by omega
          refine ⟨_, rfl, _, _, _, _, rfl, rfl, SqL.of hp, rfl, ?_⟩
          refine ⟨_, rfl, _, _, _, _, rfl, rfl, SqL.of hp, rfl, ?_⟩
          refine ⟨_, _, _, _, rfl, rfl, SqL.of hq, atI_nat (ints_at hn), ?_⟩
          refine ⟨_, rfl, _, _, _, _, rfl, rfl, SqL.of hp, rfl, ?_⟩
          walk_at "go"
          refine ⟨_, _, _, _, rfl, rfl, hp, rfl, ?_⟩
          refine ⟨_, rfl, _, _, _, _, rfl, rfl, SqL.of upd_same, rfl, ?_⟩
          walk_at "go"
          refine ⟨_, _, _, _, rfl, rfl, upd_same, rfl, ?_⟩
          walk_at "go"
          walk_at "if"
          · intro hcell
            refine ⟨_, rfl, _, _, _, _, rfl, rfl, SqL.of upd_same, rfl, ?_⟩
            refine ⟨_, rfl, _, _, _, _, rfl, rfl, SqL.of upd_same, rfl, ?_⟩
            walk_at "go"
            refine ⟨_, _, _, rfl, h2, h3, fun r r0 r1 => ?_⟩
            exact k _ _ r0 r1 ⟨ns, _, b, _, d, upd_same, by rw [upd_ne hqp, upd_ne hqp]; exact hq, by omega, hqp⟩ ((hk.trans Keeps.upd).trans Keeps.upd)
          · intro hcell
            walk_at "go"
            refine ⟨_, _, _, _, rfl, rfl, upd_same, rfl, ?_⟩
            exact ⟨_, _, _, rfl, _, _, _, d, upd_same, by rw [upd_ne hqp, upd_ne hqp, upd_ne hqp]; exact hq, by omega, ((hk.trans Keeps.upd).trans Keeps.upd).trans Keeps.upd⟩
    · rintro σ H1 ⟨v2, v3, v4, rfl, i, b, c, d, hp, hq, hi, hk⟩
      refine ⟨_, rfl, _, _, _, _, rfl, rfl, SqL.of hp, rfl, ?_⟩
      refine ⟨_, rfl, _, _, _, _, rfl, rfl, SqL.of hp, rfl, ?_⟩
      walk_at "go"
      refine ⟨_, _, _, rfl, h2, h3, fun r r0 r1 => ?_⟩
      exact k _ _ r0 r1 ⟨ns, i, b, c, d, hp, hq, hi, hqp⟩ hk

theorem wide_ix {s : Int} (h0 : 3 ≤ s) (h1 : s < 6) : ∃ M : Int, atI [V.int 1, V.int 2, V.int 5] (s - 3) = some (V.int M) ∧ (M = 1 ∨ M = 2 ∨ M = 5) := by
  have : s = 3 ∨ s = 4 ∨ s = 5 := by omega
  rcases this with rfl | rfl | rfl
  · exact ⟨1, rfl, by omega⟩
  · exact ⟨2, rfl, by omega⟩
  · exact ⟨5, rfl, by omega⟩
def spWide : Sp := fun vs H Q _ => ∃ (p : Pla), vs = [.ref p] ∧ Pool H p ∧ ∀ (r : Int) (H' : Hp), 0 ≤ r → r < 10 ^ 30 → Pool H' p → Keeps H H' p → Q (.int r) H'
abbrev CalWide (P : Program) (w : World) (K : PySem.W.Frag) (mg : Str → Option Value) (base : Heap) := Cal P w K mg base 3 "_law_wide" ["_law_pool_here"] spWide
theorem ok_wide (B : Blt mg) (D : Dfn K mg "_law_wide" "_law_wide" s_wide ["_law_pool_here"]) (C_draw : CalDraw P w K mg base) : CalWide P w K mg base := by
  refine D.cal sc_wide (fun vs H Q E h => ?_) (fun f cdv A outer st H vs Q E hr h => ?_)
  · obtain ⟨p, rfl, _⟩ := h
    rfl
  · obtain ⟨p, rfl, hP, k⟩ := h
    refine ⟨_, (pss_cons (ps_set (i := 1) sc_wide.nd rfl (Or.inl rfl) (pe_cal C_draw (hr.mono (by decide)) (pa_cons (pv 0) (pa_cons (pe_int) pa_nil))))
      (pss_cons (ps_if (pt_cmpR op_eq (pv 1) (pe_int) (nomark _)) (pss_one (ps_ret (pe_cal C_draw (hr.mono (by decide)) (pa_cons (pv 0) (pa_cons (pe_int) pa_nil))))) pss_nil)
      (pss_cons (ps_if (pt_cmpR op_lt (pv 1) (pe_int) (nomark _)) (pss_one (ps_ret (pe_cal C_draw (hr.mono (by decide)) (pa_cons (pv 0) (pa_cons (pe_int) pa_nil))))) pss_nil)
      (pss_cons (ps_set (i := 2) sc_wide.nd rfl (Or.inl rfl) (pe_ix ix_tup (pe_tup (pa_cons (pe_int) (pa_cons (pe_int) (pa_cons (pe_int) pa_nil)))) (pe_op op_sub (pv 1) (pe_int)) (fun _ _ => rfl)))
      (pss_cons (ps_set (i := 3) sc_wide.nd rfl (Or.inl rfl) (pe_int))
      (pss_cons (ps_for PassesOwn.never rfl (pi_range1 (by rfl) B.range (pa_cons (pv 2) pa_nil)) (pg_name (i := 4) sc_wide.nd rfl (Or.inl rfl)) (pss_one (ps_set (i := 3) sc_wide.nd rfl (Or.inl rfl) (pe_op op_add (pe_op op_mul (pv 3) (pe_op op_pow (pe_int) (pe_int))) (pe_cal C_draw (hr.mono (by decide)) (pa_cons (pv 0) (pa_cons (pe_op op_pow (pe_int) (pe_int)) pa_nil)))))))
      (pss_one (ps_ret (pv 3))))))))), ?_⟩
    refine ⟨_, rfl, p, 6, rfl, hP, by decide, by decide, fun s H1 s0 s1 hP1 hk1 => ?_⟩
    walk_at "go"
    walk_at "if"
    · intro _
      refine ⟨_, rfl, p, 4, rfl, hP1, by decide, by decide, fun r H2 r0 r1 hP2 hk2 => ?_⟩
      exact k r H2 r0 (by omega) hP2 (hk1.trans hk2)
    intro n0
    walk_at "go"
    walk_at "if"
    · intro _
      refine ⟨_, rfl, p, 30, rfl, hP1, by decide, by decide, fun r H2 r0 r1 hP2 hk2 => ?_⟩
      exact k r H2 r0 (by omega) hP2 (hk1.trans hk2)
    intro n3
    obtain ⟨M, eM, hM⟩ := wide_ix (s := s) (by omega) s1
    refine ⟨(by show 3 ≤ sizeLine; decide), fun t ht => ?_⟩
    walk_at "go"
    refine ⟨_, _, _, _, rfl, rfl, SqT.of upd_same, eM, ?_⟩
    refine ⟨_, rfl, _, rfl, (by omega), (by omega), for_range (n := M.toNat) (fun i σ H' => ∃ (f : Int) (v4 : Option V), σ = [some (.ref (p : Addr)), some (.int s), some (.int M), some (.int f), v4] ∧ 0 ≤ f ∧ f < 1000000 ^ i ∧ Pool H' p ∧ Keeps H H' p)
      ⟨0, none, rfl, by omega, by decide, hP1.upd ht, hk1.trans (same_keeps (same_upd ht))⟩ ?_ ?_⟩
    · rintro i σ H2 hi ⟨f, v4, rfl, f0, f1, hP2, hk2⟩
      walk_at "go"
      refine ⟨_, _, rfl, hP2, by decide, by decide, fun r H3 r0 r1 hP3 hk3 => ?_⟩
      walk_at "go"
      have r1' : r < 1000000 := r1
      refine ⟨f * 1000000 + r, _, rfl, by omega, ?_, hP3, hk2.trans hk3⟩
      rw [Int.pow_succ]
      omega
    · rintro σ H2 ⟨f, v4, rfl, f0, f1, hP2, hk2⟩
      refine ⟨_, rfl, k f H2 f0 ?_ hP2 hk2⟩
      rcases hM with rfl | rfl | rfl
      · exact Int.lt_of_lt_of_le f1 (by decide)
      · exact Int.lt_of_lt_of_le f1 (by decide)
      · exact Int.lt_of_lt_of_le f1 (by decide)

def spGcd : Sp := fun vs H Q _ => ∃ (a b : Int), vs = [.int a, .int b] ∧ b.natAbs < 10 ^ 124 ∧ Q (.int ((max 1 (Nat.gcd a.natAbs b.natAbs) : Nat) : Int)) H
abbrev CalGcd (P : Program) (w : World) (K : PySem.W.Frag) (mg : Str → Option Value) (base : Heap) := Cal P w K mg base 1 "_law_gcd" ["_law_one", "_law_other"] spGcd
theorem abs_if (a : Int) : (if a < 0 then -a else a) = (a.natAbs : Int) := by split <;> omega
theorem ok_gcd (B : Blt mg) (D : Dfn K mg "_law_gcd" "_law_gcd" s_gcd ["_law_one", "_law_other"]) : CalGcd P w K mg base := by
  refine D.cal sc_gcd (fun vs H Q E h => ?_) (fun f cdv A outer st H vs Q E hr h => ?_)
  · obtain ⟨a, b, rfl, _⟩ := h
    rfl
  · obtain ⟨a, b, rfl, hb, q⟩ := h
    refine ⟨_, (pss_cons (ps_set (i := 0) sc_gcd.nd rfl (Or.inl rfl) (pe_callB call_abs (by rfl) B.abs (by decide +kernel) (pa_cons (pv 0) pa_nil)))
      (pss_cons (ps_set (i := 1) sc_gcd.nd rfl (Or.inl rfl) (pe_callB call_abs (by rfl) B.abs (by decide +kernel) (pa_cons (pv 1) pa_nil)))
      (pss_cons (ps_for PassesOwn.never rfl (pi_range1 (by rfl) B.range (pa_cons (pe_int) pa_nil)) (pg_name (i := 2) sc_gcd.nd rfl (Or.inl rfl)) (pss_cons (ps_if (pt_cmpR op_eq (pv 1) (pe_int) (nomark _)) (pss_one (ps_ret (pe_callB (call_max2 rfl) (by rfl) B.max (by decide +kernel) (pa_cons (pe_int) (pa_cons (pv 0) pa_nil))))) pss_nil)
      (pss_one (ps_par (i := 0) (j := 1) (by rfl) sc_gcd.nd rfl rfl (by decide) rfl rfl (pa_cons (pv 1) (pa_cons (pe_op op_modN (pe_callTy call_int1 (by rfl) B.int (by decide +kernel) (pa_cons (pv 0) pa_nil)) (pv 1)) pa_nil)) (by rfl)))))
      (pss_one (ps_ret (pe_int)))))), ?_⟩
    walk_at "go"
    refine ⟨by decide, by decide, for_range (n := 600) (fun i σ H' => ∃ (n x y : Nat) (v : Option V), σ = [some (.int x), some (.int y), v] ∧ n + i = 599 ∧ Eu n x y ∧ Nat.gcd x y = Nat.gcd a.natAbs b.natAbs ∧ H' = H)
      ⟨599, a.natAbs, b.natAbs, none, ?_, rfl, eu_all hb, rfl, rfl⟩ ?_ ?_⟩
    · rw [← abs_if, ← abs_if]
      rfl
    · rintro i σ H1 hi ⟨n, x, y, v, rfl, hn, hE, hg, rfl⟩
      walk_at "go"
      walk_at "if"
      · intro hy
        have hy' : y = 0 := by omega
        subst hy'
        walk_at "go"
        rw [Nat.gcd_zero_right] at hg
        rw [← hg] at q
        have e : (if (x : Int) > 1 then (x : Int) else 1) = ((max 1 x : Nat) : Int) := by
          rw [Nat.max_def]
          split <;> split <;> omega
        rw [← e] at q
        exact ⟨_, _, rfl, q⟩
      · intro hy
        have hy' : 0 < y := by omega
        cases n with
        | zero => exact absurd (show y = 0 from hE) (by omega)
        | succ n =>
          rcases hE with h | hE
          · omega
          walk_at "go"
          refine ⟨_, _, rfl, n, y, x % y, some (V.int (0 + (i : Int))), ?_, by omega, hE, ?_, rfl⟩
          · have e : (x : Int).fmod (y : Int) = ((x % y : Nat) : Int) := by
              rw [Int.fmod_eq_emod_of_nonneg _ (by omega)]
              rfl
            rw [← e]
            rfl
          · rw [← hg, Nat.gcd_comm x y, Nat.gcd_rec y x, Nat.gcd_comm]
    · rintro σ H1 ⟨n, x, y, v, rfl, hn, _⟩
      omega

def spPool (K : PySem.W.Frag) : Sp := fun vs H Q _ => ∃ (a : Addr) (ns : List Int), vs = [.ref a] ∧ SqL K H a (ns.map V.int) ∧ ns.length ≤ 63 ∧ ∀ (p : Pla) (H' : Hp), Same H H' → H p = none → H p.q = none → Pool H' p → Q (.ref p) H'
abbrev CalPool (P : Program) (w : World) (K : PySem.W.Frag) (mg : Str → Option Value) (base : Heap) := Cal P w K mg base 1 "_law_pool" ["_law_script"] (spPool K)
theorem ok_pool (B : Blt mg) (D : Dfn K mg "_law_pool" "_law_pool" s_pool ["_law_script"]) : CalPool P w K mg base := by
  refine D.cal sc_pool (fun vs H Q E h => ?_) (fun f cdv A outer st H vs Q E hr h => ?_)
  · obtain ⟨a, ns, rfl, _⟩ := h
    rfl
  · obtain ⟨a, ns, rfl, hS, hl, k⟩ := h
    refine ⟨_, (pss_one (ps_ret (pe_lst (pa_cons (pe_lc (own := [("_law_cell", 1)]) (g := gName 1) rfl sc_pool.nd (pi_list (pv 0)) (blkOk_by (N := ["_law_script", "_law_cell"]) (sc := defScope s_pool) (by decide +kernel)) (fun _ _ _ _ _ => pg_name (i := 1) sc_pool.nd rfl (Or.inl rfl)) (fun _ _ _ _ _ => pts_nil) (fun _ _ _ _ _ => (pe_callTy call_int1 (by rfl) B.int (by decide +kernel) (pa_cons (pv 1) pa_nil)))) (pa_cons (pe_int) (pa_cons (pe_int) (pa_cons (pe_int) (pa_cons (pe_int) pa_nil)))))))), ?_⟩
    refine ⟨_, rfl, a, rfl, ⟨_, hS⟩, fun D hD => lc_list (K := K) (a := a) (xs := ns.map V.int) (fun i H' => H' = upd H D (.lst ((ns.take i).map V.int))) rfl (fun i H' _ e => by rw [e]; exact (same_upd hD).seq hS) ?_ ?_⟩
    · rintro i x H' hx rfl
      obtain ⟨z, hz, rfl⟩ := int_of_map hx
      refine ⟨rfl, ?_⟩
      refine ⟨_, rfl, .inl ⟨_, rfl, _, upd_same, ?_, ?_⟩⟩
      · rw [List.length_map, List.length_take]
        exact small1000 (by omega)
      · rw [upd_upd, List.take_add_one, hz, List.map_append]
        rfl
    · rintro H' rfl
      refine ⟨(by show 5 ≤ sizeLine; decide), fun p hp => ?_⟩
      have hne : D ≠ p := ne_of_none upd_same hp
      have hp0 : H p = none := by rw [upd_ne hne.symm] at hp; exact hp
      refine k ⟨p, D⟩ _ ((same_upd hD).trans (same_upd hp)) hp0 hD ⟨ns, 0, 0, 1, 0, upd_same, ?_, by decide, hne⟩
      show upd _ p _ D = _
      rw [upd_ne hne, upd_same, List.length_map, List.take_length]

theorem kit_own {K : PySem.W.Frag} {t : Value} {C : Addr} {b : Bool} (hd : PySem.W.hasDictIn K C = true) (ht : PySem.W.typeIn K (.ref C) = some (.type "type")) (hs : PySem.W.subIn K t (.ref C) = some b) (hself : PySem.W.subIn K t t = some true) : PySem.W.kitOne K t (.ref C) = some b := by
  unfold PySem.W.kitOne
  by_cases h : (t == Value.ref C) = true
  · rw [if_pos h]
    have e := beq_iff_eq.mp h
    subst e
    rw [hs] at hself
    exact hself.symm
  · rw [if_neg h]
    obtain ⟨cd, hc, _⟩ := PySem.W.any_some hd
    have e2 : ((PySem.W.clsIn K C).isSome && PySem.W.typeIn K (.ref C) == some (.type "type")) = true := by rw [hc, ht] <;> rfl
    show (if ((PySem.W.clsIn K C).isSome && PySem.W.typeIn K (.ref C) == some (.type "type")) = true then PySem.W.subIn K t (.ref C) else none) = some b
    rw [if_pos e2]
    exact hs
theorem kit_int {K : PySem.W.Frag} {C : Addr} {b : Bool} (hd : PySem.W.hasDictIn K C = true) (ht : PySem.W.typeIn K (.ref C) = some (.type "type")) (hs : PySem.W.subIn K (.type "int") (.ref C) = some b) : PySem.W.kitOne K (.type "int") (.ref C) = some b := by
  unfold PySem.W.kitOne
  rw [if_neg (by intro h; cases beq_iff_eq.mp h)]
  obtain ⟨cd, hc, _⟩ := PySem.W.any_some hd
  have e2 : ((PySem.W.clsIn K C).isSome && PySem.W.typeIn K (.ref C) == some (.type "type")) = true := by rw [hc, ht] <;> rfl
  show (if ((PySem.W.clsIn K C).isSome && PySem.W.typeIn K (.ref C) == some (.type "type")) = true then PySem.W.subIn K (.type "int") (.ref C) else none) = some b
  rw [if_pos e2]
  exact hs
def spWhole : Sp := fun vs H Q _ => ∃ (i : Int), vs = [.int i] ∧ Q (.bl true) H
abbrev CalWhole (P : Program) (w : World) (K : PySem.W.Frag) (mg : Str → Option Value) (base : Heap) := Cal P w K mg base 1 "_law_whole" ["_law_actual"] spWhole
theorem ok_whole (B : Blt mg) (D : Dfn K mg "_law_whole" "_law_whole" s_whole ["_law_actual"]) : CalWhole P w K mg base := by
  refine D.cal sc_whole (fun vs H Q E h => ?_) (fun f cdv A outer st H vs Q E hr h => ?_)
  · obtain ⟨i, rfl, _⟩ := h
    rfl
  · obtain ⟨i, rfl, q⟩ := h
    refine ⟨_, (pss_one (ps_ret ((pe_and (pe_callB call_isi (by rfl) B.isinstance (by decide +kernel) (pa_cons (pv 0) (pa_cons (pe_bltn (v := .ty "int") (by rfl) B.int (by decide +kernel) rfl) pa_nil))) (pe_one (pe_not (pe_callB call_isi (by rfl) B.isinstance (by decide +kernel) (pa_cons (pv 0) (pa_cons (pe_bltn (v := .ty "bool") (by rfl) B.bool (by decide +kernel) rfl) pa_nil))))))))), ?_⟩
    refine ⟨_, rfl, _, _, _, _, true, rfl, .ty _, .base (.int _), kit_ty (by decide +kernel), _, rfl, iteT ?_⟩
    refine ⟨_, rfl, _, _, _, _, false, rfl, .ty _, .base (.int _), kit_ty (by decide +kernel), _, rfl, ?_⟩
    exact q

theorem ok_bn {C f : Addr} {fd : FuncData} (T : BnC K mg C) (F : Fun K "__init__" "BadNumber.__init__" s_BadNumber_init f fd) : FnOk P w K mg base CX0 1 f fd ["self", "name", "value"] (spBN C) := by
  refine F.ok sc_BadNumber_init (fun vs H Q E h => ?_) (fun cdv A outer st H vs Q E hr h => ?_)
  · obtain ⟨a, n, v, rfl, _⟩ := h
    rfl
  · obtain ⟨a, n, v, rfl, ha, k⟩ := h
    refine ⟨_, pss_cons (ps_ost (pv 0) (pv 1)) (pss_one (ps_ost (pv 0) (pv 2))), ?_⟩
    refine ⟨_, rfl, _, rfl, a, C, rfl, T.o, T.nN, .inl ⟨ha, fun dx hdx hne => ?_⟩⟩
    refine ⟨_, rfl, _, rfl, a, C, rfl, T.o, T.nV, .inr ⟨dx, [("name", n)], upd_same, ?_, (by show 1 ≤ 900; decide), k dx hdx hne⟩⟩
    rw [upd_ne hne, upd_same]
end
end L

set_option Elab.async false
set_option linter.all false
set_option maxRecDepth 100000
set_option maxHeartbeats 4000000
set_option pp.maxSteps 160
set_option pp.deepTerms false
namespace L
open PySem PySem.Spec PyProof.Rows L2 Fl
local macro_rules | `(tactic| walk_at "side") => `(tactic| first | (exact .inl ⟨by omega, by omega⟩) | (exact .inr ⟨by omega, by omega⟩) | (exact .inr ⟨by decide, by decide⟩) | (show (_ : Int) ≠ _; omega) | (exact ⟨by omega, by decide⟩) | (exact ⟨by decide, by decide, by decide⟩))
local macro_rules | `(tactic| walk_at "go") => `(tactic| repeat (first | refine ⟨_, rfl, ?_⟩ | refine ⟨_, _, rfl, rfl, ?_⟩ | refine .inl ⟨_, rfl, ?_⟩ | refine ⟨rfl, ?_⟩ | refine ⟨(by walk_at "side"), ?_⟩))
local macro_rules | `(tactic| walk_at "see") => `(tactic| (set_option pp.maxSteps 110 in set_option pp.deepTerms false in trace_state))
local macro_rules | `(tactic| walk_at "if") => `(tactic| first | refine ifE ?_ ?_ | refine ifNE ?_ ?_ | refine ifD ?_ ?_ | refine ifN ?_ ?_ | refine ifB ?_ ?_)
open Bx
section
variable {P : Program} {w : World} {K : PySem.W.Frag} {mg : Str → Option Value} {base : Heap}

def spInit (C ZU : Addr) : Sp := fun vs H Q E => ∃ (x dx : Addr) (t u : Int), vs = [.ref x, .int t, .int u] ∧ H x = some (.ins C dx []) ∧ u.natAbs < 2 ^ 8999 ∧
  (u ≠ 0 → ∀ H' : Hp, H' x = some (.ins C dx (rf (nT t u) (nU t u))) → Keeps H H' x → Q .non H') ∧ (u = 0 → E (.ref ZU) none H)
abbrev CalRatio (P : Program) (w : World) (K : PySem.W.Frag) (mg : Str → Option Value) (base : Heap) (C ZU : Addr) (dvs : List V) := CalC P w K mg base (L2.CX P w) 1 C "Ratio" ["self", "top", "under"] dvs (spInit C ZU)
theorem ok_init {C ZU f : Addr} {fd : FuncData} (B : Blt mg) (hgcd : mg "gcd" = some (.builtin "math.gcd")) (T : RatC K mg C) (TZ : ExC K mg "ZeroUnder" ZU)
    (F : FunD K "__init__" "Ratio.__init__" (defArgs s_Ratio_init) (defBody s_Ratio_init) (defScope s_Ratio_init) [.int 1] [] f fd) : FnOk P w K mg base (L2.CX P w) 1 f fd ["self", "top", "under"] (spInit C ZU) := by
  refine F.ok sc_Ratio_init (fun vs H Q E h => ?_) (fun cdv A outer st H vs Q E hr h => ?_)
  · obtain ⟨x, dx, t, u, rfl, _⟩ := h
    rfl
  · obtain ⟨x, dx, t, u, rfl, hx, hu, k, k0⟩ := h
    refine ⟨_, (pss_cons (ps_if (pt_cmpR op_eq (pv 2) (pe_int) (nomark _)) (pss_one (ps_raise rfl (takes_of rfl rfl rfl rfl) (pmk_own PySem.F.excBase_ValueError TZ.x TZ.g TZ.k (raises_own TZ.b TZ.t) rfl))) pss_nil)
      (pss_cons (ps_set (i := 3) sc_Ratio_init.nd rfl (Or.inl rfl) (pe_callBfun cr_gcd (by rfl) hgcd (pa_cons (pv 1) (pa_cons (pv 2) pa_nil))))
      (pss_cons (ps_if (pt_cmpR op_lt (pv 2) (pe_int) (nomark _)) (pss_one (ps_set (i := 3) sc_Ratio_init.nd rfl (Or.inl rfl) (pe_un un_neg (pv 3)))) pss_nil)
      (pss_cons (ps_fld (pv 0) (pe_op op_fdivA (pv 1) (pv 3)) rfl)
      (pss_one (ps_fld (pv 0) (pe_op op_fdivA (pv 2) (pv 3)) rfl)))))), ?_⟩
    walk_at "go"
    walk_at "if"
    · intro h0
      exact k0 h0
    intro h0
    refine ⟨_, rfl, _, rfl, _, _, rfl, ?_⟩
    walk_at "go"
    have hsn : sh t u ≠ 0 := sh_ne h0
    have hsb : (sh t u).natAbs < 2 ^ 8999 := by
      rw [sh_abs]
      exact Nat.lt_of_le_of_lt (Nat.le_of_dvd (by omega) (Nat.gcd_dvd_right _ _)) hu
    walk_at "if"
    · intro hn
      have es : sh t u = -((Nat.gcd t.natAbs u.natAbs : Nat) : Int) := if_pos hn
      have hd : CDivA t (-((Nat.gcd t.natAbs u.natAbs : Nat) : Int)) := es ▸ divA (b := 8999) hsn hsb (by decide) (by decide)
      walk_at "go"
      refine ⟨hd, ?_⟩
      refine ⟨_, rfl, x, C, dx, [], rfl, hx, T.cl, T.nT, (by show 0 < 1000; decide), ?_⟩
      refine ⟨_, rfl, _, rfl, _, _, rfl, rfl, hd, ?_⟩
      refine ⟨_, rfl, x, C, dx, _, rfl, upd_same, T.cl, T.nU, (by show 1 < 1000; decide), ?_⟩
      refine k h0 _ ?_ (Keeps.upd.trans Keeps.upd)
      rw [upd_same]
      unfold rf nT nU
      rw [es]
    · intro hn
      have es : sh t u = ((Nat.gcd t.natAbs u.natAbs : Nat) : Int) := if_neg hn
      have hd : CDivA t ((Nat.gcd t.natAbs u.natAbs : Nat) : Int) := es ▸ divA (b := 8999) hsn hsb (by decide) (by decide)
      walk_at "go"
      refine ⟨hd, ?_⟩
      refine ⟨_, rfl, x, C, dx, [], rfl, hx, T.cl, T.nT, (by show 0 < 1000; decide), ?_⟩
      refine ⟨_, rfl, _, rfl, _, _, rfl, rfl, hd, ?_⟩
      refine ⟨_, rfl, x, C, dx, _, rfl, upd_same, T.cl, T.nU, (by show 1 < 1000; decide), ?_⟩
      refine k h0 _ ?_ (Keeps.upd.trans Keeps.upd)
      rw [upd_same]
      unfold rf nT nU
      rw [es]
theorem mk_ratio {C ZU f : Addr} {fd : FuncData} (B : Blt mg) (hgcd : mg "gcd" = some (.builtin "math.gcd")) (T : RatC K mg C) (TZ : ExC K mg "ZeroUnder" ZU) (M : Mk K C f)
    (F : FunD K "__init__" "Ratio.__init__" (defArgs s_Ratio_init) (defBody s_Ratio_init) (defScope s_Ratio_init) [.int 1] [] f fd) : CalRatio P w K mg base C ZU [] ∧ CalRatio P w K mg base C ZU [.int 1] := by
  obtain ⟨d2, r2, b2⟩ := F.binds1 (ps := ["self", "top", "under"]) 3 1 (by intro e; cases e) rfl (fun T kV doc pm an cdv ct us its h1 h2 => match us, its, h1, h2 with | [_, _, _], [_], _, _ => ⟨_, rfl, rfl⟩)
  obtain ⟨d1, r1, b1⟩ := F.binds1 (ps := ["self", "top", "under"]) 2 0 (by intro e; cases e) rfl (fun T kV doc pm an cdv ct us its h1 h2 => match us, its, h1, h2 with | [_, _], [_], _, _ => ⟨_, rfl, rfl⟩)
  exact ⟨⟨f, fd, d2, M, ok_init B hgcd T TZ F, T.g, b2, r2⟩, ⟨f, fd, d1, M, ok_init B hgcd T TZ F, T.g, b1, r1⟩⟩

def spAsRatio (C : Addr) : Sp := fun vs H Q _ => (∃ (x : Addr) (t u : Int), vs = [.ref x] ∧ RatAt C H x t u ∧ Q (.ref x) H) ∨ (∃ i : Int, vs = [.int i] ∧ ∀ (x : Addr) (H' : Hp), H x = none → Same H H' → RatAt C H' x i 1 → Q (.ref x) H')
abbrev CalAsRatio (P : Program) (w : World) (K : PySem.W.Frag) (mg : Str → Option Value) (base : Heap) (C : Addr) := Cal P w K mg base 3 "as_ratio" ["number"] (spAsRatio C)
theorem made {C x dx : Addr} {fs : List (Str × V)} {H H' : Hp} (nx : H x = none) (ndx : H dx = none) (hk : Keeps (upd (upd H dx (.own x)) x (.ins C dx fs)) H' x) : Same H H' := fun b o e =>
  hk b o (by rw [upd_ne (ne_of_none e nx), upd_ne (ne_of_none e ndx)]; exact e) (ne_of_none e nx)
theorem ok_as_ratio {C ZU : Addr} (B : Blt mg) (T : RatC K mg C) (D : Dfn K mg "as_ratio" "as_ratio" s_as_ratio ["number"]) (M1 : CalRatio P w K mg base C ZU [.int 1]) : CalAsRatio P w K mg base C := by
  refine D.cal sc_as_ratio (fun vs H Q E h => ?_) (fun f cdv A outer st H vs Q E hr h => ?_)
  · rcases h with ⟨x, t, u, rfl, _⟩ | ⟨i, rfl, _⟩ <;> rfl
  · have hr0 : Room 2 _ := hr
    refine ⟨_, (pss_cons (ps_if (pt_val (pe_callB call_isi (by rfl) B.isinstance (by decide +kernel) (pa_cons (pv 0) (pa_cons (pe_glob (v := .ref _) (by rfl) T.g rfl) pa_nil)))) (pss_one (ps_ret (pv 0))) pss_nil)
      (pss_one (ps_ret (pe_mk M1 (hr0.mono (by decide)) (pa_cons (pv 0) pa_nil))))), ?_⟩
    rcases h with ⟨x, t, u, rfl, ⟨dx, hx⟩, q⟩ | ⟨i, rfl, k⟩
    · refine ⟨_, rfl, _, _, _, _, true, rfl, .own _, T.tyX hx, kit_self _, _, rfl, iteT ?_⟩
      exact ⟨_, rfl, q⟩
    · refine ⟨_, rfl, _, _, _, _, false, rfl, .own _, .base (.int _), T.ki, _, rfl, iteF ?_⟩
      refine ⟨_, rfl, fun x dx nx ndx ne => ?_⟩
      refine ⟨x, dx, i, 1, rfl, upd_same, by decide, fun _ H' hx hk => ⟨rfl, ?_⟩, fun h => absurd h (by decide)⟩
      refine k x H' nx (made nx ndx hk) ⟨dx, ?_⟩
      rw [(n_one i).1, (n_one i).2] at hx
      exact hx
def spRatio (C : Addr) : Sp := fun vs H Q _ => ∃ (x : Addr) (t u : Int), vs = [.ref x] ∧ RatAt C H x t u ∧ Q (.bl (decide (u > 0))) H
abbrev CalRatioQ (P : Program) (w : World) (K : PySem.W.Frag) (mg : Str → Option Value) (base : Heap) (C : Addr) := Cal P w K mg base 2 "_law_ratio" ["_law_actual"] (spRatio C)
theorem ok_ratio {C : Addr} (B : Blt mg) (T : RatC K mg C) (D : Dfn K mg "_law_ratio" "_law_ratio" s_ratio ["_law_actual"]) (C_whole : CalWhole P w K mg base) : CalRatioQ P w K mg base C := by
  refine D.cal sc_ratio (fun vs H Q E h => ?_) (fun f cdv A outer st H vs Q E hr h => ?_)
  · obtain ⟨x, t, u, rfl, _⟩ := h
    rfl
  · obtain ⟨x, t, u, rfl, ⟨dx, hx⟩, q⟩ := h
    refine ⟨_, (pss_cons (ps_if (pt_not (pt_val (pe_callB call_isi (by rfl) B.isinstance (by decide +kernel) (pa_cons (pv 0) (pa_cons (pe_glob (v := .ref _) (by rfl) T.g rfl) pa_nil))))) (pss_one (ps_ret (pe_bl))) pss_nil)
      (pss_one (ps_ret ((pe_and (pe_cal C_whole (hr.mono (by decide)) (pa_cons (pe_fld (pv 0) rfl) pa_nil)) (pe_and (pe_cal C_whole (hr.mono (by decide)) (pa_cons (pe_fld (pv 0) rfl) pa_nil)) (pe_one (pe_cmpR op_gt (pe_fld (pv 0) rfl) (pe_int) (nomark _))))))))), ?_⟩
    refine ⟨_, rfl, _, _, _, _, true, rfl, .own _, T.tyX hx, kit_self _, _, rfl, iteF ?_⟩
    refine ⟨_, rfl, x, C, dx, _, _, rfl, hx, T.cl, T.nT, rf_top _ _, t, rfl, _, rfl, iteT ?_⟩
    refine ⟨_, rfl, x, C, dx, _, _, rfl, hx, T.cl, T.nU, rf_under _ _, u, rfl, _, rfl, iteT ?_⟩
    refine ⟨_, rfl, x, C, dx, _, _, rfl, hx, T.cl, T.nU, rf_under _ _, _, _, rfl, rfl, ?_⟩
    exact q
end

/-! ### numbers by their values -/
theorem n_eq {t u n m : Int} (hu : u ≠ 0) (hm : m ≠ 0) (e : t * m = n * u) : nT t u = nT n m ∧ nU t u = nU n m := by
  have c := n_cross t u
  refine n_uniq hm (nU_pos hu) (n_gcd hu) (Int.eq_of_mul_eq_mul_right hu ?_)
  grind
/-- x holds n / m -/
def RatQ (C : Addr) (H : Hp) (x : Addr) (n m : Int) : Prop := RatAt C H x (nT n m) (nU n m)
theorem RatQ.same {C : Addr} {H H' : Hp} {x : Addr} {n m : Int} (h : RatQ C H x n m) (k : Same H H') : RatQ C H' x n m := RatAt.same h k
theorem RatQ.re {C : Addr} {H : Hp} {x : Addr} {n m n' m' : Int} (h : RatQ C H x n m) (hm : m ≠ 0) (hm' : m' ≠ 0) (e : n * m' = n' * m) : RatQ C H x n' m' := by
  unfold RatQ at *
  rw [← (n_eq hm hm' e).1, ← (n_eq hm hm' e).2]
  exact h
theorem RatQ.of {C : Addr} {H : Hp} {x : Addr} {t u n m : Int} (h : RatAt C H x (nT t u) (nU t u)) (hu : u ≠ 0) (hm : m ≠ 0) (e : t * m = n * u) : RatQ C H x n m := RatQ.re (n := t) (m := u) h hu hm e
/-- v is a number of the value n / m -/
def NumQ (C : Addr) (H : Hp) (v : V) (n m : Int) : Prop := (∃ z : Int, v = .int z ∧ z * m = n) ∨ ∃ x, v = .ref x ∧ RatQ C H x n m
theorem NumQ.same {C : Addr} {H H' : Hp} {v : V} {n m : Int} (h : NumQ C H v n m) (k : Same H H') : NumQ C H' v n m := by
  rcases h with h | ⟨x, e, h⟩
  · exact .inl h
  · exact .inr ⟨x, e, h.same k⟩
theorem NumQ.re {C : Addr} {H : Hp} {v : V} {n m n' m' : Int} (h : NumQ C H v n m) (hm : m ≠ 0) (hm' : m' ≠ 0) (e : n * m' = n' * m) : NumQ C H v n' m' := by
  rcases h with ⟨z, ev, ez⟩ | ⟨x, ev, hx⟩
  · refine .inl ⟨z, ev, Int.eq_of_mul_eq_mul_right hm ?_⟩
    rw [← e, ← ez]
    grind
  · exact .inr ⟨x, ev, hx.re hm hm' e⟩
section
variable {P : Program} {w : World} {K : PySem.W.Frag} {mg : Str → Option Value} {base : Heap}

def Num (C : Addr) (H : Hp) (v : V) (t u : Int) : Prop := (v = .int t ∧ u = 1) ∨ ∃ x, v = .ref x ∧ RatAt C H x t u
theorem Num.same {C : Addr} {H H' : Hp} {v : V} {t u : Int} (h : Num C H v t u) (k : Same H H') : Num C H' v t u := by
  rcases h with h | ⟨x, e, h⟩
  · exact .inl h
  · exact .inr ⟨x, e, h.same k⟩
def spIsNum (C : Addr) : Sp := fun vs H Q _ => ∃ (v : V) (t u : Int), vs = [v] ∧ Num C H v t u ∧ Q (.bl true) H
abbrev CalIsNum (P : Program) (w : World) (K : PySem.W.Frag) (mg : Str → Option Value) (base : Heap) (C : Addr) := Cal P w K mg base 1 "is_number" ["value"] (spIsNum C)
theorem ok_is_number {C : Addr} (B : Blt mg) (T : RatC K mg C) (kci : PySem.W.kitOne K (.ref C) (.type "int") = some false) (D : Dfn K mg "is_number" "is_number" s_is_number ["value"]) : CalIsNum P w K mg base C := by
  refine D.cal sc_is_number (fun vs H Q E h => ?_) (fun fA cdv A outer st H vs Q E hr h => ?_)
  · obtain ⟨v, t, u, rfl, _⟩ := h
    rfl
  · obtain ⟨v, t, u, rfl, hv, q⟩ := h
    refine ⟨_, (pss_one (ps_ret ((pe_or (pe_callB call_isi (by rfl) B.isinstance (by decide +kernel) (pa_cons (pv 0) (pa_cons (pe_bltn (v := .ty "int") (by rfl) B.int (by decide +kernel) rfl) pa_nil))) (pe_one (pe_callB call_isi (by rfl) B.isinstance (by decide +kernel) (pa_cons (pv 0) (pa_cons (pe_glob (v := .ref _) (by rfl) T.g rfl) pa_nil)))))))), ?_⟩
    rcases hv with ⟨rfl, _⟩ | ⟨x, rfl, dx, hx⟩
    · refine ⟨_, rfl, _, _, _, _, true, rfl, .ty _, .base (.int _), kit_ty (by decide +kernel), _, rfl, iteT q⟩
    · refine ⟨_, rfl, _, _, _, _, false, rfl, .ty _, T.tyX hx, kci, _, rfl, iteF ?_⟩
      exact ⟨_, rfl, _, _, _, _, true, rfl, .own _, T.tyX hx, kit_self _, q⟩

def spTopOf (C : Addr) : Sp := fun vs H Q _ => ∃ (v : V) (t u : Int), vs = [v] ∧ Num C H v t u ∧ Q (.int t) H
abbrev CalTopOf (P : Program) (w : World) (K : PySem.W.Frag) (mg : Str → Option Value) (base : Heap) (C : Addr) := Cal P w K mg base 1 "_top_of" ["number"] (spTopOf C)
theorem ok_top_of {C : Addr} (B : Blt mg) (T : RatC K mg C) (D : Dfn K mg "_top_of" "_top_of" s_top_of ["number"]) : CalTopOf P w K mg base C := by
  refine D.cal sc_top_of (fun vs H Q E h => ?_) (fun fA cdv A outer st H vs Q E hr h => ?_)
  · obtain ⟨v, t, u, rfl, _⟩ := h
    rfl
  · obtain ⟨v, t, u, rfl, hv, q⟩ := h
    refine ⟨_, (pss_one (ps_ret (pe_ifExp (pt_val (pe_callB call_isi (by rfl) B.isinstance (by decide +kernel) (pa_cons (pv 0) (pa_cons (pe_glob (v := .ref _) (by rfl) T.g rfl) pa_nil)))) (pe_fld (pv 0) rfl) (pv 0)))), ?_⟩
    rcases hv with ⟨rfl, rfl⟩ | ⟨x, rfl, dx, hx⟩
    · refine ⟨_, rfl, _, _, _, _, false, rfl, .own _, .base (.int _), T.ki, _, rfl, iteF ?_⟩
      exact ⟨_, rfl, q⟩
    · refine ⟨_, rfl, _, _, _, _, true, rfl, .own _, T.tyX hx, kit_self _, _, rfl, iteT ?_⟩
      exact ⟨_, rfl, x, C, dx, _, _, rfl, hx, T.cl, T.nT, rf_top _ _, q⟩

def spUnderOf (C : Addr) : Sp := fun vs H Q _ => ∃ (v : V) (t u : Int), vs = [v] ∧ Num C H v t u ∧ Q (.int u) H
abbrev CalUnderOf (P : Program) (w : World) (K : PySem.W.Frag) (mg : Str → Option Value) (base : Heap) (C : Addr) := Cal P w K mg base 1 "_under_of" ["number"] (spUnderOf C)
theorem ok_under_of {C : Addr} (B : Blt mg) (T : RatC K mg C) (D : Dfn K mg "_under_of" "_under_of" s_under_of ["number"]) : CalUnderOf P w K mg base C := by
  refine D.cal sc_under_of (fun vs H Q E h => ?_) (fun fA cdv A outer st H vs Q E hr h => ?_)
  · obtain ⟨v, t, u, rfl, _⟩ := h
    rfl
  · obtain ⟨v, t, u, rfl, hv, q⟩ := h
    refine ⟨_, (pss_one (ps_ret (pe_ifExp (pt_val (pe_callB call_isi (by rfl) B.isinstance (by decide +kernel) (pa_cons (pv 0) (pa_cons (pe_glob (v := .ref _) (by rfl) T.g rfl) pa_nil)))) (pe_fld (pv 0) rfl) (pe_int)))), ?_⟩
    rcases hv with ⟨rfl, rfl⟩ | ⟨x, rfl, dx, hx⟩
    · refine ⟨_, rfl, _, _, _, _, false, rfl, .own _, .base (.int _), T.ki, _, rfl, iteF ?_⟩
      exact q
    · refine ⟨_, rfl, _, _, _, _, true, rfl, .own _, T.tyX hx, kit_self _, _, rfl, iteT ?_⟩
      exact ⟨_, rfl, x, C, dx, _, _, rfl, hx, T.cl, T.nU, rf_under _ _, q⟩

theorem wm {i j : Int} (h1 : i.natAbs < 2 ^ 4400) (h2 : j.natAbs < 2 ^ 4400) : CMulW i j := wide_mul h1 h2 (by decide) (by decide) (by decide)
theorem wu {i j : Int} (h1 : i.natAbs < 2 ^ 4400) (h2 : j.natAbs < 2 ^ 4400) : (i * j).natAbs < 2 ^ 8800 := Nat.lt_of_lt_of_le (wide_lt h1 h2) (Nat.pow_le_pow_right (by decide) (by decide))
structure Sm (a b t u : Int) : Prop where
  sa : a.natAbs < 2 ^ 4400
  sb : b.natAbs < 2 ^ 4400
  st : t.natAbs < 2 ^ 4400
  su : u.natAbs < 2 ^ 4400
  bp : 0 < b
  up : 0 < u
def spAr (C : Addr) (f g : Int → Int → Int → Int → Int) : Sp := fun vs H Q _ => ∃ (x : Addr) (v : V) (a b t u : Int), vs = [.ref x, v] ∧ RatAt C H x a b ∧ Num C H v t u ∧ Sm a b t u ∧ ∀ (z : Addr) (H' : Hp), Same H H' → RatAt C H' z (nT (f a b t u) (g a b t u)) (nU (f a b t u) (g a b t u)) → Q (.ref z) H'
def spArR (C : Addr) (f g : Int → Int → Int → Int) : Sp := fun vs H Q _ => ∃ (x : Addr) (n a b : Int), vs = [.ref x, .int n] ∧ RatAt C H x a b ∧ Sm a b n 1 ∧ ∀ (z : Addr) (H' : Hp), Same H H' → RatAt C H' z (nT (f a b n) (g a b n)) (nU (f a b n) (g a b n)) → Q (.ref z) H'

theorem ok_add {C ZU fA : Addr} {fd : FuncData} (T : RatC K mg C) (C_is_number : CalIsNum P w K mg base C) (C_top_of : CalTopOf P w K mg base C) (C_under_of : CalUnderOf P w K mg base C) (M2 : CalRatio P w K mg base C ZU []) (F : Fun K "__add__" "Ratio.__add__" s_Ratio_add fA fd) : FnOk P w K mg base CX0 3 fA fd ["self", "other"] (spAr C (fun a b t u => a * u + t * b) (fun a b t u => b * u)) := by
  refine F.ok sc_Ratio_add (fun vs H Q E h => ?_) (fun cdv A outer st H vs Q E hr h => ?_)
  · obtain ⟨x, v, a, b, t, u, rfl, _⟩ := h
    rfl
  · obtain ⟨x, v, a, b, t, u, rfl, ⟨dx, hx⟩, hv, sm, k⟩ := h
    have bu : b * u ≠ 0 := Int.ne_of_gt (Int.mul_pos sm.bp sm.up)
    refine ⟨_, (pss_cons (ps_if (pt_not (pt_val (pe_cal C_is_number (hr.mono (by decide)) (pa_cons (pv 1) pa_nil)))) (pss_one (ps_never)) pss_nil)
      (pss_cons (ps_set (i := 2) sc_Ratio_add.nd rfl (Or.inl rfl) (pe_op op_add (pe_op op_mulW (pe_fld (pv 0) rfl) (pe_cal C_under_of (hr.mono (by decide)) (pa_cons (pv 1) pa_nil))) (pe_op op_mulW (pe_cal C_top_of (hr.mono (by decide)) (pa_cons (pv 1) pa_nil)) (pe_fld (pv 0) rfl))))
      (pss_one (ps_ret (pe_mk M2 (hr.mono (by decide)) (pa_cons (pv 2) (pa_cons (pe_op op_mulW (pe_fld (pv 0) rfl) (pe_cal C_under_of (hr.mono (by decide)) (pa_cons (pv 1) pa_nil))) pa_nil))))))), ?_⟩
    refine ⟨_, rfl, v, t, u, rfl, hv, _, rfl, iteF ?_⟩
    refine ⟨_, rfl, x, C, dx, _, _, rfl, hx, T.cl, T.nT, rf_top _ _, ?_⟩
    refine ⟨_, rfl, v, t, u, rfl, hv, _, _, rfl, rfl, wm sm.sa sm.su, ?_⟩
    refine ⟨_, rfl, v, t, u, rfl, hv, ?_⟩
    refine ⟨_, rfl, x, C, dx, _, _, rfl, hx, T.cl, T.nU, rf_under _ _, _, _, rfl, rfl, wm sm.st sm.sb, _, _, rfl, rfl, ?_⟩
    refine ⟨_, rfl, _, rfl, x, C, dx, _, _, rfl, hx, T.cl, T.nU, rf_under _ _, ?_⟩
    refine ⟨_, rfl, v, t, u, rfl, hv, _, _, rfl, rfl, wm sm.sb sm.su, ?_⟩
    refine fun z dz nz ndz ne => ?_
    exact ⟨z, dz, _, b * u, rfl, upd_same, ub (wu sm.sb sm.su) (by decide), fun _ H' hz hk => ⟨rfl, k z H' (made nz ndz hk) ⟨dz, hz⟩⟩, fun h => absurd h bu⟩

theorem ok_sub {C ZU fA : Addr} {fd : FuncData} (T : RatC K mg C) (C_is_number : CalIsNum P w K mg base C) (C_top_of : CalTopOf P w K mg base C) (C_under_of : CalUnderOf P w K mg base C) (M2 : CalRatio P w K mg base C ZU []) (F : Fun K "__sub__" "Ratio.__sub__" s_Ratio_sub fA fd) : FnOk P w K mg base CX0 3 fA fd ["self", "other"] (spAr C (fun a b t u => a * u - t * b) (fun a b t u => b * u)) := by
  refine F.ok sc_Ratio_sub (fun vs H Q E h => ?_) (fun cdv A outer st H vs Q E hr h => ?_)
  · obtain ⟨x, v, a, b, t, u, rfl, _⟩ := h
    rfl
  · obtain ⟨x, v, a, b, t, u, rfl, ⟨dx, hx⟩, hv, sm, k⟩ := h
    have bu : b * u ≠ 0 := Int.ne_of_gt (Int.mul_pos sm.bp sm.up)
    refine ⟨_, (pss_cons (ps_if (pt_not (pt_val (pe_cal C_is_number (hr.mono (by decide)) (pa_cons (pv 1) pa_nil)))) (pss_one (ps_never)) pss_nil)
      (pss_cons (ps_set (i := 2) sc_Ratio_sub.nd rfl (Or.inl rfl) (pe_op op_sub (pe_op op_mulW (pe_fld (pv 0) rfl) (pe_cal C_under_of (hr.mono (by decide)) (pa_cons (pv 1) pa_nil))) (pe_op op_mulW (pe_cal C_top_of (hr.mono (by decide)) (pa_cons (pv 1) pa_nil)) (pe_fld (pv 0) rfl))))
      (pss_one (ps_ret (pe_mk M2 (hr.mono (by decide)) (pa_cons (pv 2) (pa_cons (pe_op op_mulW (pe_fld (pv 0) rfl) (pe_cal C_under_of (hr.mono (by decide)) (pa_cons (pv 1) pa_nil))) pa_nil))))))), ?_⟩
    refine ⟨_, rfl, v, t, u, rfl, hv, _, rfl, iteF ?_⟩
    refine ⟨_, rfl, x, C, dx, _, _, rfl, hx, T.cl, T.nT, rf_top _ _, ?_⟩
    refine ⟨_, rfl, v, t, u, rfl, hv, _, _, rfl, rfl, wm sm.sa sm.su, ?_⟩
    refine ⟨_, rfl, v, t, u, rfl, hv, ?_⟩
    refine ⟨_, rfl, x, C, dx, _, _, rfl, hx, T.cl, T.nU, rf_under _ _, _, _, rfl, rfl, wm sm.st sm.sb, _, _, rfl, rfl, ?_⟩
    refine ⟨_, rfl, _, rfl, x, C, dx, _, _, rfl, hx, T.cl, T.nU, rf_under _ _, ?_⟩
    refine ⟨_, rfl, v, t, u, rfl, hv, _, _, rfl, rfl, wm sm.sb sm.su, ?_⟩
    refine fun z dz nz ndz ne => ?_
    exact ⟨z, dz, _, b * u, rfl, upd_same, ub (wu sm.sb sm.su) (by decide), fun _ H' hz hk => ⟨rfl, k z H' (made nz ndz hk) ⟨dz, hz⟩⟩, fun h => absurd h bu⟩

theorem ok_mul {C ZU fA : Addr} {fd : FuncData} (T : RatC K mg C) (C_is_number : CalIsNum P w K mg base C) (C_top_of : CalTopOf P w K mg base C) (C_under_of : CalUnderOf P w K mg base C) (M2 : CalRatio P w K mg base C ZU []) (F : Fun K "__mul__" "Ratio.__mul__" s_Ratio_mul fA fd) : FnOk P w K mg base CX0 3 fA fd ["self", "other"] (spAr C (fun a b t u => a * t) (fun a b t u => b * u)) := by
  refine F.ok sc_Ratio_mul (fun vs H Q E h => ?_) (fun cdv A outer st H vs Q E hr h => ?_)
  · obtain ⟨x, v, a, b, t, u, rfl, _⟩ := h
    rfl
  · obtain ⟨x, v, a, b, t, u, rfl, ⟨dx, hx⟩, hv, sm, k⟩ := h
    have bu : b * u ≠ 0 := Int.ne_of_gt (Int.mul_pos sm.bp sm.up)
    refine ⟨_, (pss_cons (ps_if (pt_not (pt_val (pe_cal C_is_number (hr.mono (by decide)) (pa_cons (pv 1) pa_nil)))) (pss_one (ps_never)) pss_nil)
      (pss_one (ps_ret (pe_mk M2 (hr.mono (by decide)) (pa_cons (pe_op op_mulW (pe_fld (pv 0) rfl) (pe_cal C_top_of (hr.mono (by decide)) (pa_cons (pv 1) pa_nil))) (pa_cons (pe_op op_mulW (pe_fld (pv 0) rfl) (pe_cal C_under_of (hr.mono (by decide)) (pa_cons (pv 1) pa_nil))) pa_nil)))))), ?_⟩
    refine ⟨_, rfl, v, t, u, rfl, hv, _, rfl, iteF ?_⟩
    refine ⟨_, rfl, x, C, dx, _, _, rfl, hx, T.cl, T.nT, rf_top _ _, ?_⟩
    refine ⟨_, rfl, v, t, u, rfl, hv, _, _, rfl, rfl, wm sm.sa sm.st, ?_⟩
    refine ⟨_, rfl, x, C, dx, _, _, rfl, hx, T.cl, T.nU, rf_under _ _, ?_⟩
    refine ⟨_, rfl, v, t, u, rfl, hv, _, _, rfl, rfl, wm sm.sb sm.su, ?_⟩
    refine fun z dz nz ndz ne => ?_
    exact ⟨z, dz, _, b * u, rfl, upd_same, ub (wu sm.sb sm.su) (by decide), fun _ H' hz hk => ⟨rfl, k z H' (made nz ndz hk) ⟨dz, hz⟩⟩, fun h => absurd h bu⟩

theorem ok_radd {C fA : Addr} {fd : FuncData} (T : RatC K mg C) (hSF : PySem.W.selfFirst K C = true) (C_is_number : CalIsNum P w K mg base C) (C_as_ratio : CalAsRatio P w K mg base C) (OP : OpOwn P w K mg base 3 C (PySem.dunder (Operator.info .Add).2) ["self", "other"] (spAr C (fun a b t u => a * u + t * b) (fun a b t u => b * u))) (F : Fun K "__radd__" "Ratio.__radd__" s_Ratio_radd fA fd) : FnOk P w K mg base CX0 4 fA fd ["self", "other"] (spArR C (fun a b n => n * b + a * 1) (fun a b n => 1 * b)) := by
  refine F.ok sc_Ratio_radd (fun vs H Q E h => ?_) (fun cdv A outer st H vs Q E hr h => ?_)
  · obtain ⟨x, n, a, b, rfl, _⟩ := h
    rfl
  · obtain ⟨x, n, a, b, rfl, ⟨dx, hx⟩, sm, k⟩ := h
    refine ⟨_, (pss_cons (ps_if (pt_not (pt_val (pe_cal C_is_number (hr.mono (by decide)) (pa_cons (pv 1) pa_nil)))) (pss_one (ps_never)) pss_nil)
      (pss_one (ps_ret (pe_op (op_oo (op := .Add) OP hSF (hr.mono (by decide))) (pe_cal C_as_ratio (hr.mono (by decide)) (pa_cons (pv 1) pa_nil)) (pv 0))))), ?_⟩
    refine ⟨_, rfl, .int n, n, 1, rfl, .inl ⟨rfl, rfl⟩, _, rfl, iteF ?_⟩
    refine ⟨_, rfl, .inr ⟨n, rfl, fun y H1 ny s1 hy => ?_⟩⟩
    obtain ⟨dy, hy⟩ := hy
    refine ⟨_, rfl, y, dy, _, x, dx, _, rfl, hy, rfl, s1 _ _ hx, ?_⟩
    exact ⟨y, .ref x, n, 1, a, b, rfl, ⟨dy, hy⟩, .inr ⟨x, rfl, dx, s1 _ _ hx⟩, ⟨sm.st, by decide, sm.sa, sm.sb, by decide, sm.bp⟩, fun z H2 s2 hz => ⟨z, rfl, k z H2 (s1.trans s2) hz⟩⟩

theorem ok_rsub {C fA : Addr} {fd : FuncData} (T : RatC K mg C) (hSF : PySem.W.selfFirst K C = true) (C_is_number : CalIsNum P w K mg base C) (C_as_ratio : CalAsRatio P w K mg base C) (OP : OpOwn P w K mg base 3 C (PySem.dunder (Operator.info .Sub).2) ["self", "other"] (spAr C (fun a b t u => a * u - t * b) (fun a b t u => b * u))) (F : Fun K "__rsub__" "Ratio.__rsub__" s_Ratio_rsub fA fd) : FnOk P w K mg base CX0 4 fA fd ["self", "other"] (spArR C (fun a b n => n * b - a * 1) (fun a b n => 1 * b)) := by
  refine F.ok sc_Ratio_rsub (fun vs H Q E h => ?_) (fun cdv A outer st H vs Q E hr h => ?_)
  · obtain ⟨x, n, a, b, rfl, _⟩ := h
    rfl
  · obtain ⟨x, n, a, b, rfl, ⟨dx, hx⟩, sm, k⟩ := h
    refine ⟨_, (pss_cons (ps_if (pt_not (pt_val (pe_cal C_is_number (hr.mono (by decide)) (pa_cons (pv 1) pa_nil)))) (pss_one (ps_never)) pss_nil)
      (pss_one (ps_ret (pe_op (op_oo (op := .Sub) OP hSF (hr.mono (by decide))) (pe_cal C_as_ratio (hr.mono (by decide)) (pa_cons (pv 1) pa_nil)) (pv 0))))), ?_⟩
    refine ⟨_, rfl, .int n, n, 1, rfl, .inl ⟨rfl, rfl⟩, _, rfl, iteF ?_⟩
    refine ⟨_, rfl, .inr ⟨n, rfl, fun y H1 ny s1 hy => ?_⟩⟩
    obtain ⟨dy, hy⟩ := hy
    refine ⟨_, rfl, y, dy, _, x, dx, _, rfl, hy, rfl, s1 _ _ hx, ?_⟩
    exact ⟨y, .ref x, n, 1, a, b, rfl, ⟨dy, hy⟩, .inr ⟨x, rfl, dx, s1 _ _ hx⟩, ⟨sm.st, by decide, sm.sa, sm.sb, by decide, sm.bp⟩, fun z H2 s2 hz => ⟨z, rfl, k z H2 (s1.trans s2) hz⟩⟩

theorem ok_rmul {C fA : Addr} {fd : FuncData} (T : RatC K mg C) (hSF : PySem.W.selfFirst K C = true) (C_is_number : CalIsNum P w K mg base C) (C_as_ratio : CalAsRatio P w K mg base C) (OP : OpOwn P w K mg base 3 C (PySem.dunder (Operator.info .Mult).2) ["self", "other"] (spAr C (fun a b t u => a * t) (fun a b t u => b * u))) (F : Fun K "__rmul__" "Ratio.__rmul__" s_Ratio_rmul fA fd) : FnOk P w K mg base CX0 4 fA fd ["self", "other"] (spArR C (fun a b n => n * a) (fun a b n => 1 * b)) := by
  refine F.ok sc_Ratio_rmul (fun vs H Q E h => ?_) (fun cdv A outer st H vs Q E hr h => ?_)
  · obtain ⟨x, n, a, b, rfl, _⟩ := h
    rfl
  · obtain ⟨x, n, a, b, rfl, ⟨dx, hx⟩, sm, k⟩ := h
    refine ⟨_, (pss_cons (ps_if (pt_not (pt_val (pe_cal C_is_number (hr.mono (by decide)) (pa_cons (pv 1) pa_nil)))) (pss_one (ps_never)) pss_nil)
      (pss_one (ps_ret (pe_op (op_oo (op := .Mult) OP hSF (hr.mono (by decide))) (pe_cal C_as_ratio (hr.mono (by decide)) (pa_cons (pv 1) pa_nil)) (pv 0))))), ?_⟩
    refine ⟨_, rfl, .int n, n, 1, rfl, .inl ⟨rfl, rfl⟩, _, rfl, iteF ?_⟩
    refine ⟨_, rfl, .inr ⟨n, rfl, fun y H1 ny s1 hy => ?_⟩⟩
    obtain ⟨dy, hy⟩ := hy
    refine ⟨_, rfl, y, dy, _, x, dx, _, rfl, hy, rfl, s1 _ _ hx, ?_⟩
    exact ⟨y, .ref x, n, 1, a, b, rfl, ⟨dy, hy⟩, .inr ⟨x, rfl, dx, s1 _ _ hx⟩, ⟨sm.st, by decide, sm.sa, sm.sb, by decide, sm.bp⟩, fun z H2 s2 hz => ⟨z, rfl, k z H2 (s1.trans s2) hz⟩⟩

def spNeg (C : Addr) : Sp := fun vs H Q _ => ∃ (x : Addr) (a b : Int), vs = [.ref x] ∧ RatAt C H x a b ∧ 0 < b ∧ b.natAbs < 2 ^ 4400 ∧ ∀ (z : Addr) (H' : Hp), Same H H' → RatAt C H' z (nT (-a) b) (nU (-a) b) → Q (.ref z) H'
theorem ok_neg {C ZU fA : Addr} {fd : FuncData} (B : Blt mg) (T : RatC K mg C) (M2 : CalRatio P w K mg base C ZU []) (F : Fun K "__neg__" "Ratio.__neg__" s_Ratio_neg fA fd) : FnOk P w K mg base CX0 3 fA fd ["self"] (spNeg C) := by
  refine F.ok sc_Ratio_neg (fun vs H Q E h => ?_) (fun cdv A outer st H vs Q E hr h => ?_)
  · obtain ⟨x, a, b, rfl, _⟩ := h
    rfl
  · obtain ⟨x, a, b, rfl, ⟨dx, hx⟩, bp, hb, k⟩ := h
    refine ⟨_, (pss_one (ps_ret (pe_mk M2 (hr.mono (by decide)) (pa_cons (pe_un un_neg (pe_fld (pv 0) rfl)) (pa_cons (pe_fld (pv 0) rfl) pa_nil))))), ?_⟩
    refine ⟨_, rfl, x, C, dx, _, _, rfl, hx, T.cl, T.nT, rf_top _ _, _, rfl, ?_⟩
    refine ⟨_, rfl, x, C, dx, _, _, rfl, hx, T.cl, T.nU, rf_under _ _, ?_⟩
    refine fun z dz nz ndz ne => ?_
    exact ⟨z, dz, _, b, rfl, upd_same, ub hb (by decide), fun _ H' hz hk => ⟨rfl, k z H' (made nz ndz hk) ⟨dz, hz⟩⟩, fun h => absurd h (by omega)⟩

def spAbs (C : Addr) : Sp := fun vs H Q _ => ∃ (x : Addr) (a b : Int), vs = [.ref x] ∧ RatAt C H x a b ∧ 0 < b ∧ b.natAbs < 2 ^ 4400 ∧ ∀ (z : Addr) (H' : Hp), Same H H' → RatAt C H' z (nT (if a < 0 then -a else a) b) (nU (if a < 0 then -a else a) b) → Q (.ref z) H'
theorem ok_abs {C ZU fA : Addr} {fd : FuncData} (B : Blt mg) (T : RatC K mg C) (M2 : CalRatio P w K mg base C ZU []) (F : Fun K "__abs__" "Ratio.__abs__" s_Ratio_abs fA fd) : FnOk P w K mg base CX0 3 fA fd ["self"] (spAbs C) := by
  refine F.ok sc_Ratio_abs (fun vs H Q E h => ?_) (fun cdv A outer st H vs Q E hr h => ?_)
  · obtain ⟨x, a, b, rfl, _⟩ := h
    rfl
  · obtain ⟨x, a, b, rfl, ⟨dx, hx⟩, bp, hb, k⟩ := h
    refine ⟨_, (pss_one (ps_ret (pe_mk M2 (hr.mono (by decide)) (pa_cons (pe_callB call_abs (by rfl) B.abs (by decide +kernel) (pa_cons (pe_fld (pv 0) rfl) pa_nil)) (pa_cons (pe_fld (pv 0) rfl) pa_nil))))), ?_⟩
    refine ⟨_, rfl, x, C, dx, _, _, rfl, hx, T.cl, T.nT, rf_top _ _, _, rfl, ?_⟩
    refine ⟨_, rfl, x, C, dx, _, _, rfl, hx, T.cl, T.nU, rf_under _ _, ?_⟩
    refine fun z dz nz ndz ne => ?_
    exact ⟨z, dz, _, b, rfl, upd_same, ub hb (by decide), fun _ H' hz hk => ⟨rfl, k z H' (made nz ndz hk) ⟨dz, hz⟩⟩, fun h => absurd h (by omega)⟩
end

/-- .. as a top and an under -/
theorem NumQ.num {C : Addr} {H : Hp} {v : V} {n m : Int} {b : Nat} (h : NumQ C H v n m) (hm : 0 < m) (hn : n.natAbs < 2 ^ b) (hb : m.natAbs < 2 ^ b) :
    ∃ t u, Num C H v t u ∧ t * m = n * u ∧ 0 < u ∧ t.natAbs < 2 ^ b ∧ u.natAbs < 2 ^ b := by
  rcases h with ⟨z, ev, ez⟩ | ⟨x, ev, hx⟩
  · refine ⟨z, 1, .inl ⟨ev, rfl⟩, by rw [ez, Int.mul_one], by decide, Nat.lt_of_le_of_lt ?_ hn, Nat.lt_of_le_of_lt (show (1 : Int).natAbs ≤ m.natAbs by omega) hb⟩
    rw [← ez, Int.natAbs_mul]
    exact Nat.le_mul_of_pos_right _ (by omega)
  · have hm' : m ≠ 0 := by omega
    exact ⟨nT n m, nU n m, .inr ⟨x, ev, hx⟩, n_cross n m, nU_pos hm', Nat.lt_of_le_of_lt (nT_le hm') hn, Nat.lt_of_le_of_lt (nU_le hm') hb⟩
structure Sq (n m : Int) : Prop where
  p : 0 < m
  n : n.natAbs < 2 ^ 4400
  m : m.natAbs < 2 ^ 4400
abbrev spAdd (C : Addr) := spAr C (fun a b t u => a * u + t * b) (fun a b t u => b * u)
abbrev spSub (C : Addr) := spAr C (fun a b t u => a * u - t * b) (fun a b t u => b * u)
abbrev spMul (C : Addr) := spAr C (fun a b t u => a * t) (fun a b t u => b * u)
/-- a Ratio with a number: what the operator's two rules ask -/
theorem ar_q {C : Addr} {f g : Int → Int → Int → Int → Int} {H : Hp} {x : Addr} {v : V} {n m n' m' N M : Int} {Q : VK} (hx : RatQ C H x n m) (hv : NumQ C H v n' m') (s1 : Sq n m) (s2 : Sq n' m') (hM : M ≠ 0)
    (hg : ∀ a b t u : Int, 0 < b → 0 < u → g a b t u ≠ 0) (e : ∀ a b t u : Int, 0 < b → 0 < u → a * m = n * b → t * m' = n' * u → f a b t u * M = N * g a b t u)
    (k : ∀ (z : Addr) (H' : Hp), Same H H' → RatQ C H' z N M → Q (.ref z) H') : rOO C (spAr C f g) (.ref x) v H Q ∨ rOI C (spAr C f g) (.ref x) v H Q := by
  obtain ⟨t, u, hn, et, pu, bt, bu⟩ := hv.num s2.p s2.n s2.m
  have nm : m ≠ 0 := by have := s1.p; omega
  have pm := nU_pos (t := n) nm
  have sm : Sm (nT n m) (nU n m) t u := ⟨Nat.lt_of_le_of_lt (nT_le nm) s1.n, Nat.lt_of_le_of_lt (nU_le nm) s1.m, bt, bu, pm, pu⟩
  have fin : ∀ (z : Addr) (H' : Hp), Same H H' → RatAt C H' z (nT (f (nT n m) (nU n m) t u) (g (nT n m) (nU n m) t u)) (nU (f (nT n m) (nU n m) t u) (g (nT n m) (nU n m) t u)) → ∃ z', V.ref z = .ref z' ∧ Q (.ref z') H' := fun z H' s hz =>
    ⟨z, rfl, k z H' s (RatQ.of hz (hg _ _ _ _ pm pu) hM (e _ _ _ _ pm pu (n_cross n m) et))⟩
  obtain ⟨dx, hx'⟩ := id hx
  rcases id hn with ⟨rfl, rfl⟩ | ⟨y, rfl, dy, hy⟩
  · exact .inr ⟨x, dx, _, t, rfl, hx', rfl, x, .int t, _, _, t, 1, rfl, hx, hn, sm, fin⟩
  · exact .inl ⟨x, dx, _, y, dy, _, rfl, hx', rfl, hy, x, .ref y, _, _, t, u, rfl, hx, hn, sm, fin⟩
theorem add_q {C : Addr} {H : Hp} {x : Addr} {v : V} {n D n' : Int} {Q : VK} (hx : RatQ C H x n D) (hv : NumQ C H v n' D) (s1 : Sq n D) (s2 : Sq n' D) (k : ∀ (z : Addr) (H' : Hp), Same H H' → RatQ C H' z (n + n') D → Q (.ref z) H') :
    rOO C (spAdd C) (.ref x) v H Q ∨ rOI C (spAdd C) (.ref x) v H Q :=
  ar_q hx hv s1 s2 (by have := s1.p; omega) (fun a b t u h1 h2 => Int.ne_of_gt (Int.mul_pos h1 h2)) (fun a b t u h1 h2 e1 e2 => by grind) k
theorem mul_q {C : Addr} {H : Hp} {x : Addr} {v : V} {n m n' m' : Int} {Q : VK} (hx : RatQ C H x n m) (hv : NumQ C H v n' m') (s1 : Sq n m) (s2 : Sq n' m') (k : ∀ (z : Addr) (H' : Hp), Same H H' → RatQ C H' z (n * n') (m * m') → Q (.ref z) H') :
    rOO C (spMul C) (.ref x) v H Q ∨ rOI C (spMul C) (.ref x) v H Q :=
  ar_q hx hv s1 s2 (Int.ne_of_gt (Int.mul_pos s1.p s2.p)) (fun a b t u h1 h2 => Int.ne_of_gt (Int.mul_pos h1 h2)) (fun a b t u h1 h2 e1 e2 => by grind) k
theorem sgn0 {t u n m : Int} (hm : 0 < m) (hu : 0 < u) (e : t * m = n * u) : (t < 0 ↔ n < 0) ∧ (t = 0 ↔ n = 0) := by
  constructor
  · constructor
    · intro h
      rcases (by omega : n < 0 ∨ 0 ≤ n) with h1 | h1
      · exact h1
      · have := Int.mul_neg_of_neg_of_pos h hm
        have := Int.mul_nonneg h1 (show 0 ≤ u by omega)
        omega
    · intro h
      rcases (by omega : t < 0 ∨ 0 ≤ t) with h1 | h1
      · exact h1
      · have := Int.mul_neg_of_neg_of_pos h hu
        have := Int.mul_nonneg h1 (show 0 ≤ m by omega)
        omega
  · constructor
    · rintro rfl
      rw [Int.zero_mul] at e
      rcases Int.mul_eq_zero.mp e.symm with h | h
      · exact h
      · omega
    · rintro rfl
      rw [Int.zero_mul] at e
      rcases Int.mul_eq_zero.mp e with h | h
      · exact h
      · omega
end L

set_option Elab.async false
set_option linter.all false
set_option maxRecDepth 100000
set_option maxHeartbeats 4000000
set_option pp.maxSteps 160
set_option pp.deepTerms false
namespace L
open PySem PySem.Spec PyProof.Rows L2 Fl
local macro_rules | `(tactic| walk_at "side") => `(tactic| first | (exact .inl ⟨by omega, by omega⟩) | (exact .inr ⟨by omega, by omega⟩) | (exact .inr ⟨by decide, by decide⟩) | (show (_ : Int) ≠ _; omega) | (exact ⟨by omega, by decide⟩) | (exact ⟨by decide, by decide, by decide⟩))
local macro_rules | `(tactic| walk_at "go") => `(tactic| repeat (first | refine ⟨_, rfl, ?_⟩ | refine ⟨_, _, rfl, rfl, ?_⟩ | refine .inl ⟨_, rfl, ?_⟩ | refine ⟨rfl, ?_⟩ | refine ⟨(by walk_at "side"), ?_⟩))
local macro_rules | `(tactic| walk_at "see") => `(tactic| (set_option pp.maxSteps 110 in set_option pp.deepTerms false in trace_state))
local macro_rules | `(tactic| walk_at "if") => `(tactic| first | refine ifE ?_ ?_ | refine ifNE ?_ ?_ | refine ifD ?_ ?_ | refine ifN ?_ ?_ | refine ifB ?_ ?_)

theorem keeps_late {H0 H : Hp} {D p : Addr} {o : HO} (s : Keeps H0 H p) (h : H0 D = none) : Keeps H0 (upd H D o) p := fun b u e n => by
  rw [upd_ne (ne_of_none e h)]
  exact s b u e n
theorem call_len_K {X : Cx} {K : PySem.W.Frag} (e : X.K = K) : CallR X (.builtin "len") (fun xs H Q => ∃ p ys, xs = [.ref p] ∧ (SqL K H p ys ∨ SqT K H p ys) ∧ Q (.int (ys.length : Int)) H) := by
  subst e
  exact call_len_seq
theorem ix_list_K {X : Cx} {K : PySem.W.Frag} (e : X.K = K) : IxR X (rIxL K) := by
  subst e
  exact ix_list
theorem ix_tup_K {X : Cx} {K : PySem.W.Frag} (e : X.K = K) : IxR X (rIxT K) := by
  subst e
  exact ix_tup
theorem pe_or {X : Cx} {e : Expr} {t u : TE} (h : PE X e t) (k : PE X e u) : PE X e (fun σ H Q => t σ H Q ∨ u σ H Q) := ⟨fun pins s σ H Q I q => by
  rcases q with q | q
  · exact h.run pins s σ H Q I q
  · exact k.run pins s σ H Q I q⟩
abbrev Cls2 := Int × Int
/-! ### classes -/
def ClP (H : Hp) (v : V) (c : Cls2) : Prop := ∃ t, v = .ref t ∧ H t = some (.tup [.int c.1, .int c.2])
theorem clP_mono : Mono ClP := fun H H' v x s h => by
  obtain ⟨t, e, ht⟩ := h
  exact ⟨t, e, s _ _ ht⟩
def fds (cs : List Cls2) : Int := (cs.map (fun c => c.2)).sum
structure ClsV (cs : List Cls2) : Prop where
  l1 : 1 ≤ cs.length
  l4 : cs.length ≤ 4
  at_ : ∀ c, c ∈ cs → 1 ≤ c.1 ∧ c.1 ≤ 1000 ∧ 1 ≤ c.2
  sm : fds cs ≤ 12
def grf (n : Int) (M : Addr) : List (Str × V) := putF "fields" (.int n) (putF "classes" (.ref M) [])
theorem nfc : ¬ (("classes" : Str) = "fields") := by decide +kernel
theorem grf_classes (n : Int) (M : Addr) : (grf n M).lookup ("classes" : Str) = some (.ref M) := by
  unfold grf
  rw [lookup_putF, if_neg nfc, lookup_putF, if_pos rfl]
theorem grf_fields (n : Int) (M : Addr) : (grf n M).lookup ("fields" : Str) = some (.int n) := by
  unfold grf
  rw [lookup_putF, if_pos rfl]
theorem grf_no (n : Int) (M : Addr) {m : Str} (h1 : ¬ m = "fields") (h2 : ¬ m = "classes") : (grf n M).lookup m = none := by
  unfold grf
  rw [lookup_putF, if_neg h1, lookup_putF, if_neg h2]
  rfl
/-- the ground x of these classes -/
def GrAt (G : Addr) (H : Hp) (x : Addr) (cs : List Cls2) : Prop := ∃ dx M, H x = some (.ins G dx (grf (fds cs) M)) ∧ LAt ClP H M cs
theorem GrAt.same {G : Addr} {H H' : Hp} {x : Addr} {cs : List Cls2} (h : GrAt G H x cs) (s : Same H H') : GrAt G H' x cs := by
  obtain ⟨dx, M, h1, h2⟩ := h
  exact ⟨dx, M, s _ _ h1, h2.same clP_mono s⟩
structure GrC (K : PySem.W.Frag) (mg : Str → Option Value) (G : Addr) : Prop where
  cl : Cls K G
  nC : NoAttr K G "classes"
  nF : NoAttr K G "fields"
  g : mg "Ground" = some (.ref G)
/-- a tuple of classes, given one by one -/
def TAt (H : Hp) (p : Addr) (cs : List Cls2) : Prop := ∃ vs : List V, H p = some (.tup vs) ∧ vs.length = cs.length ∧ ∀ (i : Nat) (c : Cls2), cs[i]? = some c → ∃ v, vs[i]? = some v ∧ ClP H v c
theorem TAt.same {H H' : Hp} {p : Addr} {cs : List Cls2} (h : TAt H p cs) (s : Same H H') : TAt H' p cs := by
  obtain ⟨vs, h1, h2, h3⟩ := h
  refine ⟨vs, s _ _ h1, h2, fun i c hc => ?_⟩
  obtain ⟨v, hv, r⟩ := h3 i c hc
  exact ⟨v, hv, clP_mono _ _ _ _ s r⟩

/-! ### item by item -/
def PG {α : Type} (R : V → α → Prop) (vs : List V) (xs : List α) : Prop := vs.length = xs.length ∧ ∀ (i : Nat) (x : α), xs[i]? = some x → ∃ v, vs[i]? = some v ∧ R v x
theorem PG.imp {α : Type} {R S : V → α → Prop} {vs : List V} {xs : List α} (h : PG R vs xs) (k : ∀ v x, R v x → S v x) : PG S vs xs := ⟨h.1, fun i x hx => by
  obtain ⟨v, hv, r⟩ := h.2 i x hx
  exact ⟨v, hv, k v x r⟩⟩
theorem pg_app {α : Type} {R : V → α → Prop} {a b : List V} {x y : List α} (h : PG R a x) (k : PG R b y) : PG R (a ++ b) (x ++ y) := by
  refine ⟨by rw [List.length_append, List.length_append, h.1, k.1], fun i c hc => ?_⟩
  by_cases hi : i < x.length
  · rw [List.getElem?_append_left hi] at hc
    obtain ⟨v, hv, r⟩ := h.2 i c hc
    exact ⟨v, by rw [List.getElem?_append_left (by rw [h.1]; exact hi)]; exact hv, r⟩
  · rw [List.getElem?_append_right (by omega)] at hc
    obtain ⟨v, hv, r⟩ := k.2 _ c hc
    exact ⟨v, by rw [List.getElem?_append_right (by rw [h.1]; omega), h.1]; exact hv, r⟩
theorem pg_take {α : Type} {R : V → α → Prop} {a : List V} {x : List α} {n : Nat} (h : PG R a x) : PG R (a.take n) (x.take n) := by
  refine ⟨by rw [List.length_take, List.length_take, h.1], fun i c hc => ?_⟩
  rw [List.getElem?_take] at hc
  split at hc
  · rename_i hi
    obtain ⟨v, hv, r⟩ := h.2 i c hc
    exact ⟨v, by rw [List.getElem?_take, if_pos hi]; exact hv, r⟩
  · cases hc
theorem pg_drop {α : Type} {R : V → α → Prop} {a : List V} {x : List α} {n : Nat} (h : PG R a x) : PG R (a.drop n) (x.drop n) := by
  refine ⟨by rw [List.length_drop, List.length_drop, h.1], fun i c hc => ?_⟩
  rw [List.getElem?_drop] at hc
  obtain ⟨v, hv, r⟩ := h.2 _ c hc
  exact ⟨v, by rw [List.getElem?_drop]; exact hv, r⟩
theorem pg_one {α : Type} {R : V → α → Prop} {v : V} {x : α} (h : R v x) : PG R [v] [x] := ⟨rfl, fun i y hy => by
  cases i with
  | zero =>
    cases hy
    exact ⟨v, rfl, h⟩
  | succ i => simp at hy⟩
theorem pg_cut {α : Type} {R : V → α → Prop} {a : List V} {x : List α} {lo hi : Option Int} (h : PG R a x) : PG R (cutV a lo hi) ((x.drop (HT.sIx x.length 0 lo)).take (HT.sIx x.length x.length hi - HT.sIx x.length 0 lo)) := by
  unfold cutV
  rw [h.1]
  exact pg_take (pg_drop h)
theorem cut_ints {cs : List Int} {lo hi : Option Int} : cutV (cs.map V.int) lo hi = ((cs.drop (HT.sIx cs.length 0 lo)).take (HT.sIx cs.length cs.length hi - HT.sIx cs.length 0 lo)).map V.int := by
  unfold cutV
  rw [List.length_map, List.map_take, List.map_drop]
theorem sumT_K {X : Cx} {K : PySem.W.Frag} (e : X.K = K) (hc : X.calm = true) : CallR X (.builtin "sum") (Zm.rSumT K) := by
  subst e
  exact Zm.cr_sumT hc
/-! ### rows and spreads -/
abbrev Rw := List Int
def RwP (H : Hp) (v : V) (r : Rw) : Prop := ∃ t, v = .ref t ∧ H t = some (.tup (r.map V.int))
theorem rwP_mono : Mono RwP := fun H H' v r s h => by
  obtain ⟨t, e, ht⟩ := h
  exact ⟨t, e, s _ _ ht⟩
def SpA (H : Hp) (p : Addr) (rs : List Rw) : Prop := ∃ vs, H p = some (.tup vs) ∧ PG (RwP H) vs rs
theorem SpA.same {H H' : Hp} {p : Addr} {rs : List Rw} (h : SpA H p rs) (s : Same H H') : SpA H' p rs := by
  obtain ⟨vs, h1, h2⟩ := h
  exact ⟨vs, s _ _ h1, h2.imp fun v r => rwP_mono _ _ _ _ s⟩
def lastI (r : Rw) : Int := r.getD (r.length - 1) 0
structure Row (m : Int) (r : Rw) : Prop where
  len : (r.length : Int) = m
  pos : 0 ≤ lastI r
  dec : r.Pairwise (· ≥ ·)
def tot (rs : List Rw) : Int := (rs.map List.sum).sum
def RowsOk (cs : List Cls2) (rs : List Rw) : Prop := rs.length = cs.length ∧ ∀ (i : Nat) (c : Cls2) (r : Rw), cs[i]? = some c → rs[i]? = some r → Row c.2 r
def Due (cs : List Cls2) (rs : List Rw) : Prop := RowsOk cs rs ∧ tot rs ≤ 40
def Bnd (rs : List Rw) : Prop := rs.length ≤ 12 ∧ ∀ r, r ∈ rs → r.length ≤ 60
def adj (r : Rw) : List Bool := (r.zip (r.drop 1)).map fun p => decide (p.1 ≥ p.2)
theorem adj_iff : ∀ {r : Rw}, (adj r).all id = true ↔ r.Pairwise (· ≥ ·)
  | [] => by simp [adj]
  | [a] => by simp [adj]
  | a :: b :: t => by
    have h := adj_iff (r := b :: t)
    have e : (adj (a :: b :: t)).all id = (decide (a ≥ b) && (adj (b :: t)).all id) := rfl
    rw [e, Bool.and_eq_true, h]
    constructor
    · rintro ⟨h1, h2⟩
      have h1 : a ≥ b := of_decide_eq_true h1
      refine List.pairwise_cons.mpr ⟨fun x hx => ?_, h2⟩
      rcases List.mem_cons.mp hx with q | q
      · rw [q]
        exact h1
      · have := (List.pairwise_cons.mp h2).1 x q
        omega
    · intro h
      obtain ⟨h1, h2⟩ := List.pairwise_cons.mp h
      exact ⟨decide_eq_true (h1 b (List.mem_cons_self ..)), h2⟩
theorem adj_at {r : Rw} {i : Nat} {a b : Int} (h1 : r[i]? = some a) (h2 : (r.drop 1)[i]? = some b) : (adj r)[i]? = some (decide (a ≥ b)) := by
  unfold adj
  rw [List.getElem?_map, (List.getElem?_zip_eq_some (z := (a, b))).mpr ⟨h1, h2⟩]
  rfl
theorem adj_len {r : Rw} : (adj r).length = r.length - 1 := by
  unfold adj
  rw [List.length_map, List.length_zip, List.length_drop]
  omega
theorem srt_eq {a b : Rw} (h : a.Perm b) (ha : a.Pairwise (· ≥ ·)) : a = b ↔ b.Pairwise (· ≥ ·) := by
  constructor
  · intro e
    rw [← e]
    exact ha
  · intro hb
    exact List.Perm.eq_of_pairwise (fun x y _ _ h1 h2 => by omega) ha hb h
theorem last_at {r : Rw} (h : 1 ≤ r.length) : atI (r.map V.int) (-1) = some (V.int (lastI r)) := by
  unfold atI ixN
  rw [List.length_map, if_neg (by omega), if_pos (by omega)]
  show (r.map V.int)[((-1 : Int) + (r.length : Int)).toNat]? = _
  rw [List.getElem?_map, show ((-1 : Int) + (r.length : Int)).toNat = r.length - 1 by omega]
  unfold lastI
  rw [List.getD_eq_getElem?_getD, List.getElem?_eq_getElem (show r.length - 1 < r.length by omega)]
  rfl
theorem fds_app {a b : List Cls2} : fds (a ++ b) = fds a + fds b := by
  unfold fds
  rw [List.map_append, List.sum_append]
theorem fds_one {c : Cls2} : fds [c] = c.2 := by
  show c.2 + 0 = c.2
  omega
theorem le_fds : ∀ {cs : List Cls2}, (∀ c, c ∈ cs → 1 ≤ c.2) → 0 ≤ fds cs ∧ ∀ c, c ∈ cs → c.2 ≤ fds cs
  | [], _ => ⟨Int.le_refl _, fun c hc => nomatch hc⟩
  | a :: r, h => by
    obtain ⟨h0, hr⟩ := le_fds (cs := r) fun c hc => h c (List.mem_cons_of_mem _ hc)
    have ha := h a (List.mem_cons_self ..)
    have e : fds (a :: r) = a.2 + fds r := rfl
    refine ⟨by omega, fun c hc => ?_⟩
    rcases List.mem_cons.mp hc with q | q
    · rw [q]
      omega
    · have := hr c q
      omega
theorem ClsV.b12 {cs : List Cls2} (h : ClsV cs) : ∀ c, c ∈ cs → 1 ≤ c.2 ∧ c.2 ≤ 12 := fun c hc => by
  have h1 := (h.at_ c hc).2.2
  have h2 := (le_fds fun c hc => (h.at_ c hc).2.2).2 c hc
  have := h.sm
  exact ⟨h1, by omega⟩

/-! ### what two rows win -/
def outv (v x y : Int) : Int := if x = y then v else if x > y then 1 else -1
def gsum (v x : Int) (ys : Rw) : Int := (ys.map (outv v x)).sum
def pairs (v : Int) (xs ys : Rw) : Int := (xs.map fun x => gsum v x ys).sum
theorem outv_bd {v x y : Int} (h : v = -1 ∨ v = 0 ∨ v = 1) : (outv v x y).natAbs ≤ 1 := by
  unfold outv
  split
  · omega
  · split <;> decide
theorem sum_bd {b : Nat} : ∀ {xs : List Int}, (∀ x, x ∈ xs → x.natAbs ≤ b) → xs.sum.natAbs ≤ xs.length * b
  | [], _ => by simp
  | x :: r, h => by
    have h1 := h x (List.mem_cons_self ..)
    have h2 := sum_bd (xs := r) fun y hy => h y (List.mem_cons_of_mem _ hy)
    show (x + r.sum).natAbs ≤ (r.length + 1) * b
    rw [Nat.add_mul, Nat.one_mul]
    omega
theorem gsum_bd {v x : Int} {ys : Rw} (h : v = -1 ∨ v = 0 ∨ v = 1) : (gsum v x ys).natAbs ≤ ys.length := by
  have := sum_bd (xs := ys.map (outv v x)) (b := 1) fun y hy => by
    obtain ⟨z, _, e⟩ := List.mem_map.mp hy
    rw [← e]
    exact outv_bd h
  rw [List.length_map, Nat.mul_one] at this
  exact this
theorem pairs_bd {v : Int} {xs ys : Rw} (h : v = -1 ∨ v = 0 ∨ v = 1) : (pairs v xs ys).natAbs ≤ xs.length * ys.length := by
  have := sum_bd (xs := xs.map fun x => gsum v x ys) (b := ys.length) fun y hy => by
    obtain ⟨z, _, e⟩ := List.mem_map.mp hy
    rw [← e]
    exact gsum_bd h
  rw [List.length_map] at this
  exact this
theorem gsum_take {v x : Int} {ys : Rw} {j : Nat} {y : Int} (h : ys[j]? = some y) : gsum v x (ys.take (j + 1)) = gsum v x (ys.take j) + outv v x y := by
  unfold gsum
  rw [List.take_add_one, h, List.map_append, List.sum_append]
  show _ + (outv v x y + 0) = _
  rw [Int.add_zero]
theorem pairs_take {v : Int} {xs ys : Rw} {i : Nat} {x : Int} (h : xs[i]? = some x) : pairs v (xs.take (i + 1)) ys = pairs v (xs.take i) ys + gsum v x ys := by
  unfold pairs
  rw [List.take_add_one, h, List.map_append, List.sum_append]
  show _ + (gsum v x ys + 0) = _
  rw [Int.add_zero]
/-- the gain in the fields of one class, over 27720 -/
def gn (v : Int) (cs : List Cls2) (rs ss : List Rw) (i : Nat) : Int := (cs.getD i (1, 1)).1 * pairs v (rs.getD i []) (ss.getD i []) * (27720 / (cs.getD i (1, 1)).2)
def gns (v : Int) (cs : List Cls2) (rs ss : List Rw) : List Int := (List.range cs.length).map (gn v cs rs ss)
theorem gn_at {v : Int} {cs : List Cls2} {rs ss : List Rw} {i : Nat} {c : Cls2} {r s : Rw} (h1 : cs[i]? = some c) (h2 : rs[i]? = some r) (h3 : ss[i]? = some s) : gn v cs rs ss i = c.1 * pairs v r s * (27720 / c.2) := by
  unfold gn
  rw [List.getD_eq_getElem?_getD, List.getD_eq_getElem?_getD, List.getD_eq_getElem?_getD, h1, h2, h3]
  rfl
theorem many_div {m : Int} (h1 : 1 ≤ m) (h2 : m ≤ 12) : 27720 / m * m = 27720 := by
  rcases (by omega : m = 1 ∨ m = 2 ∨ m = 3 ∨ m = 4 ∨ m = 5 ∨ m = 6 ∨ m = 7 ∨ m = 8 ∨ m = 9 ∨ m = 10 ∨ m = 11 ∨ m = 12) with h | h | h | h | h | h | h | h | h | h | h | h <;> rw [h] <;> decide
theorem gn_bd {w m p : Int} (hw : 1 ≤ w ∧ w ≤ 1000) (h1 : 1 ≤ m) (hp : p.natAbs ≤ 10000) : (w * p * (27720 / m)).natAbs < 2 ^ 60 := by
  rw [Int.natAbs_mul, Int.natAbs_mul]
  have a : w.natAbs ≤ 1000 := by omega
  have b : (27720 / m).natAbs ≤ 27720 := by
    have := Int.ediv_le_self (a := 27720) m (by decide)
    have := Int.ediv_nonneg (show (0 : Int) ≤ 27720 by decide) (show 0 ≤ m by omega)
    omega
  exact Nat.lt_of_le_of_lt (Nat.mul_le_mul (Nat.mul_le_mul a hp) b) (by decide)
def sumI : List Int → Int
  | [] => 0
  | n :: r => n + sumI r
theorem sumI_app (xs ys : List Int) : sumI (xs ++ ys) = sumI xs + sumI ys := by
  induction xs with
  | nil => show sumI ys = 0 + sumI ys; omega
  | cons a r ih => show a + sumI (r ++ ys) = a + sumI r + sumI ys; omega
theorem sumI_bd {b : Nat} : ∀ {ns : List Int}, (∀ n ∈ ns, n.natAbs < 2 ^ b) → (sumI ns).natAbs ≤ ns.length * 2 ^ b
  | [], _ => by show (0 : Int).natAbs ≤ _; omega
  | n :: r, h => by
    have h1 := h n (List.mem_cons_self ..)
    have h2 := sumI_bd (ns := r) fun m hm => h m (List.mem_cons_of_mem _ hm)
    show (n + sumI r).natAbs ≤ (r.length + 1) * 2 ^ b
    rw [Nat.add_mul, Nat.one_mul]
    omega
theorem take_snoc {α : Type} {xs : List α} {i : Nat} {x : α} (h : xs[i]? = some x) : xs.take (i + 1) = xs.take i ++ [x] := by
  rw [List.take_add_one, h]
  rfl
/-- numbers over one denominator, of a size that can be reckoned with -/
structure Bd (ns : List Int) (D : Int) : Prop where
  p : 0 < D
  d : D.natAbs < 2 ^ 4300
  n : ∀ n ∈ ns, n.natAbs < 2 ^ 4300
  l : ns.length ≤ 1000
theorem Bd.sq {ns : List Int} {D : Int} (h : Bd ns D) (i : Nat) : Sq (sumI (ns.take i)) D := by
  refine ⟨h.p, ?_, ub h.d (by decide)⟩
  have e := sumI_bd (ns := ns.take i) fun m hm => h.n m (List.mem_of_mem_take hm)
  have l : (ns.take i).length ≤ 1000 := Nat.le_trans (List.length_take_le' _ _) h.l
  have : (2 : Nat) ^ 4400 = 2 ^ 100 * 2 ^ 4300 := by rw [← Nat.pow_add]
  rw [this]
  refine Nat.lt_of_le_of_lt e (Nat.mul_lt_mul_of_pos_right ?_ (Nat.pow_pos (by decide)))
  exact Nat.lt_of_le_of_lt l (by decide)
theorem Bd.one {ns : List Int} {D : Int} (h : Bd ns D) {n : Int} (hn : n ∈ ns) : Sq n D := ⟨h.p, ub (h.n n hn) (by decide), ub h.d (by decide)⟩
theorem num_mono (C : Addr) (D : Int) : Mono (fun H v n => NumQ C H v n D) := fun _ _ _ _ k h => h.same k
section
variable {P : Program} {w : World} {K : PySem.W.Frag} {mg : Str → Option Value} {base : Heap}

def spCW : Sp := fun vs H Q _ => ∃ (n : Int), vs = [.int n] ∧ 1 ≤ n ∧ n ≤ 1000 ∧ Q .non H
abbrev CalCW (P : Program) (w : World) (K : PySem.W.Frag) (mg : Str → Option Value) (base : Heap) := Cal P w K mg base 1 "check_worth" ["worth"] spCW
theorem ok_cw {tk : Tok} (gMW : mg "MOST_WORTH" = some (.int 1000 tk)) (D : Dfn K mg "check_worth" "check_worth" s_check_worth ["worth"]) : CalCW P w K mg base := by
  refine D.cal sc_check_worth (fun vs H Q E h => ?_) (fun f cdv A outer st H vs Q E hr h => ?_)
  · obtain ⟨n, rfl, _⟩ := h
    rfl
  · obtain ⟨n, rfl, h1, h2, q⟩ := h
    refine ⟨_, (pss_one (ps_if (pt_not (pt_chain op_le op_le pe_int (pv 0) (pe_glob (v := .int 1000) (by rfl) gMW ⟨_, rfl⟩))) (pss_one (ps_never)) pss_nil)), ?_⟩
    exact ⟨_, rfl, _, _, rfl, rfl, _, rfl, ifD (fun _ => ⟨_, _, rfl, rfl, _, rfl, ifN (fun h => absurd h2 h) (fun _ => q)⟩) (fun h => absurd h1 h)⟩
theorem fds_sum {cs : List Cls2} : ((cs.map (fun c => c.2))).sum = fds cs := rfl
def spCC : Sp := fun vs H Q _ => ∃ (p : Addr) (cs : List Cls2), vs = [.ref p] ∧ TAt H p cs ∧ ClsV cs ∧ ∀ H', Same H H' → Q .non H'
abbrev CalCC (P : Program) (w : World) (K : PySem.W.Frag) (mg : Str → Option Value) (base : Heap) := Cal P w K mg base 2 "_check_classes" ["classes"] spCC
theorem ok_cc {G : Addr} {mc : Value} {tk tk2 : Tok} (B : Blt mg) (TG : GrC K mg G) (CR : ClX.CRead K G mc) (C12 : ClX.CVal K G mc "MOST_FIELDS" (.int 12) (.int 12 tk)) (gMC : mg "MOST_CLASSES" = some (.int 4 tk2)) (C_check_worth : CalCW P w K mg base) (D : Dfn K mg "_check_classes" "_check_classes" s_check_classes ["classes"]) : CalCC P w K mg base := by
  refine D.cal sc_check_classes (fun vs H Q E h => ?_) (fun f cdv A outer st H vs Q E hr h => ?_)
  · obtain ⟨p, cs, rfl, _⟩ := h
    rfl
  · obtain ⟨p, cs, rfl, ⟨vs, hp, hlen, hat⟩, ok, q⟩ := h
    have l1 := ok.l1
    have l4 := ok.l4
    refine ⟨_, (pss_cons (ps_if (pt_not (pt_truth (pv 0) (by intro _; rfl))) (pss_one (ps_never)) pss_nil)
      (pss_cons (ps_if (pt_cmpR op_gt (pe_callB call_len_seq (by rfl) B.len PySem.boot_len (pa_cons (pv 0) pa_nil)) (pe_glob (v := .int 4) (by rfl) gMC ⟨_, rfl⟩) (nomark _)) (pss_one (ps_never)) pss_nil)
      (pss_cons (ps_for PassesOwn.never rfl (pi_tup (pv 0)) (pg_tup rfl (pgs_cons (pg_name (i := 1) sc_check_classes.nd rfl (Or.inl rfl)) (pgs_cons (pg_name (i := 2) sc_check_classes.nd rfl (Or.inl rfl)) pgs_nil))) (pss_cons (ps_expr (pe_cal C_check_worth (hr.mono (by decide)) (pa_cons (pv 1) pa_nil)))
      (pss_one (ps_if (pt_cmpR op_lt (pv 2) (pe_int) (nomark _)) (pss_one (ps_never)) pss_nil))))
      (pss_one (ps_if (pt_cmpR op_gt (pe_callB (cr_sum rfl) (by rfl) B.sum (by decide +kernel) (pa_cons (pe_lc (own := [("_", 3), ("many", 2)]) (g := (gTup K 2 (gCons (gName 3) (gCons (gName 2) gNil)))) rfl sc_check_classes.nd (pi_tup (pv 0)) (blkOk_by (N := ["classes", "worth", "many", "_"]) (sc := defScope s_check_classes) (by decide +kernel)) (fun _ _ _ _ _ => (pg_tup rfl (pgs_cons (pg_name (i := 3) sc_check_classes.nd rfl (Or.inl rfl)) (pgs_cons (pg_name (i := 2) sc_check_classes.nd rfl (Or.inl rfl)) pgs_nil)))) (fun _ _ _ _ _ => pts_nil) (fun _ _ _ _ _ => (pv 2))) pa_nil)) (ClX.pe_cval (pe_glob (v := .ref _) (by rfl) TG.g rfl)) (nomark _)) (pss_one (ps_never)) pss_nil))))), ?_⟩
    refine ⟨_, rfl, _, .inr (.inl ⟨_, SqT.of hp, rfl⟩), ?_⟩
    rw [show vs.isEmpty = false by cases vs with | nil => (rw [← hlen] at l1; exact absurd l1 (by decide)) | cons _ _ => rfl]
    refine iteF ?_
    refine ⟨_, rfl, _, _, rfl, .inr (SqT.of hp), _, _, rfl, rfl, _, rfl, ifD (fun h => absurd h (by omega)) (fun _ => ?_)⟩
    refine ⟨_, rfl, p, rfl, ⟨_, SqT.of hp⟩, for_tup (K := K) (a := p) (xs := vs) (fun i σ H' => H' = H ∧ ∃ o1 o2 : Option V, σ = [some (.ref p), o1, o2, none]) ⟨rfl, none, none, rfl⟩ (fun i σ H' _ h => by rw [h.1]; exact SqT.of hp) ?_ ?_⟩
    · rintro i x σ H' hx ⟨rfl, o1, o2, rfl⟩
      have hi : i < vs.length := (List.getElem?_eq_some_iff.mp hx).1
      have hc : cs[i]? = some cs[i] := List.getElem?_eq_getElem (by omega)
      obtain ⟨v, hv, t, rfl, ht⟩ := hat i _ hc
      rw [hx] at hv
      cases hv
      obtain ⟨c1, c2, c3⟩ := ok.at_ _ (List.mem_of_getElem? hc)
      refine ⟨t, _, rfl, SqT.of ht, rfl, _, _, rfl, _, _, rfl, rfl, ?_⟩
      exact ⟨_, rfl, _, rfl, c1, c2, _, rfl, _, _, rfl, rfl, _, rfl, ifD (fun h => absurd h (by omega)) (fun _ => ⟨rfl, _, _, rfl⟩)⟩
    rintro σ Hz ⟨rfl, o1, o2, rfl⟩
    refine ⟨_, rfl, p, rfl, ⟨_, SqT.of hp⟩, fun D hD => lc_tup (K := K) (a := p) (xs := vs) (fun i H' => Same Hz H' ∧ H' D = some (.lst (((cs.take i).map (fun c => c.2)).map V.int))) ⟨same_upd hD, upd_same⟩ (fun i H' _ h => SqT.of (h.1 _ _ hp)) ?_ ?_⟩
    · rintro i x H' hx ⟨s1, hD1⟩
      have hi : i < vs.length := (List.getElem?_eq_some_iff.mp hx).1
      have hc : cs[i]? = some cs[i] := List.getElem?_eq_getElem (by omega)
      obtain ⟨v, hv, t, rfl, ht⟩ := hat i _ hc
      rw [hx] at hv
      cases hv
      refine ⟨t, _, rfl, SqT.of (s1 _ _ ( ht)), rfl, _, _, rfl, _, _, rfl, rfl, rfl, ?_⟩
      refine ⟨_, rfl, _, hD1, ?_, same_late s1 hD, ?_⟩
      · rw [List.length_map, List.length_map, List.length_take]
        exact small1000 (by omega)
      · rw [upd_same, List.take_add_one, hc, List.map_append, List.map_append]
        rfl
    rintro H9 ⟨s1, hD1⟩
    rw [List.take_of_length_le (by omega)] at hD1

    exact ⟨_, _, rfl, SqL.of hD1, G, mc, _, _, rfl, CR, C12, _, _, rfl, rfl, _, rfl, ifD (fun h => absurd ok.sm (by have e : fds cs = (cs.map (fun c => c.2)).sum := rfl; omega)) (fun _ => q H9 s1)⟩

theorem clP_ins {G x dx : Addr} {H : Hp} {fs : List (Str × V)} {o : HO} {v : V} {c : Cls2} (h : ClP H v c) (hx : H x = some (.ins G dx fs)) : ClP (upd H x o) v c := by
  obtain ⟨t, e, ht⟩ := h
  exact ⟨t, e, by rw [upd_ne (ne_of ht hx (by intro q; cases q))]; exact ht⟩
def spGI (G : Addr) : Sp := fun vs H Q _ => ∃ (x dx p : Addr) (cs : List Cls2), vs = [.ref x, .ref p] ∧ H x = some (.ins G dx []) ∧ TAt H p cs ∧ ClsV cs ∧ ∀ (M : Addr) (H' : Hp), H M = none → Keeps H H' x → H' x = some (.ins G dx (grf (fds cs) M)) → LAt ClP H' M cs → Q .non H'
def spGround (G : Addr) : Sp := fun vs H Q E => ∃ ws rest, vs = ws ++ rest ∧ ws.length = (["self"] : List Str).length ∧ rest.length ≤ sizeLine ∧ ∀ p, H p = Option.none → spGI G (ws ++ [V.ref p]) (upd H p (.tup rest)) Q E
theorem ok_gr_init {G fI : Addr} {oc kV dc pm cd ct : Value} {od an : Option Addr} {sl : Array (Option Value)} (B : Blt mg) (TG : GrC K mg G) (lk : K.lookup fI = some ⟨oc, od, .func (PySem.W.fnOf "__init__" "Ground.__init__" (defArgs s_Ground_init) (defBody s_Ground_init) (defScope s_Ground_init) .none kV dc pm an cd ct), sl⟩) (hcd : PySem.W.codeIn K cd "Ground.__init__" = true) (C_check_classes : CalCC P w K mg base) :
    FnR P w K mg base CX0 3 fI (spGround G) := by
  refine StX.fn_star (ps := ["self"]) (pv := "classes") (N := ["self", "classes", "_", "many"]) (sp := spGI G) lk hcd sc_Ground_init StX.cxUp_none (StX.bind_star1 (B := fun us => bindArgs (PySem.W.fnOf "__init__" "Ground.__init__" (defArgs s_Ground_init) (defBody s_Ground_init) (defScope s_Ground_init) .none kV dc pm an cd ct) ⟨us, []⟩) (fun a => rfl) (fun a r rs => rfl)) (fun A outer st H vs Q E hr h => ?_)
  obtain ⟨x, dx, p, cs, rfl, hx, hp, ok, q⟩ := h
  have l4 := ok.l4
  refine ⟨_, (pss_cons (ps_expr (pe_cal C_check_classes (hr.mono (by decide)) (pa_cons (pv 1) pa_nil)))
      (pss_cons (ps_fld (pv 0) (pe_callTy call_list_of (by rfl) B.list (by decide +kernel) (pa_cons (pv 1) pa_nil)) rfl)
      (pss_one (ps_fld (pv 0) (pe_callB (cr_sum rfl) (by rfl) B.sum (by decide +kernel) (pa_cons (pe_lc (own := [("_", 2), ("many", 3)]) (g := (gTup K 2 (gCons (gName 2) (gCons (gName 3) gNil)))) rfl sc_Ground_init.nd (pi_tup (pv 1)) (blkOk_by (N := ["self", "classes", "_", "many"]) (sc := defScope s_Ground_init) (by decide +kernel)) (fun _ _ _ _ _ => (pg_tup rfl (pgs_cons (pg_name (i := 2) sc_Ground_init.nd rfl (Or.inl rfl)) (pgs_cons (pg_name (i := 3) sc_Ground_init.nd rfl (Or.inl rfl)) pgs_nil)))) (fun _ _ _ _ _ => pts_nil) (fun _ _ _ _ _ => (pv 3))) pa_nil)) rfl)))), ?_⟩
  refine ⟨_, rfl, p, cs, rfl, hp, ok, fun H1 s1 => ?_⟩
  have hx1 := s1 _ _ hx
  obtain ⟨vs, hp1, hlen, hat⟩ := hp.same s1
  refine ⟨_, rfl, p, _, rfl, .inr (SqT.of hp1), fun M hM => ?_⟩
  have sM := same_upd (o := .lst vs) hM
  have hMn : H M = none := by
    cases e : H M with
    | none => rfl
    | some o =>
      rw [s1 _ _ e] at hM
      cases hM
  have hx2 := sM _ _ hx1
  refine ⟨_, rfl, x, G, dx, [], rfl, hx2, TG.cl, TG.nC, (by show 0 < 1000; decide), ?_⟩
  have hMx : M ≠ x := fun e => by
    rw [e, hx1] at hM
    cases hM
  have kx : Keeps H (upd (upd H1 M (.lst vs)) x (.ins G dx (putF "classes" (.ref M) []))) x := (same_keeps (s1.trans sM)).trans Keeps.upd
  have hp2 : upd (upd H1 M (.lst vs)) x (.ins G dx (putF "classes" (.ref M) [])) p = some (.tup vs) := by
    rw [upd_ne (ne_of hp1 hx1 (by intro q; cases q))]
    exact sM _ _ hp1
  have hM2 : upd (upd H1 M (.lst vs)) x (.ins G dx (putF "classes" (.ref M) [])) M = some (.lst vs) := by
    rw [upd_ne hMx, upd_same]
  have hat : ∀ (i : Nat) (c : Cls2), cs[i]? = some c → ∃ v, vs[i]? = some v ∧ ClP (upd (upd H1 M (.lst vs)) x (.ins G dx (putF "classes" (.ref M) []))) v c := fun i c hc => by
    obtain ⟨v, hv, r⟩ := hat i c hc
    exact ⟨v, hv, clP_ins (clP_mono _ _ _ _ sM r) hx2⟩
  have hx3 : upd (upd H1 M (.lst vs)) x (.ins G dx (putF "classes" (.ref M) [])) x = some (.ins G dx (putF "classes" (.ref M) [])) := upd_same
  generalize upd (upd H1 M (.lst vs)) x (.ins G dx (putF "classes" (.ref M) [])) = Hz at *
  refine ⟨_, rfl, p, rfl, ⟨_, SqT.of hp2⟩, fun D hD => lc_tup (K := K) (a := p) (xs := vs) (fun i H' => Same Hz H' ∧ H' D = some (.lst (((cs.take i).map (fun c => c.2)).map V.int))) ⟨same_upd hD, upd_same⟩ (fun i H' _ h => SqT.of (h.1 _ _ hp2)) ?_ ?_⟩
  · rintro i x H' hx ⟨s1, hD1⟩
    have hi : i < vs.length := (List.getElem?_eq_some_iff.mp hx).1
    have hc : cs[i]? = some cs[i] := List.getElem?_eq_getElem (by omega)
    obtain ⟨v, hv, t, rfl, ht⟩ := hat i _ hc
    rw [hx] at hv
    cases hv
    refine ⟨t, _, rfl, SqT.of (s1 _ _ ht), rfl, _, _, rfl, _, _, rfl, rfl, rfl, ?_⟩
    refine ⟨_, rfl, _, hD1, ?_, same_late s1 hD, ?_⟩
    · rw [List.length_map, List.length_map, List.length_take]
      exact small1000 (by omega)
    · rw [upd_same, List.take_add_one, hc, List.map_append, List.map_append]
      rfl
  rintro H9 ⟨s1, hD1⟩
  rw [List.take_of_length_le (by omega)] at hD1

  have hx9 := s1 _ _ hx3
  refine ⟨_, _, rfl, SqL.of hD1, _, rfl, x, G, dx, _, rfl, hx9, TG.cl, TG.nF, (by show 1 < 1000; decide), ?_⟩
  refine q M _ hMn ((kx.trans (same_keeps s1)).trans Keeps.upd) upd_same ⟨vs, by rw [upd_ne hMx]; exact s1 _ _ hM2, hlen, fun i c hc => ?_⟩
  obtain ⟨v, hv, r⟩ := hat i c hc
  exact ⟨v, hv, clP_ins (clP_mono _ _ _ _ s1 r) hx9⟩

def spIR : Sp := fun vs H Q _ => ∃ (t : Addr) (r : Rw) (m : Int), vs = [.ref t, .int m] ∧ H t = some (.tup (r.map V.int)) ∧ 1 ≤ m ∧ r.length ≤ 60 ∧ ∀ (b : Bool) (H' : Hp), Same H H' → (b = true ↔ Row m r) → Q (.bl b) H'
abbrev CalIR (P : Program) (w : World) (K : PySem.W.Frag) (mg : Str → Option Value) (base : Heap) := Cal P w K mg base 1 "_is_row" ["row", "many"] spIR
theorem ok_ir (B : Blt mg) (hZip : mg "zip" = none) (hAll : mg "all" = none) (D : Dfn K mg "_is_row" "_is_row" s_is_row ["row", "many"]) : CalIR P w K mg base := by
  refine D.cal sc_is_row (fun vs H Q E h => ?_) (fun f cdv A outer st H vs Q E hr h => ?_)
  · obtain ⟨t, r, m, rfl, _⟩ := h
    rfl
  · obtain ⟨t, r, m, rfl, ht, hm, hl, q⟩ := h
    refine ⟨_, (pss_cons (ps_if (PW.pt (pw_or (pt_cmpR op_ne (pe_callB call_len_seq (by rfl) B.len PySem.boot_len (pa_cons (pv 0) pa_nil)) (pv 1) (nomark _)) (pw_or1 (pt_cmpR op_lt (pe_ix ix_tup (pv 0) (pe_un un_neg (pe_int)) (fun _ _ => rfl)) (pe_int) (nomark _))))) (pss_one (ps_ret (pe_bl))) pss_nil)
      (pss_one (ps_ret (pe_callB (cr_all rfl) (by rfl) hAll (by decide +kernel) (pa_cons (pe_lc (own := [("greater", 2), ("less", 3)]) (g := (gTup K 2 (gCons (gName 2) (gCons (gName 3) gNil)))) rfl sc_is_row.nd (RZ.pi_zipA (by rfl) hZip (pa_cons (pv 0) (pa_cons (pe_slice Zm.sl_tupH (pv 0) (po_some pe_int) po_none) pa_nil))) (blkOk_by (N := ["row", "many", "greater", "less"]) (sc := defScope s_is_row) (by decide +kernel)) (fun _ _ _ _ _ => (pg_tup rfl (pgs_cons (pg_name (i := 2) sc_is_row.nd rfl (Or.inl rfl)) (pgs_cons (pg_name (i := 3) sc_is_row.nd rfl (Or.inl rfl)) pgs_nil)))) (fun _ _ _ _ _ => pts_nil) (fun _ _ _ _ _ => (pe_cmpR op_ge (pv 2) (pv 3) (nomark _)))) pa_nil))))), ?_⟩
    have lm : (r.map V.int).length = r.length := List.length_map ..
    refine ⟨_, rfl, _, _, rfl, .inr (SqT.of ht), _, rfl, rfl, _, rfl, ifNE (fun h => ?_) (fun h => ?_)⟩
    · rw [lm] at h
      exact q false H (Same.refl _) ⟨nofun, fun k => absurd k.len h⟩
    rw [lm] at h
    refine ⟨_, rfl, _, rfl, _, _, _, _, rfl, rfl, SqT.of ht, last_at (by omega), _, _, rfl, rfl, _, rfl, ifD (fun h2 => ?_) (fun h2 => ?_)⟩
    · exact q false H (Same.refl _) ⟨nofun, fun k => absurd k.pos (by omega)⟩
    refine ⟨_, rfl, _, rfl, _, rfl, ?_⟩
    dsimp only [tNoPart]
    refine ⟨t, _, rfl, ht, fun u H1 s1 hu => ?_⟩
    have s1 : Same H H1 := s1
    have hu : H1 u = some (.tup ((r.drop 1).map V.int)) := by
      rw [hu, cut_ints, show (some (1 : Int)) = some ((1 : Nat) : Int) from rfl, HT.sIx_nat, HT.sIx_none, Nat.min_eq_left (by omega), List.take_of_length_le (by rw [List.length_drop]; exact Nat.le_refl _)]
    have ht1 := s1 _ _ ht
    have ld : ((r.drop 1).map V.int).length = r.length - 1 := by rw [List.length_map, List.length_drop]
    have la := adj_len (r := r)
    refine ⟨t, u, _, _, rfl, .inr ⟨SqT.of ht1, SqT.of hu, fun D hD => lc_it (Zm.walk_zipTm (K := K) (a := t) (b := u) (n := r.length - 1) (by omega)) (fun i H' => Same H1 H' ∧ H' D = some (.lst (((adj r).take i).map V.bl))) ⟨same_upd hD, upd_same⟩ (fun i H' _ h => ⟨SqT.of (h.1 _ _ ht1), SqT.of (h.1 _ _ hu)⟩) ?_ ?_⟩⟩
    · rintro i vv H2 H3 hi ⟨s2, hD2⟩ ⟨tp, x, y, rfl, htp, rfl, ex, ey⟩
      obtain ⟨zx, hzx, rfl⟩ := int_of_map ex
      obtain ⟨zy, hzy, rfl⟩ := int_of_map ey
      have st := same_upd (o := .tup [.int zx, .int zy]) htp
      refine ⟨tp, _, rfl, SqT.of upd_same, rfl, _, _, rfl, _, _, rfl, rfl, rfl, ?_⟩
      refine ⟨_, rfl, _, rfl, _, _, rfl, rfl, _, st _ _ hD2, ?_, same_late (s2.trans st) hD, ?_⟩
      · rw [List.length_map, List.length_take]
        exact small1000 (by omega)
      · rw [upd_same, List.take_add_one, adj_at hzx hzy, List.map_append]
        rfl
    rintro H2 ⟨s2, hD2⟩
    rw [List.take_of_length_le (by omega)] at hD2
    refine ⟨_, _, rfl, SqL.of hD2, q _ H2 (s1.trans s2) ?_⟩
    rw [adj_iff]
    exact ⟨fun k => ⟨h, by omega, k⟩, fun k => k.dec⟩
def spTo (G BS : Addr) : Sp := fun vs H Q E => ∃ (x p : Addr) (cs : List Cls2) (rs : List Rw), vs = [.ref x, .ref p] ∧ GrAt G H x cs ∧ ClsV cs ∧ SpA H p rs ∧ Bnd rs ∧ (¬ Due cs rs → ∀ H', Same H H' → E (.ref BS) none H') ∧ (Due cs rs → ∀ H', Same H H' → Q (.int (tot rs)) H')
theorem ok_to {G BS fA : Addr} {fd : FuncData} {mc : Value} {tk : Tok} (B : Blt mg) (hZip : mg "zip" = none) (TG : GrC K mg G) (CR : ClX.CRead K G mc) (C40 : ClX.CVal K G mc "MOST_FORCES" (.int 40) (.int 40 tk)) (TS : ExC K mg "BadSpread" BS) (C_is_row : CalIR P w K mg base) (F : Fun K "total" "Ground.total" s_Ground_total fA fd) : FnOk P w K mg base (L2.CX P w) 2 fA fd ["self", "spread"] (spTo G BS) := by
  refine F.okX sc_Ground_total (fun vs H Q E h => ?_) (fun cdv A outer st H vs Q E hr h => ?_)
  · obtain ⟨x, p, cs, rs, rfl, _⟩ := h
    rfl
  · obtain ⟨x, p, cs, rs, rfl, ⟨dx, M, hx, hM⟩, ok, ⟨us, hp, prs⟩, ⟨b1, b2⟩, kE, kQ⟩ := h
    obtain ⟨vs, hM, pws⟩ := hM
    have pws : PG (ClP H) vs cs := pws
    have l4 := ok.l4
    have lv := pws.1
    have lu := prs.1
    refine ⟨_, (pss_cons (ps_if (pt_cmpR op_ne (pe_callB call_len_seq (by rfl) B.len PySem.boot_len (pa_cons (pv 1) pa_nil)) (pe_callB call_len_seq (by rfl) B.len PySem.boot_len (pa_cons (pe_fld (pv 0) rfl) pa_nil)) (nomark _)) (pss_one (ps_raise rfl (takes_of rfl rfl rfl rfl) (pmk_own PySem.F.excBase_ValueError TS.x TS.g TS.k (raises_own TS.b TS.t) rfl))) pss_nil)
      (pss_cons (ps_for (passes_of rfl) rfl (Zm.pi_zipM (by rfl) hZip (pa_cons (pv 1) (pa_cons (pe_fld (pv 0) rfl) pa_nil))) (pg_tup rfl (pgs_cons (pg_name (i := 2) sc_Ground_total.nd rfl (Or.inl rfl)) (pgs_cons (pg_tup rfl (pgs_cons (pg_name (i := 3) sc_Ground_total.nd rfl (Or.inl rfl)) (pgs_cons (pg_name (i := 4) sc_Ground_total.nd rfl (Or.inl rfl)) pgs_nil))) pgs_nil))) (pss_one (ps_if (pt_not (pt_val (pe_cal C_is_row (hr.mono (by decide)) (pa_cons (pv 2) (pa_cons (pv 4) pa_nil))))) (pss_one (ps_raise rfl (takes_of rfl rfl rfl rfl) (pmk_own PySem.F.excBase_ValueError TS.x TS.g TS.k (raises_own TS.b TS.t) rfl))) pss_nil)))
      (pss_cons (ps_set (i := 5) sc_Ground_total.nd rfl (Or.inl rfl) (pe_callB (cr_sum rfl) (by rfl) B.sum (by decide +kernel) (pa_cons (pe_lc (own := [("row", 2)]) (g := gName 2) rfl sc_Ground_total.nd (pi_tup (pv 1)) (blkOk_by (N := ["self", "spread", "row", "_", "many", "forces"]) (sc := defScope s_Ground_total) (by decide +kernel)) (fun _ _ _ _ _ => pg_name (i := 2) sc_Ground_total.nd rfl (Or.inl rfl)) (fun _ _ _ _ _ => pts_nil) (fun _ _ _ _ _ => (pe_callB (sumT_K (K := K) rfl rfl) (by rfl) B.sum (by decide +kernel) (pa_cons (pv 2) pa_nil)))) pa_nil)))
      (pss_cons (ps_if (pt_cmpR op_gt (pv 5) (ClX.pe_cval (pe_glob (v := .ref _) (by rfl) TG.g rfl)) (nomark _)) (pss_one (ps_raise rfl (takes_of rfl rfl rfl rfl) (pmk_own PySem.F.excBase_ValueError TS.x TS.g TS.k (raises_own TS.b TS.t) rfl))) pss_nil)
      (pss_one (ps_ret (pv 5))))))), ?_⟩
    refine ⟨_, rfl, _, _, rfl, .inr (SqT.of hp), _, rfl, x, G, dx, _, _, rfl, hx, TG.cl, TG.nC, grf_classes _ _, _, _, rfl, .inl (SqL.of hM), rfl, _, rfl, ifNE (fun h => ?_) (fun h => ?_)⟩
    · exact kE (fun d => h (by have := d.1.1; omega)) H (Same.refl _)
    have hl : rs.length = cs.length := by omega
    refine ⟨_, rfl, _, rfl, x, G, dx, _, _, rfl, hx, TG.cl, TG.nC, grf_classes _ _, p, M, _, _, rfl, SqT.of hp, SqL.of hM, for_it (Zm.walk_zipM (K := K) (a := p) (b := M) (n := rs.length) (xs := us) (ys := vs) (by omega) (by omega)) (fun i σ H' => ∃ o1 o2 o3 : Option V, σ = [some (.ref x), some (.ref p), o1, o2, o3, none] ∧ Same H H' ∧ ∀ (j : Nat) (c : Cls2) (r : Rw), j < i → cs[j]? = some c → rs[j]? = some r → Row c.2 r) ⟨none, none, none, rfl, Same.refl _, fun j c r hj => absurd hj (by omega)⟩ (fun i σ H' _ h => by obtain ⟨_, _, _, _, s, _⟩ := h; exact ⟨SqT.of (s _ _ hp), SqL.of (s _ _ hM)⟩) ?_ ?_⟩
    · rintro i vv σ H1 H2 hi ⟨o1, o2, o3, rfl, s1, hrow⟩ ⟨tp, u, v, rfl, htp, rfl, eu, ev⟩
      have hci : cs[i]? = some cs[i] := List.getElem?_eq_getElem (by omega)
      have hri : rs[i]? = some rs[i] := List.getElem?_eq_getElem hi
      obtain ⟨u', hu', t, rfl, ht⟩ := prs.2 i _ hri
      obtain ⟨v', hv', q, rfl, hq⟩ := pws.2 i _ hci
      rw [show us[i]? = some u from eu] at hu'
      rw [show vs[i]? = some v from ev] at hv'
      cases hu'
      cases hv'
      have st := same_upd (o := .tup [.ref t, .ref q]) htp
      have s2 := s1.trans st
      have c3 := (ok.at_ _ (List.mem_of_getElem? hci)).2.2
      have r60 := b2 _ (List.mem_of_getElem? hri)
      refine ⟨tp, _, rfl, SqT.of upd_same, rfl, _, _, rfl, _, _, rfl, q, _, rfl, SqT.of (s2 _ _ hq), rfl, _, _, rfl, _, _, rfl, rfl, rfl, ?_⟩
      refine ⟨_, rfl, _, rfl, t, rs[i], _, rfl, s2 _ _ ht, c3, r60, fun b H3 s3 hb => ?_⟩
      cases b with
      | false => exact ⟨_, rfl, iteT (kE (fun d => absurd (hb.mpr (d.1.2 i _ _ hci hri)) nofun) H3 (s2.trans s3))⟩
      | true =>
        refine ⟨_, rfl, iteF ⟨_, _, _, rfl, s2.trans s3, fun j c r hj hc hr => ?_⟩⟩
        by_cases e : j = i
        · subst e
          rw [hci] at hc
          rw [hri] at hr
          cases hc
          cases hr
          exact hb.mp rfl
        · exact hrow j c r (by omega) hc hr
    rintro σ H1 ⟨o1, o2, o3, rfl, s1, hrow⟩
    have rok : RowsOk cs rs := ⟨hl, fun i c r hc hr => hrow i c r (List.getElem?_eq_some_iff.mp hr).1 hc hr⟩
    refine ⟨_, rfl, p, rfl, ⟨_, SqT.of (s1 _ _ hp)⟩, fun D hD => lc_tup (K := K) (a := p) (xs := us) (fun i H' => Same H1 H' ∧ H' D = some (.lst (((rs.take i).map List.sum).map V.int))) ⟨same_upd hD, upd_same⟩ (fun i H' _ h => SqT.of (h.1 _ _ (s1 _ _ hp))) ?_ ?_⟩
    · rintro i y H' hy ⟨s2, hD2⟩
      have hi : i < us.length := (List.getElem?_eq_some_iff.mp hy).1
      have hri : rs[i]? = some rs[i] := List.getElem?_eq_getElem (by omega)
      obtain ⟨u', hu', t, rfl, ht⟩ := prs.2 i _ hri
      rw [hy] at hu'
      cases hu'
      refine ⟨rfl, _, rfl, t, rs[i], rfl, SqT.of (s2 _ _ (s1 _ _ ht)), _, hD2, ?_, same_late s2 hD, ?_⟩
      · rw [List.length_map, List.length_map, List.length_take]
        exact small1000 (by omega)
      · rw [upd_same, List.take_add_one, hri, List.map_append, List.map_append]
        rfl
    rintro H2 ⟨s2, hD2⟩
    rw [List.take_of_length_le (by omega)] at hD2
    refine ⟨_, _, rfl, SqL.of hD2, ?_⟩
    have et : (rs.map List.sum).sum = tot rs := rfl
    rw [et]
    exact ⟨_, rfl, G, mc, _, _, rfl, CR, C40, _, _, rfl, rfl, _, rfl, ifD (fun h => kE (fun d => absurd d.2 (by omega)) H2 (s1.trans s2)) (fun h => ⟨_, rfl, kQ ⟨rok, by omega⟩ H2 (s1.trans s2)⟩)⟩
def spTies (BN : Addr) : Sp := fun vs H Q E => ∃ (v : Int), vs = [.int v] ∧ ((v = -1 ∨ v = 0 ∨ v = 1) → ∀ H', Same H H' → Q .non H') ∧ (¬ (v = -1 ∨ v = 0 ∨ v = 1) → Ref E BN H "ties" v)
abbrev CalTies (P : Program) (w : World) (K : PySem.W.Frag) (mg : Str → Option Value) (base : Heap) (BN : Addr) := CalX P w K mg base 3 "check_ties" ["ties"] (spTies BN)
theorem ok_ties {BN : Addr} (TB : BnC K mg BN) (CE : CalE P w K mg base 1 BN) (D : Dfn K mg "check_ties" "check_ties" s_check_ties ["ties"]) : CalTies P w K mg base BN := by
  refine D.calX sc_check_ties (fun vs H Q E h => ?_) (fun f cdv A outer st H vs Q E hr h => ?_)
  · obtain ⟨v, rfl, _⟩ := h
    rfl
  · obtain ⟨v, rfl, k1, k2⟩ := h
    have hr0 : Room 2 _ := hr
    refine ⟨_, (pss_one (ps_if (pt_cmpR op_notIn_seq (pv 0) (pe_tup (pa_cons (pe_un un_neg pe_int) (pa_cons pe_int (pa_cons pe_int pa_nil)))) (by rfl)) (pss_one (ps_raise rfl (takes_of rfl rfl rfl rfl) (pmk_bn TB CE (hr0.mono (by decide)) (pa_cons pe_str (pa_cons (pv 0) pa_nil))))) pss_nil)), ?_⟩
    refine ⟨_, rfl, _, rfl, (by show 3 ≤ sizeLine; decide), fun t ht => ?_⟩
    refine ⟨t, _, rfl, .inr (SqT.of upd_same), rfl, rfl, _, rfl, ?_⟩
    show if (!inV (V.int v) [V.int (-1), V.int 0, V.int 1]) = true then _ else _
    by_cases h : v = -1 ∨ v = 0 ∨ v = 1
    · have e : inV (V.int v) [V.int (-1), V.int 0, V.int 1] = true := by
        rcases h with rfl | rfl | rfl <;> rfl
      rw [e]
      exact iteF (k1 h _ (same_upd ht))
    · have e : inV (V.int v) [V.int (-1), V.int 0, V.int 1] = false := by
        show ((-1 : Int) == v || ((0 : Int) == v || ((1 : Int) == v || false))) = false
        rw [beq_eq_false_iff_ne.mpr (show (-1 : Int) ≠ v by omega), beq_eq_false_iff_ne.mpr (show (0 : Int) ≠ v by omega), beq_eq_false_iff_ne.mpr (show (1 : Int) ≠ v by omega)]
        rfl
      rw [e]
      refine iteT ?_
      exact ⟨_, rfl, bn_made ((k2 h).same (same_upd ht))⟩
end
end L

set_option Elab.async false
set_option linter.all false
set_option maxRecDepth 100000
set_option maxHeartbeats 4000000
set_option pp.maxSteps 160
set_option pp.deepTerms false
namespace L
open PySem PySem.Spec PyProof.Rows L2 Fl
local macro_rules | `(tactic| walk_at "side") => `(tactic| first | (exact .inl ⟨by omega, by omega⟩) | (exact .inr ⟨by omega, by omega⟩) | (exact .inr ⟨by decide, by decide⟩) | (show (_ : Int) ≠ _; omega) | (exact ⟨by omega, by decide⟩) | (exact ⟨by decide, by decide, by decide⟩))
local macro_rules | `(tactic| walk_at "go") => `(tactic| repeat (first | refine ⟨_, rfl, ?_⟩ | refine ⟨_, _, rfl, rfl, ?_⟩ | refine .inl ⟨_, rfl, ?_⟩ | refine ⟨rfl, ?_⟩ | refine ⟨(by walk_at "side"), ?_⟩))
local macro_rules | `(tactic| walk_at "see") => `(tactic| (set_option pp.maxSteps 110 in set_option pp.deepTerms false in trace_state))
local macro_rules | `(tactic| walk_at "if") => `(tactic| first | refine ifE ?_ ?_ | refine ifNE ?_ ?_ | refine ifD ?_ ?_ | refine ifN ?_ ?_ | refine ifB ?_ ?_)
open Bx
section
variable {P : Program} {w : World} {K : PySem.W.Frag} {mg : Str → Option Value} {base : Heap}
def spAdded (C : Addr) : Sp := fun vs H Q _ => ∃ (L : Addr) (ns : List Int) (Dn : Int), vs = [.ref L] ∧ LAt (fun H v n => NumQ C H v n Dn) H L ns ∧ Bd ns Dn ∧ ∀ (z : Addr) (H' : Hp), Same H H' → RatQ C H' z (sumI ns) Dn → Q (.ref z) H'
abbrev CalAdded (P : Program) (w : World) (K : PySem.W.Frag) (mg : Str → Option Value) (base : Heap) (C : Addr) := Cal P w K mg base 4 "added" ["numbers"] (spAdded C)
theorem ok_added {C ZU gR : Addr} {fiA riA : Option Value} (B : Blt mg) (M1 : CalRatio P w K mg base C ZU [.int 1]) (hSF : PySem.W.selfFirst K C = true) (OAdd : OpOwn P w K mg base 3 C (PySem.dunder (Operator.info .Add).2) ["self", "other"] (spAdd C)) (hR : PySem.W.findIn K (.ref C) (dunderR (Operator.info .Add).2) = some (some (.ref gR)))
    (iAdd : PySem.W.findIn K (.type "int") (PySem.dunder (Operator.info .Add).2) = some fiA) (jAdd : PySem.W.findIn K (.type "int") (dunderR (Operator.info .Add).2) = some riA) (si : PySem.W.subIn K (.type "int") (.ref C) = some false)
    (Df : Dfn K mg "added" "added" s_added ["numbers"]) : CalAdded P w K mg base C := by
  refine Df.cal sc_added (fun vs H Q E h => ?_) (fun fA cdv A outer st H vs Q E hr h => ?_)
  · obtain ⟨L, ns, Dn, rfl, _⟩ := h
    rfl
  · obtain ⟨L, ns, Dn, rfl, hL, bd, k⟩ := h
    have nD : Dn ≠ 0 := by have := bd.p; omega
    refine ⟨_, (pss_cons (ps_set (i := 1) sc_added.nd rfl (Or.inl rfl) (pe_mk M1 (hr.mono (by decide)) (pa_cons (pe_int) pa_nil)))
      (pss_cons (ps_for PassesOwn.never rfl (pi_list (pv 0)) (pg_name (i := 2) sc_added.nd rfl (Or.inl rfl)) (pss_one (ps_set (i := 1) sc_added.nd rfl (Or.inl rfl) (pe_op (op_or (op_oo (op := .Add) OAdd hSF (hr.mono (by decide))) (op_oi (op := .Add) OAdd hSF hR (.inr ⟨_, rfl⟩) iAdd jAdd si (hr.mono (by decide)))) (pv 1) (pv 2)))))
      (pss_one (ps_ret (pv 1))))), ?_⟩
    refine fun x dx nx ndx ne => ⟨x, dx, 0, 1, rfl, upd_same, by decide +kernel, fun _ H1 hx hk => ⟨rfl, ?_⟩, fun h => absurd h (by decide)⟩
    have s1 := made nx ndx hk
    have hx0 : RatQ C H1 x 0 Dn := RatQ.of (t := 0) (u := 1) ⟨dx, hx⟩ (by decide) nD (by omega)
    obtain ⟨vs, hvs, hlen, hall⟩ := hL
    refine ⟨_, rfl, L, rfl, ⟨_, SqL.of (s1 _ _ hvs)⟩, for_list (K := K) (a := L) (xs := vs) (fun i σ' H' => Same H H' ∧ ∃ (x : Addr) (v : Option V), RatQ C H' x (sumI (ns.take i)) Dn ∧ σ' = [some (.ref L), some (.ref x), v])
      ⟨s1, x, none, hx0, rfl⟩ (fun i σ' H' _ h => SqL.of (h.1 _ _ hvs)) ?_ ?_⟩
    · rintro i y σ' H' hy ⟨s, x, v, hx, rfl⟩
      obtain ⟨n, hn⟩ := item hlen hy
      obtain ⟨y', hy', hq⟩ := hall i n hn
      rw [hy] at hy'
      cases hy'
      refine ⟨_, rfl, _, rfl, add_q hx (hq.same s) (bd.sq i) (bd.one (List.mem_of_getElem? hn)) fun z H2 s2 hz => ?_⟩
      refine ⟨s.trans s2, z, _, ?_, rfl⟩
      rw [take_snoc hn, sumI_app]
      show RatQ C H2 z (sumI (ns.take i) + (n + 0)) Dn
      rw [Int.add_zero]
      exact hz
    · rintro σ' H' ⟨s, x, v, hx, rfl⟩
      rw [hlen, List.take_length] at hx
      exact ⟨_, rfl, k x H' s hx⟩

def spPG : Sp := fun vs H Q _ => ∃ (a b : Addr) (xs ys : Rw) (v : Int), vs = [.ref a, .ref b, .int v] ∧ H a = some (.tup (xs.map V.int)) ∧ H b = some (.tup (ys.map V.int)) ∧ Q (.int (pairs v xs ys)) H
abbrev CalPG (P : Program) (w : World) (K : PySem.W.Frag) (mg : Str → Option Value) (base : Heap) := Cal P w K mg base 1 "_pairs_gain" ["row", "facing", "ties"] spPG
theorem ok_pg (D : Dfn K mg "_pairs_gain" "_pairs_gain" s_pairs_gain ["row", "facing", "ties"]) : CalPG P w K mg base := by
  refine D.cal sc_pairs_gain (fun vs H Q E h => ?_) (fun f cdv A outer st H vs Q E hr h => ?_)
  · obtain ⟨a, b, xs, ys, v, rfl, _⟩ := h
    rfl
  · obtain ⟨a, b, xs, ys, v, rfl, ha, hb, q⟩ := h
    have lx : (xs.map V.int).length = xs.length := List.length_map ..
    have ly : (ys.map V.int).length = ys.length := List.length_map ..
    refine ⟨_, (pss_cons (ps_set (i := 3) sc_pairs_gain.nd rfl (Or.inl rfl) (pe_int))
      (pss_cons (ps_for PassesOwn.never rfl (pi_tup (pv 0)) (pg_name (i := 4) sc_pairs_gain.nd rfl (Or.inl rfl)) (pss_one (ps_for PassesOwn.never rfl (pi_tup (pv 1)) (pg_name (i := 5) sc_pairs_gain.nd rfl (Or.inl rfl)) (pss_one (ps_if (pt_cmpR op_eq (pv 4) (pv 5) (nomark _)) (pss_one (ps_set (i := 3) sc_pairs_gain.nd rfl (Or.inl rfl) (pe_op op_add (pv 3) (pv 2)))) (pss_one (ps_set (i := 3) sc_pairs_gain.nd rfl (Or.inl rfl) (pe_op op_add (pv 3) (pe_ifExp (pt_cmpR op_gt (pv 4) (pv 5) (nomark _)) (pe_int) (pe_un un_neg (pe_int)))))))))))
      (pss_one (ps_ret (pv 3))))), ?_⟩
    refine ⟨_, rfl, a, rfl, ⟨_, SqT.of ha⟩, for_tup (K := K) (a := a) (xs := xs.map V.int) (fun i σ H' => H' = H ∧ ∃ o1 o2 : Option V, σ = [some (.ref a), some (.ref b), some (.int v), some (.int (pairs v (xs.take i) ys)), o1, o2]) ⟨rfl, none, none, rfl⟩ (fun i σ H' _ h => by rw [h.1]; exact SqT.of ha) ?_ ?_⟩
    · rintro i xv σ H' hx ⟨rfl, o1, o2, rfl⟩
      obtain ⟨x, hxi, rfl⟩ := int_of_map hx
      refine ⟨_, rfl, b, rfl, ⟨_, SqT.of hb⟩, for_tup (K := K) (a := b) (xs := ys.map V.int) (fun j σ H'' => H'' = H' ∧ ∃ o2 : Option V, σ = [some (.ref a), some (.ref b), some (.int v), some (.int (pairs v (xs.take i) ys + gsum v x (ys.take j))), some (.int x), o2]) ⟨rfl, o2, by rw [show pairs v (xs.take i) ys + gsum v x (ys.take 0) = pairs v (xs.take i) ys from Int.add_zero _]; rfl⟩ (fun i σ H' _ h => by rw [h.1]; exact SqT.of hb) ?_ ?_⟩
      · rintro j yv σ H'' hy ⟨rfl, o2, rfl⟩
        obtain ⟨y, hyj, rfl⟩ := int_of_map hy
        have e := gsum_take (v := v) (x := x) hyj
        refine ⟨_, rfl, _, rfl, rfl, _, rfl, ifE (fun h => ?_) (fun h => ?_)⟩
        · have e2 : outv v x y = v := by unfold outv; rw [if_pos h]
          refine ⟨_, rfl, _, rfl, _, _, rfl, rfl, rfl, some (.int y), ?_⟩
          rw [e, e2, ← Int.add_assoc]
          rfl
        · refine ⟨_, rfl, _, rfl, _, rfl, _, _, rfl, rfl, _, rfl, ifD (fun h2 => ?_) (fun h2 => ?_)⟩
          · have e2 : outv v x y = 1 := by unfold outv; rw [if_neg h, if_pos h2]
            refine ⟨_, _, rfl, rfl, rfl, some (.int y), ?_⟩
            rw [e, e2, ← Int.add_assoc]
            rfl
          · have e2 : outv v x y = -1 := by unfold outv; rw [if_neg h, if_neg h2]
            refine ⟨_, rfl, _, _, rfl, rfl, rfl, some (.int y), ?_⟩
            rw [e, e2, ← Int.add_assoc]
            rfl
      · rintro σ H'' ⟨rfl, o2, rfl⟩
        rw [ly, List.take_length, ← pairs_take hxi]
        exact ⟨rfl, _, _, rfl⟩
    · rintro σ H' ⟨rfl, o1, o2, rfl⟩
      rw [lx, List.take_length]
      exact ⟨_, rfl, q⟩
theorem numq_lst {C : Addr} {H : Hp} {L : Addr} {xs ys : List V} {v : V} {n m : Int} (h : NumQ C H v n m) (hL : H L = some (.lst xs)) : NumQ C (upd H L (.lst ys)) v n m := by
  rcases h with h | ⟨x, e, dx, hx⟩
  · exact .inl h
  · exact .inr ⟨x, e, dx, by rw [upd_ne (ne_of hx hL (by intro q; cases q))]; exact hx⟩
theorem nums_snoc {C : Addr} {D : Int} {H : Hp} {L : Addr} {vs : List V} {ns : List Int} {v : V} {n : Int} (hL : H L = some (.lst vs)) (hA : LAt (fun H v n => NumQ C H v n D) H L ns) (hv : NumQ C H v n D) : LAt (fun H v n => NumQ C H v n D) (upd H L (.lst (vs ++ [v]))) L (ns ++ [n]) := by
  obtain ⟨us, h1, h2, h3⟩ := hA
  rw [hL] at h1
  cases h1
  have h : PG (fun v n => NumQ C H v n D) vs ns := ⟨h2, h3⟩
  exact ⟨vs ++ [v], upd_same, (pg_app h (pg_one hv)).imp fun u r h => numq_lst (ys := vs ++ [v]) h hL⟩
abbrev Tri3 (v : Int) : Prop := v = -1 ∨ v = 0 ∨ v = 1
def spSG (G C BS BN : Addr) : Sp := fun vs H Q E => ∃ (x p q : Addr) (cs : List Cls2) (rs ss : List Rw) (v : Int), vs = [.ref x, .ref p, .ref q, .int v] ∧ GrAt G H x cs ∧ ClsV cs ∧ SpA H p rs ∧ SpA H q ss ∧ Bnd rs ∧ Bnd ss ∧ (¬ Tri3 v → Ref E BN H "ties" v) ∧ (Tri3 v → ¬ (Due cs rs ∧ Due cs ss) → ∀ H', Same H H' → E (.ref BS) none H') ∧
  (Tri3 v → Due cs rs → Due cs ss → ∀ (z : Addr) (H' : Hp), Same H H' → RatQ C H' z (sumI (gns v cs rs ss)) 27720 → Q (.ref z) H')
theorem ok_sg {G C ZU BS BN fA : Addr} {fd : FuncData} (B : Blt mg) (hZip : mg "zip" = none) (TG : GrC K mg G) (M2 : CalRatio P w K mg base C ZU []) (TO : Bx.OwnX P w K mg base 2 G "total" ["self", "spread"] (spTo G BS)) (C_check_ties : CalTies P w K mg base BN) (C_added : CalAdded P w K mg base C) (C_pairs_gain : CalPG P w K mg base)
    (F : FunD K "spread_gain" "spread_gain" (defArgs s_spread_gain) (defBody s_spread_gain) (defScope s_spread_gain) [] [("ties", .int 0)] fA fd) : FnOk P w K mg base (L2.CX P w) 5 fA fd ["ground", "one", "other", "ties"] (spSG G C BS BN) := by
  refine F.ok sc_spread_gain (fun vs H Q E h => ?_) (fun cdv A outer st H vs Q E hr h => ?_)
  · obtain ⟨x, p, q, cs, rs, ss, v, rfl, _⟩ := h
    rfl
  · obtain ⟨x, p, q, cs, rs, ss, v, rfl, hg, ok, hp, hq, b1, b2, k1, k2, k3⟩ := h
    refine ⟨_, (pss_cons (ps_expr (pe_calS C_check_ties (takes_of rfl rfl rfl rfl) (hr.mono (by decide)) (pa_cons (pv 3) pa_nil)))
      (pss_cons (ps_expr (Bx.pe_methX TO TG.cl (fun σ => passAt (takes_of rfl rfl rfl rfl) σ) (hr.mono (by decide)) (pv 0) (pa_cons (pv 1) pa_nil)))
      (pss_cons (ps_expr (Bx.pe_methX TO TG.cl (fun σ => passAt (takes_of rfl rfl rfl rfl) σ) (hr.mono (by decide)) (pv 0) (pa_cons (pv 2) pa_nil)))
      (PSs.nox (pss_cons (ps_set (i := 4) sc_spread_gain.nd rfl (Or.inl rfl) (pe_lst pa_nil))
      (pss_cons (ps_for PassesOwn.never rfl (Zm.pi_zip3 (by rfl) hZip (pa_cons (pe_fld (pv 0) rfl) (pa_cons (pv 1) (pa_cons (pv 2) pa_nil)))) (pg_tup rfl (pgs_cons (pg_tup rfl (pgs_cons (pg_name (i := 5) sc_spread_gain.nd rfl (Or.inl rfl)) (pgs_cons (pg_name (i := 6) sc_spread_gain.nd rfl (Or.inl rfl)) pgs_nil))) (pgs_cons (pg_name (i := 7) sc_spread_gain.nd rfl (Or.inl rfl)) (pgs_cons (pg_name (i := 8) sc_spread_gain.nd rfl (Or.inl rfl)) pgs_nil)))) (pss_one (ps_expr (pe_bm PySem.F.plainAttrs_list PySem.F.slot_list_append PySem.F.type_list_append mt_append (pv 4) (pa_cons (pe_mk M2 (hr.mono (by decide)) (pa_cons (pe_op op_mul (pv 5) (pe_cal C_pairs_gain (hr.mono (by decide)) (pa_cons (pv 7) (pa_cons (pv 8) (pa_cons (pv 3) pa_nil))))) (pa_cons (pv 6) pa_nil))) pa_nil)))))
      (pss_one (ps_ret (pe_cal C_added (hr.mono (by decide)) (pa_cons (pv 4) pa_nil)))))))))), ?_⟩
    refine ⟨_, rfl, v, rfl, fun hv H1 s1 => ?_, fun hv => k1 hv⟩
    have hg1 := hg.same s1
    have hp1 := hp.same s1
    have hq1 := hq.same s1
    obtain ⟨dx, M, hx1, _⟩ := id hg1
    refine ⟨_, rfl, x, dx, _, rfl, hx1, grf_no _ _ (by decide +kernel) (by decide +kernel), _, rfl, x, p, cs, rs, rfl, hg1, ok, hp1, b1, fun n H2 s2 => k2 hv (fun d => n d.1) H2 (s1.trans s2), fun d1 H2 s2 => ?_⟩
    have s2 := s1.trans s2
    have hg2 := hg.same s2
    obtain ⟨dx2, M2', hx2, _⟩ := id hg2
    refine ⟨_, rfl, x, dx2, _, rfl, hx2, grf_no _ _ (by decide +kernel) (by decide +kernel), _, rfl, x, q, cs, ss, rfl, hg2, ok, hq.same s2, b2, fun n H3 s3 => k2 hv (fun d => n d.2) H3 (s2.trans s3), fun d2 H3 s3 => ?_⟩
    have s3 := s2.trans s3
    have hg3 := hg.same s3
    have hp3 := hp.same s3
    have hq3 := hq.same s3
    have k3 : ∀ (z : Addr) (H' : Hp), Same H3 H' → RatQ C H' z (sumI (gns v cs rs ss)) 27720 → Q (.ref z) H' := fun z H' s h => k3 hv d1 d2 z H' (s3.trans s) h
    clear k1 k2 s3 s2 s1 hg1 hp1 hq1 hg2 hx1 hx2 hg hp hq
    obtain ⟨dx, M, hx, hM⟩ := hg3
    obtain ⟨us, hp0, pu⟩ := hp3
    obtain ⟨ws, hq0, pw⟩ := hq3
    obtain ⟨vs, hM0, pc⟩ := hM
    have pc : PG (ClP H3) vs cs := pc
    have lc := pc.1
    have lu := pu.1
    have lw := pw.1
    have e1 := d1.1.1
    have e2 := d2.1.1
    have l4 := ok.l4
    refine ⟨(by show 0 ≤ sizeLine; decide), fun N hN => ?_⟩
    refine ⟨_, rfl, x, G, dx, _, _, rfl, same_upd hN _ _ hx, TG.cl, TG.nC, grf_classes _ _, _, rfl, _, rfl, M, p, q, _, _, _, rfl, SqL.of (same_upd hN _ _ hM0), SqT.of (same_upd hN _ _ hp0), SqT.of (same_upd hN _ _ hq0), for_it (Zm.walk_zip3 (K := K) (a := M) (b := p) (c := q) (n := cs.length) (xs := vs) (ys := us) (zs := ws) (by omega) (by omega) (by omega)) (fun i σ H' => ∃ o1 o2 o3 o4 : Option V, σ = [some (.ref x), some (.ref p), some (.ref q), some (.int v), some (.ref N), o1, o2, o3, o4] ∧ Same H3 H' ∧ LAt (fun H v n => NumQ C H v n 27720) H' N ((List.range i).map (gn v cs rs ss))) ⟨none, none, none, none, rfl, same_upd hN, ⟨[], upd_same, rfl, fun i y hy => by simp at hy⟩⟩ (fun i σ H' _ h => by obtain ⟨_, _, _, _, _, s, _⟩ := h; exact ⟨SqL.of (s _ _ hM0), SqT.of (s _ _ hp0), SqT.of (s _ _ hq0)⟩) ?_ ?_⟩
    · rintro i vv σ H4 H5 hi ⟨o1, o2, o3, o4, rfl, s4, hA⟩ ⟨tp, u, y, w9, rfl, htp, rfl, eu, ey, ew⟩
      have hci : cs[i]? = some cs[i] := List.getElem?_eq_getElem hi
      have hri : rs[i]? = some rs[i] := List.getElem?_eq_getElem (by omega)
      have hsi : ss[i]? = some ss[i] := List.getElem?_eq_getElem (by omega)
      obtain ⟨v1, hv1, a, rfl, ha⟩ := pc.2 i _ hci
      obtain ⟨v2, hv2, b, rfl, hb⟩ := pu.2 i _ hri
      obtain ⟨v3, hv3, c9, rfl, hc9⟩ := pw.2 i _ hsi
      rw [eu] at hv1
      rw [ey] at hv2
      rw [ew] at hv3
      cases hv1
      cases hv2
      cases hv3
      have st := same_upd (o := .tup [.ref a, .ref b, .ref c9]) htp
      have s5 := s4.trans st
      have hA5 := hA.same (num_mono C 27720) st
      obtain ⟨w1, w2, m1⟩ := ok.at_ _ (List.mem_of_getElem? hci)
      have r1 := d1.1.2 i _ _ hci hri
      have r2 := d2.1.2 i _ _ hci hsi
      have eg := gn_at (v := v) hci hri hsi
      have m12 := (ok.b12 _ (List.mem_of_getElem? hci)).2
      have l1 := r1.len
      have l2 := r2.len
      have pb := pairs_bd (v := v) (xs := rs[i]) (ys := ss[i]) hv
      have rl : rs[i].length ≤ 12 := by omega
      have sl : ss[i].length ≤ 12 := by omega
      have pb2 : (pairs v rs[i] ss[i]).natAbs ≤ 10000 := Nat.le_trans pb (Nat.le_trans (Nat.mul_le_mul rl sl) (by decide))
      generalize rs[i] = r at *
      generalize ss[i] = s0 at *
      generalize cs[i] = c at *
      obtain ⟨c1, c2⟩ := c
      have w1 : 1 ≤ c1 := w1
      have w2 : c1 ≤ 1000 := w2
      have m1 : 1 ≤ c2 := m1
      have m12 : c2 ≤ 12 := m12
      have eg : gn v cs rs ss i = c1 * pairs v r s0 * (27720 / c2) := eg
      obtain ⟨acc, hN5, hal, hab⟩ := id hA5
      refine ⟨tp, _, rfl, SqT.of upd_same, rfl, _, _, rfl, a, _, rfl, SqT.of (s5 _ _ ha), rfl, _, _, rfl, _, _, rfl, rfl, _, _, rfl, _, _, rfl, rfl, ?_⟩
      refine ⟨_, rfl, .inl ⟨rfl, _, SqL.of hN5⟩, _, rfl, _, rfl, _, rfl, _, rfl, b, c9, r, s0, v, rfl, s5 _ _ hb, s5 _ _ hc9, _, _, rfl, rfl, .inl ⟨by omega, by omega⟩, _, rfl, fun x9 dx9 nx ndx ne => ⟨x9, dx9, _, c2, rfl, upd_same, ?_, fun _ H6 hx6 hk => ⟨rfl, ?_⟩, fun h => absurd h (by omega)⟩⟩
      · exact Nat.lt_of_lt_of_le (show c2.natAbs < 2 ^ 4 by omega) (Nat.pow_le_pow_right (by decide) (by decide))
      have s6 := made nx ndx hk
      have hq6 : RatQ C H6 x9 (c1 * pairs v r s0 * (27720 / c2)) 27720 := RatQ.of (t := c1 * pairs v r s0) (u := c2) ⟨dx9, hx6⟩ (by omega) (by decide) (by rw [Int.mul_assoc (c1 * pairs v r s0), many_div m1 m12])
      have hA6 := hA5.same (num_mono C 27720) s6
      refine ⟨N, _, _, rfl, rfl, s6 _ _ hN5, small1000 (by rw [hal, List.length_map, List.length_range]; omega), ?_⟩
      refine ⟨_, _, _, _, rfl, same_late (s5.trans s6) hN, ?_⟩
      rw [List.range_succ, List.map_append]
      show LAt _ _ N (_ ++ [gn v cs rs ss i])
      rw [eg]
      exact nums_snoc (s6 _ _ hN5) hA6 (.inr ⟨x9, rfl, hq6⟩)
    · rintro σ H4 ⟨o1, o2, o3, o4, rfl, s4, hA⟩
      refine ⟨_, rfl, N, gns v cs rs ss, 27720, rfl, hA, ⟨by decide, by decide +kernel, fun n hn => ?_, ?_⟩, fun z H5 s5 hz => k3 z H5 (s4.trans s5) hz⟩
      · obtain ⟨i, hi, e⟩ := List.mem_map.mp hn
        have hi := List.mem_range.mp hi
        have hci : cs[i]? = some cs[i] := List.getElem?_eq_getElem hi
        have hri : rs[i]? = some rs[i] := List.getElem?_eq_getElem (by omega)
        have hsi : ss[i]? = some ss[i] := List.getElem?_eq_getElem (by omega)
        obtain ⟨w1, w2, m1⟩ := ok.at_ _ (List.mem_of_getElem? hci)
        have m12 := (ok.b12 _ (List.mem_of_getElem? hci)).2
        have l1 := (d1.1.2 i _ _ hci hri).len
        have l2 := (d2.1.2 i _ _ hci hsi).len
        have pb := pairs_bd (v := v) (xs := rs[i]) (ys := ss[i]) hv
        have pb2 : (pairs v rs[i] ss[i]).natAbs ≤ 10000 := Nat.le_trans pb (Nat.le_trans (Nat.mul_le_mul (show rs[i].length ≤ 12 by omega) (show ss[i].length ≤ 12 by omega)) (by decide))
        rw [← e, gn_at hci hri hsi]
        exact ub (gn_bd ⟨w1, w2⟩ m1 pb2) (by decide)
      · unfold gns
        rw [List.length_map, List.length_range]
        omega
end
end L

set_option Elab.async false
set_option linter.all false
set_option maxRecDepth 100000
set_option maxHeartbeats 4000000
set_option pp.maxSteps 160
set_option pp.deepTerms false
namespace L
open PySem PySem.Spec PyProof.Rows L2 Fl
local macro_rules | `(tactic| walk_at "side") => `(tactic| first | (exact .inl ⟨by omega, by omega⟩) | (exact .inr ⟨by omega, by omega⟩) | (exact .inr ⟨by decide, by decide⟩) | (show (_ : Int) ≠ _; omega) | (exact ⟨by omega, by decide⟩) | (exact ⟨by decide, by decide, by decide⟩))
local macro_rules | `(tactic| walk_at "go") => `(tactic| repeat (first | refine ⟨_, rfl, ?_⟩ | refine ⟨_, _, rfl, rfl, ?_⟩ | refine .inl ⟨_, rfl, ?_⟩ | refine ⟨rfl, ?_⟩ | refine ⟨(by walk_at "side"), ?_⟩))
local macro_rules | `(tactic| walk_at "see") => `(tactic| (set_option pp.maxSteps 110 in set_option pp.deepTerms false in trace_state))
local macro_rules | `(tactic| walk_at "if") => `(tactic| first | refine ifE ?_ ?_ | refine ifNE ?_ ?_ | refine ifD ?_ ?_ | refine ifN ?_ ?_ | refine ifB ?_ ?_)
open Bx
section
variable {P : Program} {w : World} {K : PySem.W.Frag} {mg : Str → Option Value} {base : Heap}
theorem clP_keep {H H' : Hp} {p : Pla} {v : V} {c : Cls2} (h : ClP H v c) (hP : Pool H p) (k : Keeps H H' p) : ClP H' v c := by
  obtain ⟨t, e, ht⟩ := h
  obtain ⟨_, _, _, _, _, hp, _⟩ := hP
  exact ⟨t, e, k _ _ ht (ne_of ht hp (by intro q; cases q))⟩
theorem lat_keep {H H' : Hp} {p : Pla} {L : Addr} {cs : List Cls2} (h : LAt ClP H L cs) (hP : Pool H p) (n : L ≠ p) (k : Keeps H H' p) : LAt ClP H' L cs := by
  obtain ⟨vs, h1, h2, h3⟩ := h
  refine ⟨vs, k _ _ h1 n, h2, fun i c hc => ?_⟩
  obtain ⟨v, hv, r⟩ := h3 i c hc
  exact ⟨v, hv, clP_keep r hP k⟩
theorem clP_lst {H : Hp} {L : Addr} {xs ys : List V} {v : V} {c : Cls2} (h : ClP H v c) (hL : H L = some (.lst xs)) : ClP (upd H L (.lst ys)) v c := by
  obtain ⟨t, e, ht⟩ := h
  exact ⟨t, e, by rw [upd_ne (ne_of ht hL (by intro q; cases q))]; exact ht⟩
theorem cls_snoc {H : Hp} {L : Addr} {vs : List V} {cs : List Cls2} {v : V} {c : Cls2} (hL : H L = some (.lst vs)) (hA : LAt ClP H L cs) (hv : ClP H v c) : LAt ClP (upd H L (.lst (vs ++ [v]))) L (cs ++ [c]) := by
  obtain ⟨us, h1, h2, h3⟩ := hA
  rw [hL] at h1
  cases h1
  refine ⟨vs ++ [v], upd_same, by rw [List.length_append, List.length_append, h2]; rfl, fun i y hy => ?_⟩
  by_cases h : i < cs.length
  · rw [List.getElem?_append_left h] at hy
    obtain ⟨u, hu, r⟩ := h3 i y hy
    exact ⟨u, by rw [List.getElem?_append_left (by omega)]; exact hu, clP_lst r hL⟩
  · rw [List.getElem?_append_right (by omega)] at hy
    have e : i = cs.length := by
      rcases Nat.lt_or_ge (i - cs.length) 1 with h2 | h2
      · omega
      · rw [List.getElem?_eq_none (by simpa using h2)] at hy
        cases hy
    subst e
    rw [Nat.sub_self] at hy
    cases hy
    exact ⟨v, by rw [List.getElem?_append_right (by omega), h2, Nat.sub_self]; rfl, clP_lst hv hL⟩
def spDraw1 : Sp := fun vs H Q _ => ∃ (p : Pla), vs = [.ref p, .int 1] ∧ Q (.int 0) H
abbrev CalDraw1 (P : Program) (w : World) (K : PySem.W.Frag) (mg : Str → Option Value) (base : Heap) := Cal P w K mg base 2 "_law_draw" ["_law_pool_here", "_law_many"] spDraw1
theorem ok_draw1 (B : Blt mg) (D : Dfn K mg "_law_draw" "_law_draw" s_draw ["_law_pool_here", "_law_many"]) (C_mix : CalMix P w K mg base) : CalDraw1 P w K mg base := by
  refine D.cal sc_draw (fun vs H Q E h => ?_) (fun f cdv A outer st H vs Q E hr h => ?_)
  · obtain ⟨p, rfl, _⟩ := h
    rfl
  · obtain ⟨p, rfl, q⟩ := h
    refine ⟨_, (pss_cons (ps_if (PW.pt (pw_or (pt_cmpR op_lt (pv 1) (pe_int) (nomark _)) (pw_or1 (pt_cmpR op_eq (pe_callB call_len_seq (by rfl) B.len PySem.boot_len (pa_cons (pe_ix ix_list (pv 0) (pe_int) (fun _ _ => rfl)) pa_nil)) (pe_int) (nomark _))))) (pss_one (ps_ret (pe_int))) pss_nil)
      (pss_cons (ps_asg (pe_op op_add (pe_ix ix_list (pv 0) (pe_int) (fun _ _ => rfl)) (pe_int)) (pg_sub (pv 0) (pe_int) set_list))
      (pss_cons (ps_for PassesOwn.never rfl (pi_range1 (by rfl) B.range (pa_cons (pe_int) pa_nil)) (pg_name (i := 2) sc_draw.nd rfl (Or.inl rfl)) (pss_cons (ps_if (pt_cmpR op_gt (pe_ix ix_list (pv 0) (pe_int) (fun _ _ => rfl)) (pe_int) (nomark _)) (pss_cons (ps_set (i := 3) sc_draw.nd rfl (Or.inl rfl) (pe_op op_modN (pe_callTy call_int1 (by rfl) B.int (by decide +kernel) (pa_cons (pe_ix ix_list (pv 0) (pe_int) (fun _ _ => rfl)) pa_nil)) (pv 1)))
      (pss_cons (ps_asg (pe_op op_fdivA (pe_ix ix_list (pv 0) (pe_int) (fun _ _ => rfl)) (pv 1)) (pg_sub (pv 0) (pe_int) set_list))
      (pss_one (ps_ret (pv 3))))) pss_nil)
      (pss_cons (ps_if (pt_cmpR op_ge (pe_ix ix_list (pv 0) (pe_int) (fun _ _ => rfl)) (pe_callB call_len_seq (by rfl) B.len PySem.boot_len (pa_cons (pe_ix ix_list (pv 0) (pe_int) (fun _ _ => rfl)) pa_nil)) (nomark _)) (pss_one (ps_ret (pe_cal C_mix (hr.mono (by decide)) (pa_cons (pe_ix ix_list (pv 0) (pe_int) (fun _ _ => rfl)) (pa_cons (pe_ix ix_list (pv 0) (pe_int) (fun _ _ => rfl)) (pa_cons (pv 1) pa_nil)))))) pss_nil)
      (pss_cons (ps_set (i := 4) sc_draw.nd rfl (Or.inl rfl) (pe_ix ix_list (pe_ix ix_list (pv 0) (pe_int) (fun _ _ => rfl)) (pe_ix ix_list (pv 0) (pe_int) (fun _ _ => rfl)) (fun _ _ => rfl)))
      (pss_cons (ps_asg (pe_op op_add (pe_ix ix_list (pv 0) (pe_int) (fun _ _ => rfl)) (pe_int)) (pg_sub (pv 0) (pe_int) set_list))
      (pss_cons (ps_asg (pe_op op_modN (pe_callTy call_int1 (by rfl) B.int (by decide +kernel) (pa_cons (pe_op op_add (pe_op op_add (pe_op op_mul (pe_ix ix_list (pv 0) (pe_int) (fun _ _ => rfl)) (pe_int)) (pe_op op_mul (pv 4) (pe_int))) (pe_int)) pa_nil)) (pe_int)) (pg_sub (pv 0) (pe_int) set_list))
      (pss_cons (ps_if (pt_cmpR op_lt (pv 4) (pe_op op_pow (pe_int) (pe_int)) (nomark _)) (pss_one (ps_ret (pe_cal C_mix (hr.mono (by decide)) (pa_cons (pe_ix ix_list (pv 0) (pe_int) (fun _ _ => rfl)) (pa_cons (pe_ix ix_list (pv 0) (pe_int) (fun _ _ => rfl)) (pa_cons (pv 1) pa_nil)))))) pss_nil)
      (pss_one (ps_asg (pe_op op_sub (pv 4) (pe_op op_pow (pe_int) (pe_int))) (pg_sub (pv 0) (pe_int) set_list))))))))))
      (pss_one (ps_ret (pe_cal C_mix (hr.mono (by decide)) (pa_cons (pe_ix ix_list (pv 0) (pe_int) (fun _ _ => rfl)) (pa_cons (pe_ix ix_list (pv 0) (pe_int) (fun _ _ => rfl)) (pa_cons (pv 1) pa_nil))))))))), ?_⟩
    exact ⟨_, rfl, _, _, rfl, rfl, _, rfl, itT (by decide) q⟩
def spCl : Sp := fun vs H Q _ => ∃ (p : Pla), vs = [.ref p, .int 12] ∧ Pool H p ∧ ∀ (L : Addr) (cs : List Cls2) (H' : Hp), Pool H' p → Keeps H H' p → L ≠ p → LAt ClP H' L cs → ClsV cs → Q (.ref L) H'
abbrev CalCl (P : Program) (w : World) (K : PySem.W.Frag) (mg : Str → Option Value) (base : Heap) := Cal P w K mg base 3 "_law_classes" ["_law_pool_here", "_law_most"] spCl
theorem ok_cl (B : Blt mg) (C_draw : CalDraw P w K mg base) (C_draw1 : CalDraw1 P w K mg base) (D : Dfn K mg "_law_classes" "_law_classes" s_classes ["_law_pool_here", "_law_most"]) : CalCl P w K mg base := by
  refine D.cal sc_classes (fun vs H Q E h => ?_) (fun f cdv A outer st H vs Q E hr h => ?_)
  · obtain ⟨p, rfl, _⟩ := h
    rfl
  · obtain ⟨p, rfl, hP, q⟩ := h
    refine ⟨_, (pss_cons (ps_set (i := 2) sc_classes.nd rfl (Or.inl rfl) (pe_op op_add (pe_int) (pe_cal C_draw (hr.mono (by decide)) (pa_cons (pv 0) (pa_cons (pe_callB (call_min2 rfl) (by rfl) B.min (by decide +kernel) (pa_cons (pe_int) (pa_cons (pv 1) pa_nil))) pa_nil)))))
      (pss_cons (ps_set (i := 3) sc_classes.nd rfl (Or.inl rfl) (pe_cal C_draw (hr.mono (by decide)) (pa_cons (pv 0) (pa_cons (pe_int) pa_nil))))
      (Evl.pss_cut (ps_if (pt_cmpR op_eq (pe_cal C_draw (hr.mono (by decide)) (pa_cons (pv 0) (pa_cons (pe_int) pa_nil))) (pe_int) (nomark _)) (pss_one (ps_set (i := 3) sc_classes.nd rfl (Or.inl rfl) (pe_cal C_draw (hr.mono (by decide)) (pa_cons (pv 0) (pa_cons (pv 1) pa_nil))))) pss_nil)
      (Evl.pss_cut (ps_set (i := 3) sc_classes.nd rfl (Or.inl rfl) (pe_callB (call_min2 rfl) (by rfl) B.min (by decide +kernel) (pa_cons (pe_callTy call_int1 (by rfl) B.int (by decide +kernel) (pa_cons (pv 3) pa_nil)) (pa_cons (pe_op op_sub (pv 1) (pv 2)) pa_nil))))
      (pss_cons (ps_set (i := 4) sc_classes.nd rfl (Or.inl rfl) (pe_lst pa_nil))
      (pss_cons (ps_for PassesOwn.never rfl (pi_range1 (by rfl) B.range (pa_cons (pv 2) pa_nil)) (pg_name (i := 5) sc_classes.nd rfl (Or.inl rfl)) (pss_cons (ps_set (i := 6) sc_classes.nd rfl (Or.inl rfl) (pv 3))
      (Evl.pss_cut (ps_if (pt_cmpR op_lt (pe_op op_add (pv 5) (pe_int)) (pv 2) (nomark _)) (pss_one (ps_set (i := 6) sc_classes.nd rfl (Or.inl rfl) (pe_or (pe_cal C_draw (hr.mono (by decide)) (pa_cons (pv 0) (pa_cons (pe_op op_add (pv 3) pe_int) pa_nil))) (pe_cal C_draw1 (hr.mono (by decide)) (pa_cons (pv 0) (pa_cons (pe_op op_add (pv 3) pe_int) pa_nil)))))) pss_nil)
      (pss_cons (ps_set (i := 3) sc_classes.nd rfl (Or.inl rfl) (pe_op op_sub (pv 3) (pv 6)))
      (pss_cons (ps_set (i := 7) sc_classes.nd rfl (Or.inl rfl) (pe_op op_add (pe_int) (pe_cal C_draw (hr.mono (by decide)) (pa_cons (pv 0) (pa_cons (pe_int) pa_nil)))))
      (Evl.pss_cut (ps_if (pt_cmpR op_eq (pe_cal C_draw (hr.mono (by decide)) (pa_cons (pv 0) (pa_cons (pe_int) pa_nil))) (pe_int) (nomark _)) (pss_one (ps_set (i := 7) sc_classes.nd rfl (Or.inl rfl) (pe_op op_add (pe_int) (pe_cal C_draw (hr.mono (by decide)) (pa_cons (pv 0) (pa_cons (pe_int) pa_nil)))))) pss_nil)
      (pss_one (ps_expr (pe_bm PySem.F.plainAttrs_list PySem.F.slot_list_append PySem.F.type_list_append mt_append (pv 4) (pa_cons (pe_tup (pa_cons (pv 7) (pa_cons (pe_op op_add pe_int (pv 6)) pa_nil))) pa_nil))))))))))
      (pss_one (ps_ret (pv 4))))))))), ?_⟩
    refine ⟨_, rfl, _, rfl, _, _, rfl, p, _, rfl, hP, by decide, by decide, fun n0 H1 n00 n01 hP1 k1 => ⟨_, _, rfl, rfl, ?_⟩⟩
    have n01 : n0 < 4 := n01
    refine ⟨_, rfl, p, 4, rfl, hP1, by decide, by decide, fun e H2 e0 e1 hP2 k2 => ?_⟩
    refine ⟨fun σ' H' => ∃ n e : Int, σ' = [some (.ref (p : Addr)), some (.int 12), some (.int n), some (.int e), none, none, none, none] ∧ 1 ≤ n ∧ n ≤ 4 ∧ 0 ≤ e ∧ e < 12 ∧ Pool H' p ∧ Keeps H H' p, ?_, ?_⟩
    · refine ⟨_, rfl, p, 4, rfl, hP2, by decide, by decide, fun r H3 r0 r1 hP3 k3 => ⟨rfl, _, rfl, ifE (fun _ => ?_) (fun _ => ?_)⟩⟩
      · exact ⟨_, rfl, _, rfl, p, 12, rfl, hP3, by decide, by decide, fun z H4 z0 z1 hP4 k4 => ⟨_, z, rfl, by omega, by omega, z0, z1, hP4, k1.trans (k2.trans (k3.trans k4))⟩⟩
      · exact ⟨_, e, rfl, by omega, by omega, e0, by omega, hP3, k1.trans (k2.trans k3)⟩
    clear e0 e1 hP1 hP2 k1 k2 e
    rintro σ' H3 ⟨n, e, rfl, n00, n01, e0, e1, hP3, k3⟩
    refine ⟨fun σ' H' => ∃ e : Int, σ' = [some (.ref (p : Addr)), some (.int 12), some (.int n), some (.int e), none, none, none, none] ∧ 0 ≤ e ∧ e ≤ 12 - n ∧ H' = H3, ?_, ?_⟩
    · refine ⟨_, rfl, .inl ⟨_, rfl, _, rfl, _, rfl, _, _, rfl, rfl, _, _, rfl, _, rfl, ?_, ?_, rfl⟩⟩
      · split <;> omega
      · split <;> omega
    rintro σ' H' ⟨x, rfl, x0, x1, rfl⟩
    refine ⟨(by show 0 ≤ sizeLine; decide), fun L hL => ?_⟩
    have dp := hP3.apart hL
    refine ⟨_, rfl, _, rfl, by omega, by omega, for_range (lo := 0) (n := n.toNat) (fun i σ H4 => ∃ (x : Int) (o1 o2 o3 : Option V) (cs : List Cls2), σ = [some (.ref (p : Addr)), some (.int 12), some (.int n), some (.int x), some (.ref L), o1, o2, o3] ∧ Pool H4 p ∧ Keeps H' H4 p ∧ LAt ClP H4 L cs ∧ cs.length = i ∧ 0 ≤ x ∧ fds cs + x ≤ (i : Int) + (12 - n) ∧ ∀ c, c ∈ cs → 1 ≤ c.1 ∧ c.1 ≤ 1000 ∧ 1 ≤ c.2)
      ⟨x, none, none, none, [], rfl, hP3.upd hL, same_keeps (same_upd hL), ⟨[], upd_same, rfl, fun i y hy => by simp at hy⟩, rfl, x0, by have e : fds [] = 0 := rfl; omega, fun c hc => nomatch hc⟩ ?_ ?_⟩
    · rintro i σ H4 hi ⟨x, o1, o2, o3, cs, rfl, hP4, k4, hA, hl, x0, hs, hv⟩
      refine ⟨_, rfl, ?_⟩
      refine ⟨fun σ' H5 => ∃ y : Int, σ' = [some (.ref (p : Addr)), some (.int 12), some (.int n), some (.int x), some (.ref L), some (.int (0 + (i : Int))), some (.int y), o3] ∧ 0 ≤ y ∧ y ≤ x ∧ Pool H5 p ∧ Keeps H4 H5 p, ?_, ?_⟩
      · refine ⟨_, rfl, _, _, rfl, rfl, _, rfl, _, _, rfl, rfl, _, rfl, ifD (fun _ => ?_) (fun _ => ⟨x, rfl, x0, Int.le_refl _, hP4, Keeps.refl _ _⟩)⟩
        rcases (by omega : x = 0 ∨ 1 ≤ x) with h0 | h0
        · refine .inr ⟨_, rfl, _, rfl, _, _, rfl, rfl, p, ?_, 0, rfl, by omega, by omega, hP4, Keeps.refl _ _⟩
          rw [h0]
          rfl
        · have xn : x < 100 := by
            have := (le_fds fun c hc => (hv c hc).2.2).1
            omega
          exact .inl ⟨_, rfl, _, rfl, _, _, rfl, rfl, p, _, rfl, hP4, by omega, by omega, fun y H5 y0 y1 hP5 k5 => ⟨y, rfl, y0, by omega, hP5, k5⟩⟩
      rintro σ' H5 ⟨y, rfl, y0, y1, hP5, k5⟩
      have hA5 := lat_keep hA hP4 dp.1 k5
      refine ⟨_, rfl, _, rfl, _, _, rfl, rfl, _, rfl, p, 5, rfl, hP5, by decide, by decide, fun z H6 z0 z1 hP6 k6 => ⟨_, _, rfl, rfl, ?_⟩⟩
      have hA6 := lat_keep hA5 hP5 dp.1 k6
      refine ⟨fun σ' H7 => ∃ z : Int, σ' = [some (.ref (p : Addr)), some (.int 12), some (.int n), some (.int (x - y)), some (.ref L), some (.int (0 + (i : Int))), some (.int y), some (.int z)] ∧ 1 ≤ z ∧ z ≤ 1000 ∧ Pool H7 p ∧ Keeps H6 H7 p, ?_, ?_⟩
      · refine ⟨_, rfl, p, 4, rfl, hP6, by decide, by decide, fun r H7 r0 r1 hP7 k7 => ⟨rfl, _, rfl, ifE (fun _ => ?_) (fun _ => ?_)⟩⟩
        · exact ⟨_, rfl, p, 1000, rfl, hP7, by decide, by decide, fun u H8 u0 u1 hP8 k8 => ⟨_, _, rfl, rfl, _, rfl, by omega, by omega, hP8, k7.trans k8⟩⟩
        · exact ⟨_, rfl, by omega, by omega, hP7, k7⟩
      clear z0 z1
      rintro σ' H7 ⟨z, rfl, z0, z1, hP7, k7⟩
      have hA7 := lat_keep hA6 hP6 dp.1 k7
      obtain ⟨vs, hL7, hl7, hat7⟩ := id hA7
      refine ⟨_, rfl, .inl ⟨rfl, _, SqL.of hL7⟩, _, rfl, _, rfl, _, _, rfl, rfl, (by show 2 ≤ sizeLine; decide), fun t ht => ⟨L, _, _, rfl, rfl, same_upd ht _ _ hL7, small1000 (by omega), ?_⟩⟩
      have st := same_upd (o := .tup [.int z, .int (1 + y)]) ht
      refine ⟨x - y, _, _, _, cs ++ [(z, 1 + y)], rfl, (hP7.same st).store dp.1 dp.2, keeps_late (k4.trans (k5.trans (k6.trans (k7.trans (same_keeps st))))) hL, cls_snoc (st _ _ hL7) (hA7.same clP_mono st) ⟨t, rfl, upd_same⟩, by rw [List.length_append, hl]; rfl, by omega, ?_, fun c hc => ?_⟩
      · rw [fds_app, fds_one]
        show fds cs + (1 + y) + (x - y) ≤ _
        omega
      · rcases List.mem_append.mp hc with h | h
        · exact hv c h
        · rw [List.mem_singleton.mp h]
          exact ⟨z0, z1, by show 1 ≤ 1 + y; omega⟩
    · rintro σ H4 ⟨x, o1, o2, o3, cs, rfl, hP4, k4, hA, hl, x0, hs, hv⟩
      exact ⟨_, rfl, q L cs H4 hP4 (k3.trans k4) dp.1 hA ⟨by omega, by omega, hv, by omega⟩⟩
theorem none_of {H H' : Hp} {a : Addr} (s : Same H H') (h : H' a = none) : H a = none := by
  cases e : H a with
  | none => rfl
  | some o =>
    rw [s _ _ e] at h
    cases h
def GrN (G : Addr) (H0 H : Hp) (x : Addr) (cs : List Cls2) : Prop := ∃ dx M, H0 M = none ∧ H x = some (.ins G dx (grf (fds cs) M)) ∧ LAt ClP H M cs
theorem GrN.at_ {G : Addr} {H0 H : Hp} {x : Addr} {cs : List Cls2} (h : GrN G H0 H x cs) : GrAt G H x cs := by
  obtain ⟨dx, M, _, h1, h2⟩ := h
  exact ⟨dx, M, h1, h2⟩
/-- a ground whose list is not the pool -/
def GrP (G : Addr) (p : Pla) (H : Hp) (x : Addr) (cs : List Cls2) : Prop := ∃ dx M, M ≠ p.p ∧ H x = some (.ins G dx (grf (fds cs) M)) ∧ LAt ClP H M cs
theorem GrP.at_ {G : Addr} {p : Pla} {H : Hp} {x : Addr} {cs : List Cls2} (h : GrP G p H x cs) : GrAt G H x cs := by
  obtain ⟨dx, M, _, h1, h2⟩ := h
  exact ⟨dx, M, h1, h2⟩
theorem GrN.pool {G : Addr} {p : Pla} {H0 H : Hp} {x : Addr} {cs : List Cls2} (h : GrN G H0 H x cs) (hP : Pool H0 p) : GrP G p H x cs := by
  obtain ⟨dx, M, h0, h1, h2⟩ := h
  obtain ⟨_, _, _, _, _, hp, _⟩ := hP
  exact ⟨dx, M, (ne_of_none hp h0).symm, h1, h2⟩
theorem GrP.same {G : Addr} {p : Pla} {H H' : Hp} {x : Addr} {cs : List Cls2} (h : GrP G p H x cs) (s : Same H H') : GrP G p H' x cs := by
  obtain ⟨dx, M, h0, h1, h2⟩ := h
  exact ⟨dx, M, h0, s _ _ h1, h2.same clP_mono s⟩
theorem GrP.keep {G : Addr} {p : Pla} {H H' : Hp} {x : Addr} {cs : List Cls2} (h : GrP G p H x cs) (hP : Pool H p) (k : Keeps H H' p) : GrP G p H' x cs := by
  obtain ⟨dx, M, h0, h1, h2⟩ := h
  obtain ⟨_, _, _, _, _, hp, _⟩ := id hP
  exact ⟨dx, M, h0, k _ _ h1 (ne_of h1 hp (by intro q; cases q)), lat_keep h2 hP h0 k⟩
theorem ground_made {G : Addr} {H : Hp} {vs : List V} {cs : List Cls2} {Q : VK} {E : XK} (hlen : vs.length = cs.length) (hat : ∀ (i : Nat) (c : Cls2), cs[i]? = some c → ∃ v, vs[i]? = some v ∧ ClP H v c) (ok : ClsV cs) (q : ∀ (x : Addr) (H' : Hp), Same H H' → GrN G H H' x cs → Q (.ref x) H') :
    ∀ x dx, H x = none → H dx = none → dx ≠ x → spGround G (.ref x :: vs) (upd (upd H dx (.own x)) x (.ins G dx [])) (fun v H2 => v = .non ∧ Q (.ref x) H2) E := fun x dx nx nd ne => by
  have l4 := ok.l4
  refine ⟨[.ref x], vs, rfl, rfl, Nat.le_of_lt (small1000 (by omega)), fun p hp => ?_⟩
  have sp := same_upd (o := .tup vs) hp
  have sh : Same H (upd (upd (upd H dx (.own x)) x (.ins G dx [])) p (.tup vs)) := ((same_upd nd).trans (same_upd (by rw [upd_ne ne.symm]; exact nx))).trans sp
  refine ⟨x, dx, p, cs, rfl, sp _ _ upd_same, ⟨vs, upd_same, hlen, fun i c hc => ?_⟩, ok, fun M H' hn kx hx hM => ⟨rfl, q x H' (made nx nd ((same_keeps sp).trans kx)) ⟨dx, M, none_of sh hn, hx, hM⟩⟩⟩
  obtain ⟨v, hv, r⟩ := hat i c hc
  exact ⟨v, hv, clP_mono _ _ _ _ sh r⟩
def spGr (G : Addr) : Sp := fun vs H Q _ => ∃ (L : Addr) (cs : List Cls2), vs = [.ref L] ∧ LAt ClP H L cs ∧ ClsV cs ∧ ∀ (x : Addr) (H' : Hp), Same H H' → GrN G H H' x cs → Q (.ref x) H'
abbrev CalGr (P : Program) (w : World) (K : PySem.W.Frag) (mg : Str → Option Value) (base : Heap) (G : Addr) := Cal P w K mg base 5 "_law_ground" ["_law_classes_here"] (spGr G)
theorem ok_gr {G fI : Addr} (B : Blt mg) (TG : GrC K mg G) (MK : Mk K G fI) (FG : FnR P w K mg base CX0 3 fI (spGround G)) (D : Dfn K mg "_law_ground" "_law_ground" s_ground ["_law_classes_here"]) : CalGr P w K mg base G := by
  refine D.cal sc_ground (fun vs H Q E h => ?_) (fun f cdv A outer st H vs Q E hr h => ?_)
  · obtain ⟨L, cs, rfl, _⟩ := h
    rfl
  · obtain ⟨L, cs, rfl, ⟨vs, hL, hlen, hat⟩, ok, q⟩ := h
    have l1 := ok.l1
    have l4 := ok.l4
    refine ⟨_, (pss_cons (ps_if (pt_cmpR op_eq (pe_callB call_len_seq (by rfl) B.len PySem.boot_len (pa_cons (pv 0) pa_nil)) (pe_int) (nomark _)) (pss_one (ps_ret (StX.pe_makeR MK FG (hr.mono (by decide)) (by rfl) TG.g pass0 (pa_cons (pe_ix ix_list (pv 0) (pe_int) (fun _ _ => rfl)) pa_nil)))) pss_nil)
      (pss_cons (ps_if (pt_cmpR op_eq (pe_callB call_len_seq (by rfl) B.len PySem.boot_len (pa_cons (pv 0) pa_nil)) (pe_int) (nomark _)) (pss_one (ps_ret (StX.pe_makeR MK FG (hr.mono (by decide)) (by rfl) TG.g pass0 (pa_cons (pe_ix ix_list (pv 0) (pe_int) (fun _ _ => rfl)) (pa_cons (pe_ix ix_list (pv 0) (pe_int) (fun _ _ => rfl)) pa_nil))))) pss_nil)
      (pss_cons (ps_if (pt_cmpR op_eq (pe_callB call_len_seq (by rfl) B.len PySem.boot_len (pa_cons (pv 0) pa_nil)) (pe_int) (nomark _)) (pss_one (ps_ret (StX.pe_makeR MK FG (hr.mono (by decide)) (by rfl) TG.g pass0 (pa_cons (pe_ix ix_list (pv 0) (pe_int) (fun _ _ => rfl)) (pa_cons (pe_ix ix_list (pv 0) (pe_int) (fun _ _ => rfl)) (pa_cons (pe_ix ix_list (pv 0) (pe_int) (fun _ _ => rfl)) pa_nil)))))) pss_nil)
      (pss_one (ps_ret (StX.pe_makeR MK FG (hr.mono (by decide)) (by rfl) TG.g pass0 (pa_cons (pe_ix ix_list (pv 0) (pe_int) (fun _ _ => rfl)) (pa_cons (pe_ix ix_list (pv 0) (pe_int) (fun _ _ => rfl)) (pa_cons (pe_ix ix_list (pv 0) (pe_int) (fun _ _ => rfl)) (pa_cons (pe_ix ix_list (pv 0) (pe_int) (fun _ _ => rfl)) pa_nil)))))))))), ?_⟩
    have fin := fun {E : XK} => ground_made (G := G) (H := H) (E := E) (Q := Q) hlen hat ok q
    clear hat q ok
    rw [← hlen] at l1 l4
    clear hlen
    match vs, hL, @fin, l1, l4 with
    | [v0], hL, fin, _, _ =>
      refine ⟨_, rfl, _, _, rfl, .inl (SqL.of hL), rfl, _, rfl, ifE (fun _ => ?_) (fun h => absurd (show (1 : Int) = 1 from rfl) h)⟩
      exact ⟨_, rfl, _, _, _, _, rfl, rfl, SqL.of hL, rfl, fin⟩
    | [v0, v1], hL, fin, _, _ =>
      refine ⟨_, rfl, _, _, rfl, .inl (SqL.of hL), rfl, _, rfl, ifE (fun h => absurd h (show ¬ (2 : Int) = 1 by decide)) (fun _ => ?_)⟩
      refine ⟨_, rfl, _, _, rfl, .inl (SqL.of hL), rfl, _, rfl, ifE (fun _ => ?_) (fun h => absurd (show (2 : Int) = 2 from rfl) h)⟩
      exact ⟨_, rfl, _, _, _, _, rfl, rfl, SqL.of hL, rfl, _, rfl, _, _, _, _, rfl, rfl, SqL.of hL, rfl, fin⟩
    | [v0, v1, v2], hL, fin, _, _ =>
      refine ⟨_, rfl, _, _, rfl, .inl (SqL.of hL), rfl, _, rfl, ifE (fun h => absurd h (show ¬ (3 : Int) = 1 by decide)) (fun _ => ?_)⟩
      refine ⟨_, rfl, _, _, rfl, .inl (SqL.of hL), rfl, _, rfl, ifE (fun h => absurd h (show ¬ (3 : Int) = 2 by decide)) (fun _ => ?_)⟩
      refine ⟨_, rfl, _, _, rfl, .inl (SqL.of hL), rfl, _, rfl, ifE (fun _ => ?_) (fun h => absurd (show (3 : Int) = 3 from rfl) h)⟩
      exact ⟨_, rfl, _, _, _, _, rfl, rfl, SqL.of hL, rfl, _, rfl, _, _, _, _, rfl, rfl, SqL.of hL, rfl, _, rfl, _, _, _, _, rfl, rfl, SqL.of hL, rfl, fin⟩
    | [v0, v1, v2, v3], hL, fin, _, _ =>
      refine ⟨_, rfl, _, _, rfl, .inl (SqL.of hL), rfl, _, rfl, ifE (fun h => absurd h (show ¬ (4 : Int) = 1 by decide)) (fun _ => ?_)⟩
      refine ⟨_, rfl, _, _, rfl, .inl (SqL.of hL), rfl, _, rfl, ifE (fun h => absurd h (show ¬ (4 : Int) = 2 by decide)) (fun _ => ?_)⟩
      refine ⟨_, rfl, _, _, rfl, .inl (SqL.of hL), rfl, _, rfl, ifE (fun h => absurd h (show ¬ (4 : Int) = 3 by decide)) (fun _ => ?_)⟩
      exact ⟨_, rfl, _, _, _, _, rfl, rfl, SqL.of hL, rfl, _, rfl, _, _, _, _, rfl, rfl, SqL.of hL, rfl, _, rfl, _, _, _, _, rfl, rfl, SqL.of hL, rfl, _, rfl, _, _, _, _, rfl, rfl, SqL.of hL, rfl, fin⟩
    | [], _, _, h, _ => exact absurd h (by decide)
    | _ :: _ :: _ :: _ :: _ :: _, _, _, _, h => exact absurd h (by simp)
theorem cut_l {vs : List V} {i : Nat} (h : i ≤ vs.length) : cutV vs none (some (i : Int)) = vs.take i := by
  unfold cutV
  rw [HT.sIx_nat, HT.sIx_none, Nat.min_eq_left h, Nat.sub_zero, List.drop_zero]
theorem cut_r {vs : List V} {i : Nat} (h : i + 1 ≤ vs.length) : cutV vs (some ((i : Int) + 1)) none = vs.drop (i + 1) := by
  unfold cutV
  rw [show (i : Int) + 1 = ((i + 1 : Nat) : Int) from rfl, HT.sIx_nat, HT.sIx_none, Nat.min_eq_left h, List.take_of_length_le (by rw [List.length_drop]; exact Nat.le_refl _)]
theorem rw_lst {H : Hp} {L : Addr} {xs ys : List V} {v : V} {r : Rw} (h : RwP H v r) (hL : H L = some (.lst xs)) : RwP (upd H L (.lst ys)) v r := by
  obtain ⟨t, e, ht⟩ := h
  exact ⟨t, e, by rw [upd_ne (ne_of ht hL (by intro q; cases q))]; exact ht⟩
theorem rows_snoc {H : Hp} {L : Addr} {vs : List V} {rs : List Rw} {v : V} {r : Rw} (hL : H L = some (.lst vs)) (hA : LAt RwP H L rs) (hv : RwP H v r) : LAt RwP (upd H L (.lst (vs ++ [v]))) L (rs ++ [r]) := by
  obtain ⟨us, h1, h2, h3⟩ := hA
  rw [hL] at h1
  cases h1
  have h : PG (RwP H) vs rs := ⟨h2, h3⟩
  exact ⟨vs ++ [v], upd_same, ((pg_app h (pg_one hv)).imp fun u r h => rw_lst (ys := vs ++ [v]) h hL)⟩
theorem spA_keep {H H' : Hp} {p : Pla} {s : Addr} {rs : List Rw} (h : SpA H s rs) (hP : Pool H p) (k : Keeps H H' p) : SpA H' s rs := by
  obtain ⟨vs, h1, h2⟩ := h
  obtain ⟨_, _, _, _, _, hp, _⟩ := hP
  refine ⟨vs, k _ _ h1 (ne_of h1 hp (by intro q; cases q)), h2.imp fun v r hr => ?_⟩
  obtain ⟨t, e, ht⟩ := hr
  exact ⟨t, e, k _ _ ht (ne_of ht hp (by intro q; cases q))⟩
structure Shp (rs : List Rw) : Prop where
  l1 : 1 ≤ rs.length
  l4 : rs.length ≤ 4
  at_ : ∀ r, r ∈ rs → 1 ≤ r.length ∧ r.length ≤ 12
theorem Shp.bnd {rs : List Rw} (h : Shp rs) : Bnd rs := ⟨by have := h.l4; omega, fun r hr => by have := (h.at_ r hr).2; omega⟩

theorem perm_sum {a b : List Int} (h : a.Perm b) : a.sum = b.sum := by
  induction h with
  | nil => rfl
  | cons x _ ih => rw [List.sum_cons, List.sum_cons, ih]
  | swap x y l => simp only [List.sum_cons]; omega
  | trans _ _ h1 h2 => rw [h1, h2]
theorem sum_nonneg : ∀ {xs : List Int}, (∀ x, x ∈ xs → 0 ≤ x) → 0 ≤ xs.sum
  | [], _ => Int.le_refl _
  | x :: r, h => by
    have h1 := h x (List.mem_cons_self ..)
    have h2 := sum_nonneg (xs := r) fun y hy => h y (List.mem_cons_of_mem _ hy)
    show 0 ≤ x + r.sum
    omega
theorem sum_part {zs : List Int} {a m : Nat} : (zs.take a).sum + ((zs.drop a).take m).sum = (zs.take (a + m)).sum := by
  rw [List.take_add, List.sum_append]
theorem last_mem {r : Rw} (h : 1 ≤ r.length) : lastI r ∈ r := by
  unfold lastI
  rw [List.getD_eq_getElem?_getD, List.getElem?_eq_getElem (show r.length - 1 < r.length by omega)]
  exact List.getElem_mem _
theorem tot_snoc {rs : List Rw} {r : Rw} : tot (rs ++ [r]) = tot rs + r.sum := by
  unfold tot
  rw [List.map_append, List.sum_append]
  show _ + (r.sum + 0) = _
  rw [Int.add_zero]
theorem Due.shp {cs : List Cls2} {rs : List Rw} (h : Due cs rs) (ok : ClsV cs) : Shp rs := by
  have l1 := ok.l1
  have l4 := ok.l4
  have e := h.1.1
  refine ⟨by omega, by omega, fun r hr => ?_⟩
  obtain ⟨i, hi⟩ := List.mem_iff_getElem?.mp hr
  have hlt : i < rs.length := (List.getElem?_eq_some_iff.mp hi).1
  have hci : cs[i]? = some cs[i] := List.getElem?_eq_getElem (by omega)
  have := (h.1.2 i _ _ hci hi).len
  have := ok.b12 _ (List.mem_of_getElem? hci)
  omega
theorem fds_take {cs : List Cls2} {i : Nat} {c : Cls2} (h : cs[i]? = some c) : fds (cs.take (i + 1)) = fds (cs.take i) + c.2 := by
  rw [List.take_add_one, h, fds_app]
  show _ + fds [c] = _
  rw [fds_one]
theorem fds_to {cs : List Cls2} (h : ∀ c, c ∈ cs → 1 ≤ c.2) {i : Nat} : 0 ≤ fds (cs.take i) ∧ fds (cs.take i) ≤ fds cs := by
  have e : fds cs = fds (cs.take i) + fds (cs.drop i) := by
    rw [← fds_app, List.take_append_drop]
  have h1 := (le_fds (cs := cs.take i) fun c hc => h c (List.mem_of_mem_take hc)).1
  have h2 := (le_fds (cs := cs.drop i) fun c hc => h c (List.mem_of_mem_drop hc)).1
  omega
def spCut : Sp := fun vs H Q _ => ∃ (L Z : Addr) (cs : List Cls2) (zs : List Int), vs = [.ref L, .ref Z] ∧ LAt ClP H L cs ∧ ClsV cs ∧ H Z = some (.lst (zs.map V.int)) ∧ (zs.length : Int) = fds cs ∧ (∀ z, z ∈ zs → 0 ≤ z) ∧ zs.sum ≤ 40 ∧ ∀ (p : Addr) (rs : List Rw) (H' : Hp), Same H H' → SpA H' p rs → Due cs rs → Q (.ref p) H'
abbrev CalCut (P : Program) (w : World) (K : PySem.W.Frag) (mg : Str → Option Value) (base : Heap) := Cal P w K mg base 1 "_law_cut" ["_law_classes_here", "_law_strengths"] spCut
theorem ok_cut (B : Blt mg) (hTup : mg "tuple" = none) (hSrt : mg "sorted" = none) (D : Dfn K mg "_law_cut" "_law_cut" s_cut ["_law_classes_here", "_law_strengths"]) : CalCut P w K mg base := by
  refine D.cal sc_cut (fun vs H Q E h => ?_) (fun f cdv A outer st H vs Q E hr h => ?_)
  · obtain ⟨L, Z, cs, zs, rfl, _⟩ := h
    rfl
  · obtain ⟨L, Z, cs, zs, rfl, ⟨vs, hL, pws⟩, ok, hZ, hz, hpos, hs40, q⟩ := h
    have pws : PG (ClP H) vs cs := pws
    have lv := pws.1
    have l1 := ok.l1
    have l4 := ok.l4
    have lz : (zs.map V.int).length = zs.length := List.length_map ..
    refine ⟨_, (pss_cons (ps_set (i := 2) sc_cut.nd rfl (Or.inl rfl) (pe_lst pa_nil))
      (pss_cons (ps_set (i := 3) sc_cut.nd rfl (Or.inr rfl) (pe_int))
      (pss_cons (ps_for PassesOwn.never rfl (pi_list (pv 0)) (pg_name (i := 4) sc_cut.nd rfl (Or.inl rfl)) (pss_cons (ps_set (i := 5) sc_cut.nd rfl (Or.inl rfl) (pe_callBK (cr_sortedRev (b := true)) (by rfl) hSrt (by decide +kernel) (pa_cons (pe_lc (own := [("_law_index", 6)]) (g := gName 6) rfl sc_cut.nd (pi_range1 (by rfl) B.range (pa_cons (pe_ix ix_tup (pv 4) (pe_int) (fun _ _ => rfl)) pa_nil)) (blkOk_by (N := ["_law_classes_here", "_law_strengths", "_law_spread_here", "_law_at", "_law_row", "_law_own", "_law_index"]) (sc := defScope s_cut) (by decide +kernel)) (fun _ _ _ _ _ => pg_name (i := 6) sc_cut.nd rfl (Or.inl rfl)) (fun _ _ _ _ _ => pts_nil) (fun _ _ _ _ _ => (pe_callTy call_int1 (by rfl) B.int (by decide +kernel) (pa_cons (pe_ix (ix_list_K (K := K) rfl) (pv 1) (pe_op op_add (pv 3) (pv 6)) (fun _ _ => rfl)) pa_nil)))) pa_nil) (pk_cons pe_bl pk_nil)))
      (pss_cons (ps_expr (pe_bm PySem.F.plainAttrs_list PySem.F.slot_list_append PySem.F.type_list_append mt_append (pv 2) (pa_cons (pe_callTy call_tuple_of (by rfl) hTup (by decide +kernel) (pa_cons (pv 5) pa_nil)) pa_nil)))
      (pss_one (ps_set (i := 3) sc_cut.nd rfl (Or.inr rfl) (pe_op op_add (pv 3) (pe_ix ix_tup (pv 4) (pe_int) (fun _ _ => rfl))))))))
      (pss_one (ps_ret (pe_callTy call_tuple_of (by rfl) hTup (by decide +kernel) (pa_cons (pv 2) pa_nil))))))), ?_⟩
    refine ⟨(by show 0 ≤ sizeLine; decide), fun N hN => ?_⟩
    refine ⟨_, rfl, L, rfl, ⟨_, SqL.of (same_upd hN _ _ hL)⟩, for_list (K := K) (a := L) (xs := vs) (fun i σ H' => ∃ (o1 o2 o3 : Option V) (rs : List Rw), σ = [some (.ref L), some (.ref Z), some (.ref N), some (.int (fds (cs.take i))), o1, o2, o3] ∧ Same H H' ∧ LAt RwP H' N rs ∧ rs.length = i ∧ (∀ (j : Nat) (c : Cls2) (r : Rw), cs[j]? = some c → rs[j]? = some r → Row c.2 r) ∧ tot rs = (zs.take (fds (cs.take i)).toNat).sum) ⟨none, none, none, [], rfl, same_upd hN, ⟨[], upd_same, rfl, fun i y hy => by simp at hy⟩, rfl, fun j c r _ hr => by simp at hr, rfl⟩ (fun i σ H' _ h => by obtain ⟨_, _, _, _, _, s, _⟩ := h; exact SqL.of (s _ _ hL)) ?_ ?_⟩
    · rintro i y σ H1 hy ⟨o1, o2, o3, rs, rfl, s1, hA, hl, hr, htot⟩
      have hi : i < vs.length := (List.getElem?_eq_some_iff.mp hy).1
      have hci : cs[i]? = some cs[i] := List.getElem?_eq_getElem (by omega)
      obtain ⟨v, hv, t, rfl, ht⟩ := pws.2 i _ hci
      rw [hy] at hv
      cases hv
      obtain ⟨m1, m12⟩ := ok.b12 _ (List.mem_of_getElem? hci)
      have e1 := fds_take hci
      have e2 := fds_to (fun c hc => (ok.b12 c hc).1) (i := i)
      have e3 := fds_to (fun c hc => (ok.b12 c hc).1) (i := i + 1)
      generalize cs[i] = c at *
      rw [e1]
      obtain ⟨m, em⟩ : ∃ m : Nat, c.2 = (m : Int) := ⟨c.2.toNat, by omega⟩
      obtain ⟨a, ea⟩ : ∃ a : Nat, fds (cs.take i) = (a : Int) := ⟨(fds (cs.take i)).toNat, by omega⟩
      refine ⟨_, rfl, _, _, _, _, rfl, rfl, SqT.of (s1 _ _ ht), rfl, _, rfl, by omega, by omega, fun D hD => ?_⟩
      rw [show c.2.toNat = m by omega]
      refine lc_range (lo := 0) (n := m) (fun j H' => Same H1 H' ∧ H' D = some (.lst (((zs.drop a).take j).map V.int))) ⟨same_upd hD, upd_same⟩ ?_ ?_
      · rintro j H2 hj ⟨s2, hD2⟩
        have hk : a + j < zs.length := by omega
        have hzk : (zs.drop a)[j]? = some zs[a + j] := by rw [List.getElem?_drop, List.getElem?_eq_getElem hk]
        have az : atI (zs.map V.int) (fds (cs.take i) + (0 + (j : Int))) = some (V.int zs[a + j]) := by
          rw [show fds (cs.take i) + (0 + (j : Int)) = ((a + j : Nat) : Int) by omega]
          refine atI_nat ?_
          rw [List.getElem?_map, List.getElem?_eq_getElem hk]
          rfl
        refine ⟨rfl, _, rfl, _, rfl, _, rfl, _, _, rfl, rfl, _, _, _, _, rfl, rfl, SqL.of (s2 _ _ (s1 _ _ hZ)), az, .inl ⟨_, rfl, _, hD2, ?_, same_late s2 hD, ?_⟩⟩
        · rw [List.length_map, List.length_take]
          exact small1000 (by omega)
        · rw [upd_same, List.take_add_one, hzk, List.map_append]
          rfl
      rintro H2 ⟨s2, hD2⟩
      have lt : ((zs.drop a).take m).length = m := by rw [List.length_take, List.length_drop]; omega
      have hks : ∀ z, z ∈ (zs.drop a).take m → 0 ≤ z := fun z h => hpos z (List.mem_of_mem_drop (List.mem_of_mem_take h))
      have hsum := sum_part (zs := zs) (a := a) (m := m)
      generalize (zs.drop a).take m = ks at *
      refine ⟨D, ks, rfl, rfl, SqL.of hD2, fun ns P hpm hord hP => ?_⟩
      have lp := hpm.length_eq
      have s3 := s2.trans (same_upd (o := .lst (ns.map V.int)) hP)
      have hA3 := hA.same rwP_mono s3
      have ht3 := s3 _ _ (s1 _ _ ht)
      have hP3 : upd H2 P (.lst (ns.map V.int)) P = some (.lst (ns.map V.int)) := upd_same
      have s3 := s1.trans s3
      generalize upd H2 P (.lst (ns.map V.int)) = H3 at *
      obtain ⟨us, hN3, pr⟩ := id hA3
      have lr : us.length = rs.length := pr.1
      refine ⟨_, rfl, .inl ⟨rfl, _, SqL.of hN3⟩, _, rfl, P, _, rfl, .inl ⟨SqL.of hP3, fun u hu => ?_⟩⟩
      have su := same_upd (o := .tup (ns.map V.int)) hu
      refine ⟨N, _, _, rfl, rfl, su _ _ hN3, small1000 (by omega), ?_⟩
      have ht4 : upd (upd H3 u (.tup (ns.map V.int))) N (.lst (us ++ [.ref u])) t = some (.tup [.int c.1, .int c.2]) := by
        rw [upd_ne (ne_of (su _ _ ht3) (su _ _ hN3) (by intro q; cases q))]
        exact su _ _ ht3
      refine ⟨_, rfl, _, rfl, _, _, _, _, rfl, rfl, SqT.of ht4, rfl, _, _, rfl, rfl, _, _, _, rs ++ [ns], rfl, same_late (s3.trans su) hN, rows_snoc (su _ _ hN3) (hA3.same rwP_mono su) ⟨u, rfl, upd_same⟩, by rw [List.length_append, hl]; rfl, fun j c' r hc hr' => ?_, ?_⟩
      · by_cases ej : j < rs.length
        · rw [List.getElem?_append_left ej] at hr'
          exact hr j c' r hc hr'
        · have e2 : j = i := by
            rcases Nat.lt_or_ge (j - rs.length) 1 with h2 | h2
            · omega
            · rw [List.getElem?_append_right (by omega), List.getElem?_eq_none (by simpa using h2)] at hr'
              cases hr'
          subst e2
          rw [List.getElem?_append_right (by omega), hl, Nat.sub_self] at hr'
          rw [hci] at hc
          cases hc
          cases hr'
          exact ⟨by omega, hks _ (hpm.subset (last_mem (by omega))), hord⟩
      · rw [tot_snoc, htot, perm_sum hpm, show (fds (cs.take i)).toNat = a by omega, hsum]
        congr 2
        omega
    · rintro σ H1 ⟨o1, o2, o3, rs, rfl, s1, ⟨us, hN1, pr⟩, hl, hr, htot⟩
      refine ⟨_, rfl, N, us, rfl, .inl ⟨SqL.of hN1, fun l hl2 => ?_⟩⟩
      have sl := same_upd (o := .tup us) hl2
      have pr : PG (RwP H1) us rs := pr
      refine q l rs _ (s1.trans sl) ⟨us, upd_same, pr.imp fun v r h => rwP_mono _ _ _ _ sl h⟩ ⟨⟨by omega, hr⟩, ?_⟩
      rw [htot, lv, List.take_length, List.take_of_length_le (by omega)]
      exact hs40
theorem fds_pos {cs : List Cls2} (ok : ClsV cs) : 1 ≤ fds cs := by
  have l1 := ok.l1
  have hc : cs[0]? = some cs[0] := List.getElem?_eq_getElem (by omega)
  have h1 := (ok.at_ _ (List.mem_of_getElem? hc)).2.2
  have h2 := (le_fds fun c hc => (ok.at_ c hc).2.2).2 _ (List.mem_of_getElem? hc)
  omega
def spSpr : Sp := fun vs H Q _ => ∃ (p : Pla) (L : Addr) (cs : List Cls2) (T : Nat), vs = [.ref p, .ref L, .int (T : Int)] ∧ Pool H p ∧ LAt ClP H L cs ∧ L ≠ p ∧ ClsV cs ∧ T ≤ 40 ∧ ∀ (s : Addr) (rs : List Rw) (H' : Hp), Pool H' p → Keeps H H' p → SpA H' s rs → Due cs rs → Q (.ref s) H'
abbrev CalSpr (P : Program) (w : World) (K : PySem.W.Frag) (mg : Str → Option Value) (base : Heap) := Cal P w K mg base 3 "_law_spread" ["_law_pool_here", "_law_classes_here", "_law_total_here"] spSpr
theorem ok_spr (B : Blt mg) (C_draw : CalDraw P w K mg base) (C_draw1 : CalDraw1 P w K mg base) (C_cut : CalCut P w K mg base) (D : Dfn K mg "_law_spread" "_law_spread" s_spread ["_law_pool_here", "_law_classes_here", "_law_total_here"]) : CalSpr P w K mg base := by
  refine D.cal sc_spread (fun vs H Q E h => ?_) (fun f cdv A outer st H vs Q E hr h => ?_)
  · obtain ⟨p, L, cs, T, rfl, _⟩ := h
    rfl
  · obtain ⟨p, L, cs, T, rfl, hP, hL, np, ok, hT, q⟩ := h
    obtain ⟨vs, hL1, hw⟩ := id hL
    have hw : PG (ClP H) vs cs := hw
    have lv := hw.1
    have l4 := ok.l4
    have f1 := fds_pos ok
    have f12 := ok.sm
    refine ⟨_, (pss_cons (ps_set (i := 3) sc_spread.nd rfl (Or.inl rfl) (pe_callB (cr_sum rfl) (by rfl) B.sum (by decide +kernel) (pa_cons (pe_lc (own := [("_law_row", 4)]) (g := gName 4) rfl sc_spread.nd (pi_list (pv 1)) (blkOk_by (N := ["_law_pool_here", "_law_classes_here", "_law_total_here", "_law_fields", "_law_row", "_law_strengths", "_law_left", "_law_index"]) (sc := defScope s_spread) (by decide +kernel)) (fun _ _ _ _ _ => pg_name (i := 4) sc_spread.nd rfl (Or.inl rfl)) (fun _ _ _ _ _ => pts_nil) (fun _ _ _ _ _ => (pe_ix (ix_tup_K (K := K) rfl) (pv 4) (pe_int) (fun _ _ => rfl)))) pa_nil)))
      (pss_cons (ps_set (i := 5) sc_spread.nd rfl (Or.inl rfl) (pe_lst pa_nil))
      (pss_cons (ps_set (i := 6) sc_spread.nd rfl (Or.inl rfl) (pv 2))
      (pss_cons (ps_for PassesOwn.never rfl (pi_range1 (by rfl) B.range (pa_cons (pe_op op_sub (pv 3) (pe_int)) pa_nil)) (pg_name (i := 7) sc_spread.nd rfl (Or.inl rfl)) (pss_cons (ps_expr (pe_bm PySem.F.plainAttrs_list PySem.F.slot_list_append PySem.F.type_list_append mt_append (pv 5) (pa_cons (pe_or (pe_cal C_draw (hr.mono (by decide)) (pa_cons (pv 0) (pa_cons (pe_op op_add (pv 6) pe_int) pa_nil))) (pe_cal C_draw1 (hr.mono (by decide)) (pa_cons (pv 0) (pa_cons (pe_op op_add (pv 6) pe_int) pa_nil)))) pa_nil)))
      (pss_one (ps_set (i := 6) sc_spread.nd rfl (Or.inl rfl) (pe_op op_sub (pv 6) (pe_ix ix_list (pv 5) (pv 7) (fun _ _ => rfl)))))))
      (pss_cons (ps_expr (pe_bm PySem.F.plainAttrs_list PySem.F.slot_list_append PySem.F.type_list_append mt_append (pv 5) (pa_cons (pv 6) pa_nil)))
      (Evl.pss_cut (ps_if (pt_cmpR op_eq (pe_cal C_draw (hr.mono (by decide)) (pa_cons (pv 0) (pa_cons (pe_int) pa_nil))) (pe_int) (nomark _)) (pss_one (ps_set (i := 5) sc_spread.nd rfl (Or.inl rfl) (pe_revL (pv 5)))) pss_nil)
      (pss_one (ps_ret (pe_cal C_cut (hr.mono (by decide)) (pa_cons (pv 1) (pa_cons (pv 5) pa_nil))))))))))), ?_⟩
    refine ⟨_, rfl, L, rfl, ⟨_, SqL.of hL1⟩, fun D hD => lc_list (K := K) (a := L) (xs := vs) (fun j H' => Same H H' ∧ H' D = some (.lst (((cs.take j).map (fun c => c.2)).map V.int))) ⟨same_upd hD, upd_same⟩ (fun i H' _ h => SqL.of (h.1 _ _ hL1)) ?_ ?_⟩
    · rintro j x H' hx ⟨s1, hD1⟩
      have hj : j < vs.length := (List.getElem?_eq_some_iff.mp hx).1
      have hcj : cs[j]? = some cs[j] := List.getElem?_eq_getElem (by omega)
      obtain ⟨v, hv, t, rfl, ht⟩ := hw.2 j _ hcj
      rw [hx] at hv
      cases hv
      refine ⟨rfl, _, rfl, _, _, _, _, rfl, rfl, SqT.of (s1 _ _ ht), rfl, _, hD1, ?_, same_late s1 hD, ?_⟩
      · rw [List.length_map, List.length_map, List.length_take]
        exact small1000 (by omega)
      · rw [upd_same, List.take_add_one, hcj, List.map_append, List.map_append]
        rfl
    rintro H1 ⟨s1, hD1⟩
    rw [List.take_of_length_le (by omega)] at hD1
    have hP1 := hP.same s1
    refine ⟨_, _, rfl, SqL.of hD1, (by show 0 ≤ sizeLine; decide), fun Z hZ => ?_⟩
    have dp := hP1.apart hZ
    have fe : (cs.map (fun c => c.2)).sum = fds cs := rfl
    rw [fe]
    refine ⟨_, rfl, _, rfl, _, _, rfl, rfl, _, rfl, by omega, by omega, for_range (lo := 0) (n := (fds cs - 1).toNat) (fun i σ H' => ∃ (o : Option V) (zs : List Int) (e : Int), σ = [some (.ref (p : Addr)), some (.ref L), some (.int (T : Int)), some (.int (fds cs)), none, some (.ref Z), some (.int e), o] ∧ Pool H' p ∧ Keeps H1 H' p ∧ H' Z = some (.lst (zs.map V.int)) ∧ zs.length = i ∧ 0 ≤ e ∧ e ≤ 40 ∧ (∀ z, z ∈ zs → 0 ≤ z) ∧ zs.sum + e = (T : Int)) ⟨none, [], _, rfl, hP1.upd hZ, same_keeps (same_upd hZ), upd_same, rfl, by omega, by omega, (fun z hz => nomatch hz), Int.zero_add _⟩ ?_ ?_⟩
    · rintro i σ H4 hi ⟨o, zs, e, rfl, hP4, k4, h4, hl, e0, e1, hzp, hzs⟩
      have plus : ∀ z : Int, 0 ≤ z → (∀ y, y ∈ zs ++ [z] → 0 ≤ y) ∧ (zs ++ [z]).sum = zs.sum + z := fun z hz => ⟨fun y hy => by
        rcases List.mem_append.mp hy with h | h
        · exact hzp y h
        · rw [List.mem_singleton.mp h]
          exact hz, by rw [List.sum_append]; show _ + (z + 0) = _; omega⟩
      have sm : (zs.map V.int).length < sizeLine := by
        rw [List.length_map]
        exact small1000 (by omega)
      have go : ∀ (z : Int) (H5 : Hp), 0 ≤ z → z ≤ e → Pool H5 p → Keeps H4 H5 p → Pool (upd H5 Z (.lst (zs.map V.int ++ [V.int z]))) p ∧ Keeps H1 (upd H5 Z (.lst (zs.map V.int ++ [V.int z]))) p ∧ upd H5 Z (.lst (zs.map V.int ++ [V.int z])) Z = some (.lst ((zs ++ [z]).map V.int)) ∧ atI ((zs ++ [z]).map V.int) (0 + (i : Int)) = some (V.int z) := fun z H5 _ _ hP5 k5 => by
        refine ⟨hP5.store dp.1 dp.2, keeps_late (k4.trans k5) hZ, ?_, ?_⟩
        · rw [upd_same, List.map_append]
          rfl
        · rw [show (0 : Int) + (i : Int) = (i : Int) by omega]
          refine atI_nat ?_
          rw [List.map_append, List.getElem?_append_right (by rw [List.length_map]; omega), List.length_map, hl, Nat.sub_self]
          rfl
      rcases (by omega : e = 0 ∨ 1 ≤ e) with h0 | h0
      · obtain ⟨g1, g2, g3, g4⟩ := go 0 H4 (by omega) (by omega) hP4 (Keeps.refl _ _)
        refine ⟨_, rfl, .inl ⟨rfl, _, SqL.of h4⟩, .inr ⟨_, rfl, _, rfl, _, _, rfl, rfl, p, by rw [h0]; rfl, Z, _, _, rfl, rfl, h4, sm, ?_⟩⟩
        exact ⟨_, rfl, _, rfl, _, rfl, _, _, _, _, rfl, rfl, SqL.of g3, g4, _, _, rfl, rfl, _, _, _, rfl, g1, g2, g3, by rw [List.length_append, hl]; rfl, by omega, by omega, (plus 0 (by decide)).1, by rw [(plus 0 (by decide)).2]; omega⟩
      · refine ⟨_, rfl, .inl ⟨rfl, _, SqL.of h4⟩, .inl ⟨_, rfl, _, rfl, _, _, rfl, rfl, p, _, rfl, hP4, by omega, by omega, fun z H5 z0 z1 hP5 k5 => ⟨Z, _, _, rfl, rfl, k5 _ _ h4 dp.1, sm, ?_⟩⟩⟩
        obtain ⟨g1, g2, g3, g4⟩ := go z H5 z0 (by omega) hP5 k5
        exact ⟨_, rfl, _, rfl, _, rfl, _, _, _, _, rfl, rfl, SqL.of g3, g4, _, _, rfl, rfl, _, _, _, rfl, g1, g2, g3, by rw [List.length_append, hl]; rfl, by omega, by omega, (plus z z0).1, by rw [(plus z z0).2]; omega⟩
    rintro σ H4 ⟨o, zs, e, rfl, hP4, k4, h4, hl, e0, e1, hzp, hzs⟩
    have sm : (zs.map V.int).length < sizeLine := by
      rw [List.length_map]
      exact small1000 (by omega)
    refine ⟨_, rfl, .inl ⟨rfl, _, SqL.of h4⟩, _, rfl, Z, _, _, rfl, rfl, h4, sm, ?_⟩
    have h5 : upd H4 Z (.lst (zs.map V.int ++ [V.int e])) Z = some (.lst ((zs ++ [e]).map V.int)) := by
      rw [upd_same, List.map_append]
      rfl
    have hP5 : Pool (upd H4 Z (.lst (zs.map V.int ++ [V.int e]))) p := hP4.store dp.1 dp.2
    have k5 := (same_keeps (p := p.p) s1).trans (keeps_late (o := .lst (zs.map V.int ++ [V.int e])) k4 hZ)
    have l5 : ((zs ++ [e]).length : Int) = fds cs := by
      rw [List.length_append, hl]
      show (((fds cs - 1).toNat + 1 : Nat) : Int) = _
      omega
    generalize upd H4 Z (.lst (zs.map V.int ++ [V.int e])) = H5 at *
    have hyp : ∀ y, y ∈ zs ++ [e] → 0 ≤ y := fun y hy => by
      rcases List.mem_append.mp hy with h | h
      · exact hzp y h
      · rw [List.mem_singleton.mp h]
        exact e0
    have hys : (zs ++ [e]).sum = (T : Int) := by
      rw [List.sum_append]
      show _ + (e + 0) = _
      omega
    generalize zs ++ [e] = ys at *
    refine ⟨fun σ' H' => ∃ (o : Option V) (Y : Addr) (ys : List Int) (e : Int), σ' = [some (.ref (p : Addr)), some (.ref L), some (.int (T : Int)), some (.int (fds cs)), none, some (.ref Y), some (.int e), o] ∧ Pool H' p ∧ Keeps H H' p ∧ H' Y = some (.lst (ys.map V.int)) ∧ (ys.length : Int) = fds cs ∧ (∀ y, y ∈ ys → 0 ≤ y) ∧ ys.sum = (T : Int), ?_, ?_⟩
    · refine ⟨_, rfl, p, 2, rfl, hP5, by decide, by decide, fun r H6 r0 r1 hP6 k6 => ⟨rfl, _, rfl, ifE (fun _ => ?_) (fun _ => ?_)⟩⟩
      · refine ⟨_, rfl, Z, _, rfl, SqL.of (k6 _ _ h5 dp.1), fun Y hY => ⟨_, Y, ys.reverse, _, rfl, hP6.upd hY, k5.trans (k6.trans (same_keeps (same_upd hY))), ?_, by rw [List.length_reverse]; exact l5, fun y hy => hyp y (List.mem_reverse.mp hy), by rw [perm_sum (List.reverse_perm ys)]; exact hys⟩⟩
        rw [upd_same, List.map_reverse]
      · exact ⟨_, Z, ys, _, rfl, hP6, k5.trans k6, k6 _ _ h5 dp.1, l5, hyp, hys⟩
    clear h5 hP5 k5 l5
    rintro σ' H6 ⟨o, Y, ys, e, rfl, hP6, k6, hY, ly, yp, ysm⟩
    exact ⟨_, rfl, _, rfl, L, Y, cs, ys, rfl, lat_keep hL hP np k6, ok, hY, ly, yp, by omega, fun s rs H7 s7 hs sh => q s rs H7 (hP6.same s7) (k6.trans (same_keeps s7)) hs sh⟩
def spTot : Sp := fun vs H Q _ => ∃ (p : Pla), vs = [.ref p] ∧ Pool H p ∧ ∀ (T : Nat) (H' : Hp), T ≤ 40 → Pool H' p → Keeps H H' p → Q (.int (T : Int)) H'
abbrev CalTot (P : Program) (w : World) (K : PySem.W.Frag) (mg : Str → Option Value) (base : Heap) := Cal P w K mg base 3 "_law_total" ["_law_pool_here"] spTot
theorem ok_tot (C_draw : CalDraw P w K mg base) (D : Dfn K mg "_law_total" "_law_total" s_total ["_law_pool_here"]) : CalTot P w K mg base := by
  refine D.cal sc_total (fun vs H Q E h => ?_) (fun f cdv A outer st H vs Q E hr h => ?_)
  · obtain ⟨p, rfl, _⟩ := h
    rfl
  · obtain ⟨p, rfl, hP, q⟩ := h
    have qi : ∀ (r : Int) (H' : Hp), 0 ≤ r → r ≤ 40 → Pool H' p → Keeps H H' p → Q (.int r) H' := fun r H' h0 h1 hP' k => by
      have := q r.toNat H' (by omega) hP' k
      rw [Int.toNat_of_nonneg h0] at this
      exact this
    refine ⟨_, (pss_cons (ps_if (pt_cmpR op_eq (pe_cal C_draw (hr.mono (by decide)) (pa_cons (pv 0) (pa_cons (pe_int) pa_nil))) (pe_int) (nomark _)) (pss_one (ps_ret (pe_cal C_draw (hr.mono (by decide)) (pa_cons (pv 0) (pa_cons (pe_int) pa_nil))))) pss_nil)
      (pss_one (ps_ret (pe_cal C_draw (hr.mono (by decide)) (pa_cons (pv 0) (pa_cons (pe_int) pa_nil)))))), ?_⟩
    refine ⟨_, rfl, p, 4, rfl, hP, by decide, by decide, fun r H1 r0 r1 hP1 k1 => ?_⟩
    refine ⟨rfl, _, rfl, ifE (fun _ => ?_) (fun _ => ?_)⟩
    · exact ⟨_, rfl, p, 41, rfl, hP1, by decide, by decide, fun z H2 z0 z1 hP2 k2 => qi _ _ (by omega) (by omega) hP2 (k1.trans k2)⟩
    · exact ⟨_, rfl, p, 13, rfl, hP1, by decide, by decide, fun z H2 z0 z1 hP2 k2 => qi _ _ (by omega) (by omega) hP2 (k1.trans k2)⟩

def spFar : Sp := fun vs H Q _ => ∃ (p : Pla), vs = [.ref p] ∧ Pool H p ∧ ∀ (z : Int) (H' : Hp), ¬ Tri3 z → Pool H' p → Keeps H H' p → Q (.int z) H'
abbrev CalFar (P : Program) (w : World) (K : PySem.W.Frag) (mg : Str → Option Value) (base : Heap) := Cal P w K mg base 4 "_law_far" ["_law_pool_here"] spFar
theorem ok_far (C_draw : CalDraw P w K mg base) (C_wide : CalWide P w K mg base) (D : Dfn K mg "_law_far" "_law_far" s_far ["_law_pool_here"]) : CalFar P w K mg base := by
  refine D.cal sc_far (fun vs H Q E h => ?_) (fun f cdv A outer st H vs Q E hr h => ?_)
  · obtain ⟨p, rfl, _⟩ := h
    rfl
  · obtain ⟨p, rfl, hP, q⟩ := h
    refine ⟨_, (pss_cons (ps_if (pt_cmpR op_eq (pe_cal C_draw (hr.mono (by decide)) (pa_cons (pv 0) (pa_cons (pe_int) pa_nil))) (pe_int) (nomark _)) (pss_one (ps_ret (pe_op op_sub (pe_un un_neg (pe_int)) (pe_cal C_wide (hr.mono (by decide)) (pa_cons (pv 0) pa_nil))))) pss_nil)
      (pss_one (ps_ret (pe_op op_add (pe_int) (pe_cal C_wide (hr.mono (by decide)) (pa_cons (pv 0) pa_nil)))))), ?_⟩
    refine ⟨_, rfl, p, 2, rfl, hP, by decide, by decide, fun r H1 r0 r1 hP1 k1 => ⟨rfl, _, rfl, ifE (fun _ => ?_) (fun _ => ?_)⟩⟩
    · exact ⟨_, rfl, _, rfl, p, rfl, hP1, fun z H2 z0 z1 hP2 k2 => ⟨_, _, rfl, rfl, q _ _ (fun h => by rcases h with h | h | h <;> omega) hP2 (k1.trans k2)⟩⟩
    · exact ⟨_, rfl, p, rfl, hP1, fun z H2 z0 z1 hP2 k2 => ⟨_, _, rfl, rfl, q _ _ (fun h => by rcases h with h | h | h <;> omega) hP2 (k1.trans k2)⟩⟩
end
end L

set_option Elab.async false
set_option linter.all false
set_option maxRecDepth 100000
set_option maxHeartbeats 4000000
set_option pp.maxSteps 160
set_option pp.deepTerms false
namespace L
open PySem PySem.Spec PyProof.Rows L2 Fl
local macro_rules | `(tactic| walk_at "side") => `(tactic| first | (exact .inl ⟨by omega, by omega⟩) | (exact .inr ⟨by omega, by omega⟩) | (exact .inr ⟨by decide, by decide⟩) | (show (_ : Int) ≠ _; omega) | (exact ⟨by omega, by decide⟩) | (exact ⟨by decide, by decide, by decide⟩))
local macro_rules | `(tactic| walk_at "go") => `(tactic| repeat (first | refine ⟨_, rfl, ?_⟩ | refine ⟨_, _, rfl, rfl, ?_⟩ | refine .inl ⟨_, rfl, ?_⟩ | refine ⟨rfl, ?_⟩ | refine ⟨(by walk_at "side"), ?_⟩))
local macro_rules | `(tactic| walk_at "see") => `(tactic| (set_option pp.maxSteps 110 in set_option pp.deepTerms false in trace_state))
local macro_rules | `(tactic| walk_at "if") => `(tactic| first | refine ifE ?_ ?_ | refine ifNE ?_ ?_ | refine ifD ?_ ?_ | refine ifN ?_ ?_ | refine ifB ?_ ?_)

/-! ### all orders of a row -/
def insAt (s : Int) (o : Rw) : List Rw := (List.range (o.length + 1)).map fun k => o.take k ++ [s] ++ o.drop k
def putIn (s : Int) (os : List Rw) : List Rw := os.flatMap (insAt s)
def perms (r : Rw) : List Rw := r.foldl (fun os s => putIn s os) [[]]
def rots (r : Rw) : List Rw := (List.range r.length).map fun k => r.drop k ++ r.take k
def orders (r : Rw) : List Rw := if 4 < r.length then rots r else perms r
def won (v : Int) (xs : Rw) (os : List Rw) : Int := (os.map fun o => ((List.range xs.length).map fun a => outv v (xs.getD a 0) (o.getD a 0)).sum).sum
def Fair (os : List Rw) (ys : Rw) : Prop := ∀ (a : Nat) (g : Int → Int), a < ys.length → (os.map fun o => g (o.getD a 0)).sum * (ys.length : Int) = (os.length : Int) * (ys.map g).sum
theorem sum_zero {α : Type} : ∀ (l : List α), (l.map fun _ => (0 : Int)).sum = 0
  | [] => rfl
  | _ :: r => by
    rw [List.map_cons, List.sum_cons, sum_zero r]
    rfl
theorem sum_add {α : Type} (f g : α → Int) : ∀ (l : List α), (l.map fun x => f x + g x).sum = (l.map f).sum + (l.map g).sum
  | [] => rfl
  | x :: r => by
    rw [List.map_cons, List.sum_cons, List.map_cons, List.sum_cons, List.map_cons, List.sum_cons, sum_add f g r]
    omega
theorem sum_mulR {α : Type} (f : α → Int) (c : Int) : ∀ (l : List α), (l.map fun x => f x * c).sum = (l.map f).sum * c
  | [] => by simp
  | x :: r => by rw [List.map_cons, List.sum_cons, List.map_cons, List.sum_cons, sum_mulR f c r, Int.add_mul]
theorem sum_mulL {α : Type} (f : α → Int) (c : Int) : ∀ (l : List α), (l.map fun x => c * f x).sum = c * (l.map f).sum
  | [] => by simp
  | x :: r => by rw [List.map_cons, List.sum_cons, List.map_cons, List.sum_cons, sum_mulL f c r, Int.mul_add]
theorem sum_swap {α β : Type} (F : α → β → Int) (as : List β) : ∀ (os : List α), (os.map fun o => (as.map (F o)).sum).sum = (as.map fun a => (os.map fun o => F o a).sum).sum
  | [] => (sum_zero as).symm
  | o :: r => by
    rw [List.map_cons, List.sum_cons, sum_swap F as r]
    have e : (as.map fun a => ((o :: r).map fun o => F o a).sum) = as.map fun a => F o a + (r.map fun o => F o a).sum := List.map_congr_left fun a _ => by rw [List.map_cons, List.sum_cons]
    rw [e, sum_add]
theorem map_at (g : Int → Int) (xs : Rw) : ((List.range xs.length).map fun a => g (xs.getD a 0)) = xs.map g := by
  refine List.ext_getElem? fun i => ?_
  by_cases h : i < xs.length
  · rw [List.getElem?_map, List.getElem?_range h, List.getElem?_map, List.getElem?_eq_getElem h]
    show some (g (xs.getD i 0)) = some (g xs[i])
    rw [List.getD_eq_getElem?_getD, List.getElem?_eq_getElem h]
    rfl
  · rw [List.getElem?_eq_none (by rw [List.length_map, List.length_range]; omega), List.getElem?_eq_none (by rw [List.length_map]; omega)]
theorem won_eq {v : Int} {xs ys : Rw} {os : List Rw} (hl : xs.length = ys.length) (h : Fair os ys) : won v xs os * (ys.length : Int) = (os.length : Int) * pairs v xs ys := by
  unfold won pairs
  rw [sum_swap (fun (o : Rw) (a : Nat) => outv v (xs.getD a 0) (o.getD a 0)), ← sum_mulR]
  have e : ((List.range xs.length).map fun a => (os.map fun o => outv v (xs.getD a 0) (o.getD a 0)).sum * (ys.length : Int)) = (List.range xs.length).map fun a => (os.length : Int) * gsum v (xs.getD a 0) ys := List.map_congr_left fun a ha => by
    have := List.mem_range.mp ha
    exact h a (outv v (xs.getD a 0)) (by omega)
  rw [e, sum_mulL, map_at (fun x => gsum v x ys)]
theorem fair_rots {r : Rw} : Fair (rots r) r := fun a g ha => by
  have e : ((rots r).map fun o => g (o.getD a 0)) = (r.drop a ++ r.take a).map g := by
    unfold rots
    rw [List.map_map]
    refine List.ext_getElem? fun k => ?_
    by_cases hk : k < r.length
    · rw [List.getElem?_map, List.getElem?_range hk, List.getElem?_map]
      show some (g ((r.drop k ++ r.take k).getD a 0)) = _
      rw [List.getD_eq_getElem?_getD]
      by_cases h : k + a < r.length
      · rw [List.getElem?_append_left (by rw [List.length_drop]; omega), List.getElem?_append_left (by rw [List.length_drop]; omega), List.getElem?_drop, List.getElem?_drop, List.getElem?_eq_getElem h, List.getElem?_eq_getElem (show a + k < r.length by omega)]
        show some (g r[k + a]) = some (g r[a + k])
        congr 2
        congr 1
        omega
      · rw [List.getElem?_append_right (by rw [List.length_drop]; omega), List.getElem?_append_right (by rw [List.length_drop]; omega), List.length_drop, List.length_drop, List.getElem?_take, List.getElem?_take, if_pos (by omega), if_pos (by omega), List.getElem?_eq_getElem (show a - (r.length - k) < r.length by omega), List.getElem?_eq_getElem (show k - (r.length - a) < r.length by omega)]
        show some (g r[a - (r.length - k)]) = some (g r[k - (r.length - a)])
        congr 2
        congr 1
        omega
    · rw [List.getElem?_eq_none (by rw [List.length_map, List.length_range]; omega), List.getElem?_eq_none (by rw [List.length_map, List.length_append, List.length_drop, List.length_take]; omega)]
  have e2 : ((r.drop a ++ r.take a).map g).sum = (r.map g).sum := by
    have : (r.map g).sum = ((r.take a ++ r.drop a).map g).sum := by rw [List.take_append_drop]
    rw [this, List.map_append, List.map_append, List.sum_append, List.sum_append]
    omega
  rw [e, e2]
  have : (rots r).length = r.length := by unfold rots; rw [List.length_map, List.length_range]
  rw [this, Int.mul_comm]
theorem fair1 {a : Int} : Fair (perms [a]) [a] := fun i g hi => by
  have hi : i < 1 := hi
  obtain rfl : i = 0 := by omega
  simp [perms, putIn, insAt, List.range, List.range.loop]
theorem fair2 {a b : Int} : Fair (perms [a, b]) [a, b] := fun i g hi => by
  have hi : i < 2 := hi
  rcases (by omega : i = 0 ∨ i = 1) with rfl | rfl <;> simp [perms, putIn, insAt, List.range, List.range.loop] <;> omega
theorem fair3 {a b c : Int} : Fair (perms [a, b, c]) [a, b, c] := fun i g hi => by
  have hi : i < 3 := hi
  rcases (by omega : i = 0 ∨ i = 1 ∨ i = 2) with rfl | rfl | rfl <;> simp [perms, putIn, insAt, List.range, List.range.loop] <;> omega
theorem fair4 {a b c d : Int} : Fair (perms [a, b, c, d]) [a, b, c, d] := fun i g hi => by
  have hi : i < 4 := hi
  rcases (by omega : i = 0 ∨ i = 1 ∨ i = 2 ∨ i = 3) with rfl | rfl | rfl | rfl <;> simp [perms, putIn, insAt, List.range, List.range.loop] <;> omega
theorem fair_orders {r : Rw} (h : 1 ≤ r.length) : Fair (orders r) r := by
  unfold orders
  split
  · exact fair_rots
  · match r, h with
    | [a], _ => exact fair1
    | [a, b], _ => exact fair2
    | [a, b, c], _ => exact fair3
    | [a, b, c, d], _ => exact fair4
    | _ :: _ :: _ :: _ :: _ :: _, _ => rename_i h; simp at h
theorem orders_len {r : Rw} (h : 1 ≤ r.length) (h12 : r.length ≤ 12) : 1 ≤ (orders r).length ∧ (orders r).length ≤ 24 := by
  unfold orders
  split
  · unfold rots
    rw [List.length_map, List.length_range]
    omega
  · match r, h with
    | [a], _ => simp [perms, putIn, insAt, List.range, List.range.loop]
    | [a, b], _ => simp [perms, putIn, insAt, List.range, List.range.loop]
    | [a, b, c], _ => simp [perms, putIn, insAt, List.range, List.range.loop]
    | [a, b, c, d], _ => simp [perms, putIn, insAt, List.range, List.range.loop]
    | _ :: _ :: _ :: _ :: _ :: _, _ => rename_i h; simp at h
theorem ins_len {s : Int} {o x : Rw} (h : x ∈ insAt s o) : x.length = o.length + 1 := by
  obtain ⟨k, hk, e⟩ := List.mem_map.mp h
  have := List.mem_range.mp hk
  rw [← e, List.length_append, List.length_append, List.length_take, List.length_drop]
  show min k o.length + 1 + (o.length - k) = _
  omega
theorem put_len {s : Int} {n : Nat} {os : List Rw} (h : ∀ o, o ∈ os → o.length = n) : ∀ o, o ∈ putIn s os → o.length = n + 1 := fun x hx => by
  obtain ⟨o, ho, hx⟩ := List.mem_flatMap.mp hx
  rw [ins_len hx, h o ho]
theorem fold_len : ∀ {r : Rw} {n : Nat} {os : List Rw}, (∀ o, o ∈ os → o.length = n) → ∀ o, o ∈ r.foldl (fun os s => putIn s os) os → o.length = n + r.length
  | [], n, os, h, o, ho => h o ho
  | s :: r, n, os, h, o, ho => by
    have := fold_len (r := r) (n := n + 1) (os := putIn s os) (put_len h) o ho
    rw [this]
    show n + 1 + r.length = n + (r.length + 1)
    omega
theorem orders_each {r : Rw} : ∀ o, o ∈ orders r → o.length = r.length := fun o ho => by
  unfold orders at ho
  split at ho
  · obtain ⟨k, hk, e⟩ := List.mem_map.mp ho
    have := List.mem_range.mp hk
    rw [← e, List.length_append, List.length_drop, List.length_take]
    omega
  · have := fold_len (r := r) (n := 0) (os := [[]]) (fun o ho => by rw [List.mem_singleton.mp ho]; rfl) o ho
    omega
end L

set_option Elab.async false
set_option linter.all false
set_option maxRecDepth 100000
set_option maxHeartbeats 4000000
set_option pp.maxSteps 160
set_option pp.deepTerms false
namespace L
open PySem PySem.Spec PyProof.Rows L2 Fl
local macro_rules | `(tactic| walk_at "side") => `(tactic| first | (exact .inl ⟨by omega, by omega⟩) | (exact .inr ⟨by omega, by omega⟩) | (exact .inr ⟨by decide, by decide⟩) | (show (_ : Int) ≠ _; omega) | (exact ⟨by omega, by decide⟩) | (exact ⟨by decide, by decide, by decide⟩))
local macro_rules | `(tactic| walk_at "go") => `(tactic| repeat (first | refine ⟨_, rfl, ?_⟩ | refine ⟨_, _, rfl, rfl, ?_⟩ | refine .inl ⟨_, rfl, ?_⟩ | refine ⟨rfl, ?_⟩ | refine ⟨(by walk_at "side"), ?_⟩))
local macro_rules | `(tactic| walk_at "see") => `(tactic| (set_option pp.maxSteps 110 in set_option pp.deepTerms false in trace_state))
local macro_rules | `(tactic| walk_at "if") => `(tactic| first | refine ifE ?_ ?_ | refine ifNE ?_ ?_ | refine ifD ?_ ?_ | refine ifN ?_ ?_ | refine ifB ?_ ?_)
open Bx

theorem map_int (r : Rw) : (r.map V.int).length = r.length := List.length_map ..
theorem cut_from {vs : List V} {i : Nat} (h : i ≤ vs.length) : cutV vs (some (i : Int)) none = vs.drop i := by
  unfold cutV
  rw [HT.sIx_nat, HT.sIx_none, Nat.min_eq_left h, List.take_of_length_le (by rw [List.length_drop]; exact Nat.le_refl _)]
theorem low_ok {n m : Int} (hm : 1 ≤ m) : (((max 1 (Nat.gcd n.natAbs m.natAbs) : Nat) : Int) ≠ 0) ∧ n.fdiv ((max 1 (Nat.gcd n.natAbs m.natAbs) : Nat) : Int) * m = n * m.fdiv ((max 1 (Nat.gcd n.natAbs m.natAbs) : Nat) : Int) ∧ 1 ≤ m.fdiv ((max 1 (Nat.gcd n.natAbs m.natAbs) : Nat) : Int) ∧ m.fdiv ((max 1 (Nat.gcd n.natAbs m.natAbs) : Nat) : Int) ≤ m := by
  have g1 : 1 ≤ Nat.gcd n.natAbs m.natAbs := Nat.gcd_pos_of_pos_right _ (by omega)
  rw [Nat.max_eq_right g1]
  have d1 : ((Nat.gcd n.natAbs m.natAbs : Nat) : Int) ∣ n := by first | exact Int.gcd_dvd_left _ _ | exact Int.gcd_dvd_left
  have d2 : ((Nat.gcd n.natAbs m.natAbs : Nat) : Int) ∣ m := by first | exact Int.gcd_dvd_right _ _ | exact Int.gcd_dvd_right
  generalize hG : ((Nat.gcd n.natAbs m.natAbs : Nat) : Int) = G at *
  have G1 : 1 ≤ G := by omega
  rw [Int.fdiv_eq_ediv_of_nonneg _ (by omega), Int.fdiv_eq_ediv_of_nonneg _ (by omega)]
  obtain ⟨a, rfl⟩ := d1
  obtain ⟨b, rfl⟩ := d2
  have G0 : G ≠ 0 := by omega
  rw [Int.mul_ediv_cancel_left _ G0, Int.mul_ediv_cancel_left _ G0]
  have b1 : 1 ≤ b := by
    rcases (by omega : b ≤ 0 ∨ 1 ≤ b) with h | h
    · have := Int.mul_nonpos_of_nonneg_of_nonpos (show 0 ≤ G by omega) h
      omega
    · exact h
  refine ⟨G0, ?_, b1, ?_⟩
  · rw [← Int.mul_assoc, Int.mul_comm a G]
  · have := Int.mul_le_mul_of_nonneg_right G1 (show 0 ≤ b by omega)
    omega
theorem md_bd {M d B : Int} (h1 : 1 ≤ M) (h2 : M ≤ B) (h3 : 1 ≤ d) (h4 : d ≤ 24) : 1 ≤ M * d ∧ M * d ≤ B * 24 := by
  have a := Int.mul_le_mul h1 h3 (by decide) (by omega)
  have b := Int.mul_le_mul h2 h4 (by omega) (by omega)
  omega
theorem frac_step {N M a d N' M' S c1 w m e p : Int} (h1 : N' * (M * d) = (N * d + a * M) * M') (h2 : N * 27720 = S * M) (ha : a = c1 * w) (hw : w * m = d * p) (hm : e * m = 27720) (h0 : M * d ≠ 0) : N' * 27720 = (S + c1 * p * e) * M' := by
  refine Int.eq_of_mul_eq_mul_right h0 ?_
  have k : a * 27720 = d * (c1 * p * e) := by
    rw [ha, ← hm]
    have : c1 * w * (e * m) = c1 * (w * m) * e := by ac_rfl
    rw [this, hw]
    ac_rfl
  have l : N' * 27720 * (M * d) = (N * d + a * M) * M' * 27720 := by
    rw [← h1]
    ac_rfl
  rw [l]
  have e1 : (N * d + a * M) * M' * 27720 = (N * 27720) * d * M' + (a * 27720) * M * M' := by grind
  rw [e1, h2, k]
  grind
theorem take_putIn {s : Int} {os : List Rw} {i : Nat} {o : Rw} (h : os[i]? = some o) : putIn s (os.take (i + 1)) = putIn s (os.take i) ++ insAt s o := by
  unfold putIn
  rw [List.take_add_one, h, List.flatMap_append]
  show _ ++ (insAt s o ++ []) = _
  rw [List.append_nil]
theorem ins_n {s : Int} {o : Rw} : (insAt s o).length = o.length + 1 := by unfold insAt; rw [List.length_map, List.length_range]
theorem put_n {s : Int} {n : Nat} : ∀ {os : List Rw}, (∀ o, o ∈ os → o.length ≤ n) → (putIn s os).length ≤ os.length * (n + 1)
  | [], _ => by simp [putIn]
  | o :: r, h => by
    have h1 := h o (List.mem_cons_self ..)
    have h2 := put_n (s := s) (os := r) fun x hx => h x (List.mem_cons_of_mem _ hx)
    have e : putIn s (o :: r) = insAt s o ++ putIn s r := rfl
    rw [e, List.length_append, ins_n, List.length_cons, Nat.add_mul, Nat.one_mul]
    omega
theorem ins_at {s : Int} {o : Rw} {k : Nat} (h : k ≤ o.length) : (insAt s o)[k]? = some (o.take k ++ [s] ++ o.drop k) := by
  unfold insAt
  rw [List.getElem?_map, List.getElem?_range (by omega)]
  rfl
theorem outv_of {v x y : Int} : outv v x y = if x > y then 1 else if x < y then -1 else v := by
  unfold outv
  split
  · rw [if_neg (by omega), if_neg (by omega)]
  · split
    · rfl
    · rw [if_pos (by omega)]
def wona (v : Int) (xs o : Rw) (k : Nat) : Int := ((List.range k).map fun a => outv v (xs.getD a 0) (o.getD a 0)).sum
theorem wona_succ {v : Int} {xs o : Rw} {k : Nat} : wona v xs o (k + 1) = wona v xs o k + outv v (xs.getD k 0) (o.getD k 0) := by
  unfold wona
  rw [List.range_succ, List.map_append, List.sum_append]
  show _ + (outv v (xs.getD k 0) (o.getD k 0) + 0) = _
  rw [Int.add_zero]
theorem won_take {v : Int} {xs : Rw} {os : List Rw} {j : Nat} {o : Rw} (h : os[j]? = some o) : won v xs (os.take (j + 1)) = won v xs (os.take j) + wona v xs o xs.length := by
  unfold won
  rw [List.take_add_one, h, List.map_append, List.sum_append]
  show _ + (wona v xs o xs.length + 0) = _
  rw [Int.add_zero]
theorem sumI_range {f : Nat → Int} {i : Nat} : sumI ((List.range (i + 1)).map f) = sumI ((List.range i).map f) + f i := by
  rw [List.range_succ, List.map_append, sumI_app]
  show _ + (f i + 0) = _
  rw [Int.add_zero]
theorem getD_at {r : Rw} {k : Nat} (h : k < r.length) : (r.map V.int)[k]? = some (V.int (r.getD k 0)) := by
  rw [List.getElem?_map, List.getD_eq_getElem?_getD, List.getElem?_eq_getElem h]
  rfl
theorem pow24 {i : Nat} (h : i < 4) : (24 : Int) ^ i * 24 = 24 ^ (i + 1) ∧ (24 : Int) ^ i ≤ 13824 := by
  rcases (by omega : i = 0 ∨ i = 1 ∨ i = 2 ∨ i = 3) with rfl | rfl | rfl | rfl <;> decide
section
variable {P : Program} {w : World} {K : PySem.W.Frag} {mg : Str → Option Value} {base : Heap}
def spSame (C : Addr) : Sp := fun vs H Q _ => ∃ (x t : Addr) (n m : Int), vs = [.ref x, .ref t] ∧ RatQ C H x n m ∧ Sq n m ∧ H t = some (.tup [.int n, .int m]) ∧ Q (.bl true) H
abbrev CalSame (P : Program) (w : World) (K : PySem.W.Frag) (mg : Str → Option Value) (base : Heap) (C : Addr) := Cal P w K mg base 3 "_law_same" ["_law_actual", "_law_due"] (spSame C)
theorem ok_same {C : Addr} (B : Blt mg) (T : RatC K mg C) (Df : Dfn K mg "_law_same" "_law_same" s_same ["_law_actual", "_law_due"]) (C_ratio : CalRatioQ P w K mg base C) : CalSame P w K mg base C := by
  refine Df.cal sc_same (fun vs H Q E h => ?_) (fun f cdv A outer st H vs Q E hr h => ?_)
  · obtain ⟨x, t, n, m, rfl, _⟩ := h
    rfl
  · obtain ⟨x, t, n, m, rfl, ⟨dx, hx⟩, sq, ht, q⟩ := h
    have m0 : m ≠ 0 := Int.ne_of_gt sq.p
    have z1 := Nat.lt_of_le_of_lt (nT_le (t := n) m0) sq.n
    have z2 := Nat.lt_of_le_of_lt (nU_le (t := n) m0) sq.m
    refine ⟨_, (pss_cons (ps_if (pt_not (pt_val (pe_cal C_ratio (hr.mono (by decide)) (pa_cons (pv 0) pa_nil)))) (pss_one (ps_ret (pe_bl))) pss_nil)
      (pss_one (ps_ret (pe_cmpR op_eq (pe_op op_mulW (pe_fld (pv 0) rfl) (pe_ix ix_tup (pv 1) (pe_int) (fun _ _ => rfl))) (pe_op op_mulW (pe_ix ix_tup (pv 1) (pe_int) (fun _ _ => rfl)) (pe_fld (pv 0) rfl)) (nomark _))))), ?_⟩
    refine ⟨_, rfl, x, _, _, rfl, ⟨dx, hx⟩, _, rfl, ?_⟩
    rw [decide_eq_true (nU_pos (t := n) m0)]
    refine iteF ?_
    refine ⟨_, rfl, x, C, dx, _, _, rfl, hx, T.cl, T.nT, rf_top _ _, ?_⟩
    refine ⟨_, rfl, _, _, _, _, rfl, rfl, SqT.of ht, rfl, _, _, rfl, rfl, wide_mul z1 sq.m (by decide) (by decide) (by decide), ?_⟩
    refine ⟨_, rfl, _, _, _, _, rfl, rfl, SqT.of ht, rfl, ?_⟩
    refine ⟨_, rfl, x, C, dx, _, _, rfl, hx, T.cl, T.nU, rf_under _ _, _, _, rfl, rfl, wide_mul sq.n z2 (by decide) (by decide) (by decide), rfl, ?_⟩
    have e2 : decide (V.int (nT n m * m) = V.int (n * nU n m)) = true := decide_eq_true (by rw [n_cross])
    show Q (V.bl (decide (V.int (nT n m * m) = V.int (n * nU n m)))) _
    rw [e2]
    exact q

def spLow : Sp := fun vs H Q _ => ∃ (n m : Int), vs = [.int n, .int m] ∧ 1 ≤ m ∧ m ≤ 10 ^ 100 ∧ ∀ (z : Addr) (n' m' : Int) (H' : Hp), Same H H' → H' z = some (.tup [.int n', .int m']) → n' * m = n * m' → 1 ≤ m' → m' ≤ m → Q (.ref z) H'
abbrev CalLow (P : Program) (w : World) (K : PySem.W.Frag) (mg : Str → Option Value) (base : Heap) := Cal P w K mg base 2 "_law_low" ["_law_top", "_law_under"] spLow
theorem ok_low (C_gcd : CalGcd P w K mg base) (D : Dfn K mg "_law_low" "_law_low" s_low ["_law_top", "_law_under"]) : CalLow P w K mg base := by
  refine D.cal sc_low (fun vs H Q E h => ?_) (fun f cdv A outer st H vs Q E hr h => ?_)
  · obtain ⟨n, m, rfl, _⟩ := h
    rfl
  · obtain ⟨n, m, rfl, m1, m2, q⟩ := h
    refine ⟨_, (pss_cons (ps_set (i := 2) sc_low.nd rfl (Or.inl rfl) (pe_cal C_gcd (hr.mono (by decide)) (pa_cons (pv 0) (pa_cons (pv 1) pa_nil))))
      (pss_one (ps_ret (pe_tup (pa_cons (pe_op op_fdivA (pv 0) (pv 2)) (pa_cons (pe_op op_fdivA (pv 1) (pv 2)) pa_nil)))))), ?_⟩
    obtain ⟨g0, e, l1, l2⟩ := low_ok (n := n) m1
    have hb : m.natAbs < 10 ^ 124 := by
      have : m.natAbs ≤ 10 ^ 100 := by omega
      exact Nat.lt_of_le_of_lt this (by decide +kernel)
    have g2 : (((max 1 (Nat.gcd n.natAbs m.natAbs) : Nat) : Int)).natAbs < 2 ^ 400 := by
      have h1 : Nat.gcd n.natAbs m.natAbs ≤ m.natAbs := Nat.gcd_le_right _ (by omega)
      have h2 : (((max 1 (Nat.gcd n.natAbs m.natAbs) : Nat) : Int)).natAbs ≤ 10 ^ 100 := by
        rw [Nat.max_def]
        split <;> omega
      exact Nat.lt_of_le_of_lt h2 (by decide +kernel)
    have g0 := divA (i := n) g0 g2 (by decide) (by decide)
    refine ⟨_, rfl, _, rfl, n, m, rfl, hb, ?_⟩
    exact ⟨_, rfl, _, rfl, _, _, rfl, rfl, g0, _, rfl, _, rfl, _, _, rfl, rfl, g0, (by show 2 ≤ sizeLine; decide), fun z hz => q z _ _ _ (same_upd hz) upd_same e l1 l2⟩
def spPl : Sp := fun vs H Q _ => ∃ (s t : Addr) (N M a d : Int), vs = [.ref s, .ref t] ∧ H s = some (.tup [.int N, .int M]) ∧ H t = some (.tup [.int a, .int d]) ∧ 1 ≤ M ∧ M ≤ 13824 ∧ 1 ≤ d ∧ d ≤ 24 ∧ ∀ (z : Addr) (N' M' : Int) (H' : Hp), Same H H' → H' z = some (.tup [.int N', .int M']) → N' * (M * d) = (N * d + a * M) * M' → 1 ≤ M' → M' ≤ M * d → Q (.ref z) H'
abbrev CalPl (P : Program) (w : World) (K : PySem.W.Frag) (mg : Str → Option Value) (base : Heap) := Cal P w K mg base 3 "_law_plus" ["_law_one", "_law_other"] spPl
theorem ok_pl (C_low : CalLow P w K mg base) (D : Dfn K mg "_law_plus" "_law_plus" s_plus ["_law_one", "_law_other"]) : CalPl P w K mg base := by
  refine D.cal sc_plus (fun vs H Q E h => ?_) (fun f cdv A outer st H vs Q E hr h => ?_)
  · obtain ⟨s, t, N, M, a, d, rfl, _⟩ := h
    rfl
  · obtain ⟨s, t, N, M, a, d, rfl, hs, ht, M1, M2, d1, d2, q⟩ := h
    refine ⟨_, (pss_one (ps_ret (pe_cal C_low (hr.mono (by decide)) (pa_cons (pe_op op_add (pe_op op_mul (pe_ix ix_tup (pv 0) (pe_int) (fun _ _ => rfl)) (pe_ix ix_tup (pv 1) (pe_int) (fun _ _ => rfl))) (pe_op op_mul (pe_ix ix_tup (pv 1) (pe_int) (fun _ _ => rfl)) (pe_ix ix_tup (pv 0) (pe_int) (fun _ _ => rfl)))) (pa_cons (pe_op op_mul (pe_ix ix_tup (pv 0) (pe_int) (fun _ _ => rfl)) (pe_ix ix_tup (pv 1) (pe_int) (fun _ _ => rfl))) pa_nil))))), ?_⟩
    have i0 : ∀ {x y : Int}, atI [V.int x, V.int y] 0 = some (V.int x) := rfl
    have i1 : ∀ {x y : Int}, atI [V.int x, V.int y] 1 = some (V.int y) := rfl
    obtain ⟨b1, b2⟩ := md_bd M1 M2 d1 d2
    refine ⟨_, rfl, _, _, _, _, rfl, rfl, SqT.of hs, i0, _, rfl, _, _, _, _, rfl, rfl, SqT.of ht, i1, _, _, rfl, rfl, .inr ⟨by omega, by omega⟩, ?_⟩
    refine ⟨_, rfl, _, _, _, _, rfl, rfl, SqT.of ht, i0, _, rfl, _, _, _, _, rfl, rfl, SqT.of hs, i1, _, _, rfl, rfl, .inr ⟨by omega, by omega⟩, _, _, rfl, rfl, ?_⟩
    refine ⟨_, rfl, _, _, _, _, rfl, rfl, SqT.of hs, i1, _, rfl, _, _, _, _, rfl, rfl, SqT.of ht, i1, _, _, rfl, rfl, .inr ⟨by omega, by omega⟩, ?_⟩
    exact ⟨_, _, rfl, b1, by omega, q⟩
def spOu : Sp := fun vs H Q _ => ∃ (x y v : Int), vs = [.int x, .int y, .int v] ∧ Q (.int (outv v x y)) H
abbrev CalOu (P : Program) (w : World) (K : PySem.W.Frag) (mg : Str → Option Value) (base : Heap) := Cal P w K mg base 1 "_law_outcome" ["_law_x", "_law_y", "_law_rule"] spOu
theorem ok_ou (D : Dfn K mg "_law_outcome" "_law_outcome" s_outcome ["_law_x", "_law_y", "_law_rule"]) : CalOu P w K mg base := by
  refine D.cal sc_outcome (fun vs H Q E h => ?_) (fun f cdv A outer st H vs Q E hr h => ?_)
  · obtain ⟨x, y, t, rfl, _⟩ := h
    rfl
  · obtain ⟨x, y, t, rfl, q⟩ := h
    refine ⟨_, (pss_cons (ps_if (pt_cmpR op_gt (pv 0) (pv 1) (nomark _)) (pss_one (ps_ret (pe_int))) pss_nil)
      (pss_cons (ps_if (pt_cmpR op_lt (pv 0) (pv 1) (nomark _)) (pss_one (ps_ret (pe_un un_neg (pe_int)))) pss_nil)
      (pss_one (ps_ret (pv 2))))), ?_⟩
    rw [outv_of] at q
    refine ⟨_, rfl, _, rfl, _, _, rfl, rfl, _, rfl, ifD (fun h => ?_) (fun h => ?_)⟩
    · rw [if_pos h] at q
      exact q
    rw [if_neg h] at q
    refine ⟨_, rfl, _, rfl, _, _, rfl, rfl, _, rfl, ifD (fun h => ?_) (fun h => ?_)⟩
    · rw [if_pos h] at q
      exact ⟨_, rfl, q⟩
    · rw [if_neg h] at q
      exact ⟨_, rfl, q⟩
def spPI : Sp := fun vs H Q _ => ∃ (L : Addr) (os : List Rw) (s : Int), vs = [.ref L, .int s] ∧ LAt RwP H L os ∧ os.length ≤ 30 ∧ (∀ o, o ∈ os → o.length ≤ 20) ∧ ∀ (N : Addr) (H' : Hp), Same H H' → LAt RwP H' N (putIn s os) → Q (.ref N) H'
abbrev CalPI (P : Program) (w : World) (K : PySem.W.Frag) (mg : Str → Option Value) (base : Heap) := Cal P w K mg base 1 "_law_put_in" ["_law_orders_here", "_law_strength"] spPI
theorem ok_pi (B : Blt mg) (D : Dfn K mg "_law_put_in" "_law_put_in" s_put_in ["_law_orders_here", "_law_strength"]) : CalPI P w K mg base := by
  refine D.cal sc_put_in (fun vs H Q E h => ?_) (fun f cdv A outer st H vs Q E hr h => ?_)
  · obtain ⟨L, os, s, rfl, _⟩ := h
    rfl
  · obtain ⟨L, os, s, rfl, ⟨vs, hL, hw⟩, l30, l20, q⟩ := h
    have hw : PG (RwP H) vs os := hw
    have lv := hw.1
    refine ⟨_, (pss_cons (ps_set (i := 2) sc_put_in.nd rfl (Or.inl rfl) (pe_lst pa_nil))
      (pss_cons (ps_for PassesOwn.never rfl (pi_list (pv 0)) (pg_name (i := 3) sc_put_in.nd rfl (Or.inl rfl)) (pss_one (ps_for PassesOwn.never rfl (pi_range1 (by rfl) B.range (pa_cons (pe_op op_add (pe_callB call_len_seq (by rfl) B.len PySem.boot_len (pa_cons (pv 3) pa_nil)) (pe_int)) pa_nil)) (pg_name (i := 4) sc_put_in.nd rfl (Or.inl rfl)) (pss_one (ps_expr (pe_bm PySem.F.plainAttrs_list PySem.F.slot_list_append PySem.F.type_list_append mt_append (pv 2) (pa_cons (pe_op Zm.op_catH (pe_op Zm.op_catH (pe_slice Zm.sl_tupH (pv 3) po_none (po_some (pv 4))) (pe_tup (pa_cons (pv 1) pa_nil))) (pe_slice Zm.sl_tupH (pv 3) (po_some (pv 4)) po_none)) pa_nil)))))))
      (pss_one (ps_ret (pv 2))))), ?_⟩
    refine ⟨(by show 0 ≤ sizeLine; decide), fun N hN => ?_⟩
    refine ⟨_, rfl, L, rfl, ⟨_, SqL.of (same_upd hN _ _ hL)⟩, for_list (K := K) (a := L) (xs := vs) (fun i σ H' => ∃ (o1 o2 : Option V), σ = [some (.ref L), some (.int s), some (.ref N), o1, o2] ∧ Same H H' ∧ LAt RwP H' N (putIn s (os.take i))) ⟨none, none, rfl, same_upd hN, ⟨[], upd_same, rfl, fun i y hy => by simp [putIn] at hy⟩⟩ (fun i σ H' _ h => by obtain ⟨_, _, _, s, _⟩ := h; exact SqL.of (s _ _ hL)) ?_ ?_⟩
    · rintro i y σ H1 hy ⟨o1, o2, rfl, s1, hA⟩
      have hi : i < vs.length := (List.getElem?_eq_some_iff.mp hy).1
      have hoi : os[i]? = some os[i] := List.getElem?_eq_getElem (by omega)
      obtain ⟨v, hv, t, rfl, ht⟩ := hw.2 i _ hoi
      rw [hy] at hv
      cases hv
      have ol := l20 _ (List.mem_of_getElem? hoi)
      have et := take_putIn (s := s) hoi
      have pn := put_n (s := s) (n := 20) (os := os.take i) fun o ho => l20 o (List.mem_of_mem_take ho)
      have pl : (os.take i).length ≤ 30 := by rw [List.length_take]; omega
      have pn : (putIn s (os.take i)).length ≤ 630 := by omega
      have hin := ins_n (s := s) (o := os[i])
      rw [et]
      generalize os[i] = o at *
      have lo := map_int o
      refine ⟨_, rfl, _, _, rfl, .inr (SqT.of (s1 _ _ ht)), _, _, rfl, rfl, _, rfl, by omega, by omega, ?_⟩
      rw [show (((o.map V.int).length : Nat) : Int) + 1 = ((o.length + 1 : Nat) : Int) by omega, Int.toNat_natCast]
      refine for_range (lo := 0) (n := o.length + 1) (fun k σ H' => ∃ o2 : Option V, σ = [some (.ref L), some (.int s), some (.ref N), some (.ref t), o2] ∧ Same H H' ∧ LAt RwP H' N (putIn s (os.take i) ++ (insAt s o).take k)) ⟨o2, rfl, s1, by rw [List.take_zero, List.append_nil]; exact hA⟩ ?_ ?_
      · rintro k σ H2 hk ⟨o2, rfl, s2, hA2⟩
        have ek := ins_at (s := s) (o := o) (k := k) (by omega)
        obtain ⟨us, hN2, pr⟩ := id hA2
        have lr : us.length ≤ 660 := by
          have : us.length = _ := pr.1
          rw [this, List.length_append, List.length_take]
          omega
        have ht2 := s2 _ _ ht
        refine ⟨_, rfl, .inl ⟨rfl, _, SqL.of hN2⟩, _, rfl, _, rfl, _, rfl, _, _, rfl, ht2, fun p1 H3 s3 h3 => ?_⟩
        have s3 : Same H2 H3 := s3
        rw [show (0 : Int) + (k : Int) = (k : Int) by omega, cut_l (by omega), ← List.map_take] at h3
        refine ⟨_, rfl, (by show 1 ≤ sizeLine; decide), fun u hu => ⟨p1, u, _, _, rfl, rfl, same_upd hu _ _ h3, upd_same, ?_, fun p3 H4 s4 h4 => ?_⟩⟩
        · rw [map_int, List.length_take]
          exact Nat.le_of_lt (small1000 (by show _ + 1 ≤ 1000; omega))
        have s4 : Same H2 H4 := (s3.trans (same_upd hu)).trans s4
        refine ⟨_, rfl, _, rfl, _, rfl, ?_⟩
        dsimp only [tNoPart]
        refine ⟨_, _, rfl, s4 _ _ ht2, fun p4 H5 s5 h5 => ?_⟩
        have s5 : Same H4 H5 := s5
        rw [show (0 : Int) + (k : Int) = (k : Int) by omega, cut_from (by omega), ← List.map_drop] at h5
        refine ⟨p3, p4, _, _, rfl, rfl, s5 _ _ h4, h5, ?_, fun p5 H6 s6 h6 => ?_⟩
        · rw [List.length_append, map_int, map_int, List.length_take, List.length_drop]
          exact Nat.le_of_lt (small1000 (by show _ + 1 + _ ≤ 1000; omega))
        have s6 : Same H2 H6 := (s4.trans s5).trans s6
        have h6 : H6 p5 = some (.tup ((o.take k ++ [s] ++ o.drop k).map V.int)) := by
          rw [h6, List.map_append, List.map_append]
          rfl
        refine ⟨N, _, _, rfl, rfl, s6 _ _ hN2, small1000 (by omega), ?_⟩
        refine ⟨_, rfl, same_late (s2.trans s6) hN, ?_⟩
        rw [List.take_add_one, ek, ← List.append_assoc]
        exact rows_snoc (s6 _ _ hN2) (hA2.same rwP_mono s6) ⟨p5, rfl, h6⟩
      · rintro σ H2 ⟨o2, rfl, s2, hA2⟩
        rw [List.take_of_length_le (l := insAt s o) (by omega)] at hA2
        exact ⟨_, _, rfl, s2, hA2⟩
    · rintro σ H1 ⟨o1, o2, rfl, s1, hA⟩
      rw [lv, List.take_length] at hA
      exact ⟨_, rfl, q N H1 s1 hA⟩
def spOr : Sp := fun vs H Q _ => ∃ (t : Addr) (r : Rw), vs = [.ref t] ∧ H t = some (.tup (r.map V.int)) ∧ 1 ≤ r.length ∧ r.length ≤ 12 ∧ ∀ (N : Addr) (H' : Hp), Same H H' → LAt RwP H' N (orders r) → Q (.ref N) H'
abbrev CalOr (P : Program) (w : World) (K : PySem.W.Frag) (mg : Str → Option Value) (base : Heap) := Cal P w K mg base 2 "_law_orders" ["_law_row"] spOr
theorem fold_n : ∀ {r : Rw} {k : Nat}, r.length ≤ 4 → ((r.take k).foldl (fun os s => putIn s os) [[]]).length ≤ 24 := fun {r k} h => by
  have h2 : (r.take k).length ≤ 4 := by rw [List.length_take]; omega
  generalize r.take k = x at *
  match x, h2 with
  | [], _ => decide
  | [a], _ => simp [putIn, insAt, List.range, List.range.loop]
  | [a, b], _ => simp [putIn, insAt, List.range, List.range.loop]
  | [a, b, c], _ => simp [putIn, insAt, List.range, List.range.loop]
  | [a, b, c, d], _ => simp [putIn, insAt, List.range, List.range.loop]
  | _ :: _ :: _ :: _ :: _ :: _, h => simp at h
theorem ok_or (B : Blt mg) (C_put_in : CalPI P w K mg base) (D : Dfn K mg "_law_orders" "_law_orders" s_orders ["_law_row"]) : CalOr P w K mg base := by
  refine D.cal sc_orders (fun vs H Q E h => ?_) (fun f cdv A outer st H vs Q E hr h => ?_)
  · obtain ⟨t, r, rfl, _⟩ := h
    rfl
  · obtain ⟨t, r, rfl, ht, r1, r12, q⟩ := h
    have lr := map_int r
    refine ⟨_, (pss_cons (ps_if (pt_cmpR op_gt (pe_callB call_len_seq (by rfl) B.len PySem.boot_len (pa_cons (pv 0) pa_nil)) (pe_int) (nomark _)) (pss_one (ps_ret (pe_lc (own := [("_law_at", 1)]) (g := gName 1) rfl sc_orders.nd (pi_range1 (by rfl) B.range (pa_cons (pe_callB call_len_seq (by rfl) B.len PySem.boot_len (pa_cons (pv 0) pa_nil)) pa_nil)) (blkOk_by (N := ["_law_row", "_law_at", "_law_orders_here", "_law_strength"]) (sc := defScope s_orders) (by decide +kernel)) (fun _ _ _ _ _ => pg_name (i := 1) sc_orders.nd rfl (Or.inl rfl)) (fun _ _ _ _ _ => pts_nil) (fun _ _ _ _ _ => (pe_op Zm.op_catH (pe_slice Zm.sl_tupH (pv 0) (po_some (pv 1)) po_none) (pe_slice Zm.sl_tupH (pv 0) po_none (po_some (pv 1)))))))) pss_nil)
      (pss_cons (ps_set (i := 2) sc_orders.nd rfl (Or.inl rfl) (pe_lst (pa_cons (pe_tup pa_nil) pa_nil)))
      (pss_cons (ps_for PassesOwn.never rfl (pi_tup (pv 0)) (pg_name (i := 3) sc_orders.nd rfl (Or.inl rfl)) (pss_one (ps_set (i := 2) sc_orders.nd rfl (Or.inl rfl) (pe_cal C_put_in (hr.mono (by decide)) (pa_cons (pv 2) (pa_cons (pv 3) pa_nil))))))
      (pss_one (ps_ret (pv 2)))))), ?_⟩
    refine ⟨_, rfl, _, _, rfl, .inr (SqT.of ht), _, _, rfl, rfl, _, rfl, ifD (fun h => ?_) (fun h => ?_)⟩
    · have e : orders r = rots r := if_pos (by omega)
      refine ⟨_, rfl, _, _, rfl, .inr (SqT.of ht), _, rfl, by omega, by omega, fun D hD => ?_⟩
      rw [show (((r.map V.int).length : Nat) : Int).toNat = r.length by omega]
      refine lc_range (lo := 0) (n := r.length) (fun k H' => Same H H' ∧ ∃ acc, H' D = some (.lst acc) ∧ PG (RwP H') acc ((rots r).take k)) ⟨same_upd hD, [], upd_same, rfl, fun i x hx => by simp at hx⟩ ?_ ?_
      · rintro k H2 hk ⟨s2, acc, hD2, pr⟩
        have ek : (rots r)[k]? = some (r.drop k ++ r.take k) := by
          unfold rots
          rw [List.getElem?_map, List.getElem?_range hk]
          rfl
        have ht2 := s2 _ _ ht
        have la := pr.1
        rw [List.length_take] at la
        refine ⟨rfl, _, rfl, _, rfl, _, rfl, ?_⟩
        dsimp only [tNoPart]
        refine ⟨_, _, rfl, ht2, fun p1 H3 s3 h3 => ?_⟩
        have s3 : Same H2 H3 := s3
        rw [show (0 : Int) + (k : Int) = (k : Int) by omega, cut_from (by omega), ← List.map_drop] at h3
        refine ⟨_, rfl, _, rfl, _, rfl, _, _, rfl, s3 _ _ ht2, fun p2 H4 s4 h4 => ?_⟩
        have s4 : Same H3 H4 := s4
        rw [show (0 : Int) + (k : Int) = (k : Int) by omega, cut_l (by omega), ← List.map_take] at h4
        refine ⟨p1, p2, _, _, rfl, rfl, s4 _ _ h3, h4, ?_, fun p5 H6 s6 h6 => ?_⟩
        · rw [map_int, map_int, List.length_take, List.length_drop]
          exact Nat.le_of_lt (small1000 (by omega))
        have s6 : Same H2 H6 := (s3.trans s4).trans s6
        rw [← List.map_append] at h6
        refine ⟨_, s6 _ _ hD2, small1000 (by omega), same_late (s2.trans s6) hD, _, upd_same, ?_⟩
        rw [List.take_add_one, ek]
        exact (pg_app (pr.imp fun v r h => rwP_mono _ _ _ _ s6 h) (pg_one ⟨p5, rfl, h6⟩)).imp fun u x hx => rw_lst hx (s6 _ _ hD2)
      · rintro H2 ⟨s2, acc, hD2, pr⟩
        rw [List.take_of_length_le (by unfold rots; rw [List.length_map, List.length_range]; exact Nat.le_refl _), ← e] at pr
        exact q D H2 s2 ⟨acc, hD2, pr⟩
    have e : orders r = perms r := if_neg (by omega)
    refine ⟨(by show 0 ≤ sizeLine; decide), fun u hu => ⟨(by show 1 ≤ sizeLine; decide), fun N hN => ?_⟩⟩
    have s0 := (same_upd (o := .tup []) hu).trans (same_upd (o := .lst [.ref u]) hN)
    have h0 : LAt RwP (upd (upd H u (.tup [])) N (.lst [.ref u])) N (((r.take 0)).foldl (fun os s => putIn s os) [[]]) := ⟨[.ref u], upd_same, pg_one ⟨u, rfl, same_upd hN _ _ upd_same⟩⟩
    refine ⟨_, rfl, t, rfl, ⟨_, SqT.of (s0 _ _ ht)⟩, for_tup (K := K) (a := t) (xs := r.map V.int) (fun i σ H' => ∃ (N : Addr) (o1 : Option V), σ = [some (.ref t), none, some (.ref N), o1] ∧ Same H H' ∧ LAt RwP H' N ((r.take i).foldl (fun os s => putIn s os) [[]])) ⟨N, none, rfl, s0, h0⟩ (fun i σ H' _ h => by obtain ⟨_, _, _, s, _⟩ := h; exact SqT.of (s _ _ ht)) ?_ ?_⟩
    · rintro i y σ H1 hy ⟨N, o1, rfl, s1, hA⟩
      obtain ⟨z, hz, rfl⟩ := int_of_map hy
      refine ⟨_, rfl, _, rfl, N, _, z, rfl, hA, Nat.le_trans (fold_n (by omega)) (by decide), fun o ho => ?_, fun N' H2 s2 hA2 => ⟨N', _, rfl, s1.trans s2, ?_⟩⟩
      · have := fold_len (r := r.take i) (n := 0) (os := [[]]) (fun o ho => by rw [List.mem_singleton.mp ho]; rfl) o ho
        rw [List.length_take] at this
        omega
      · rw [List.take_add_one, hz, List.foldl_append]
        exact hA2
    · rintro σ H1 ⟨N, o1, rfl, s1, hA⟩
      rw [lr, List.take_length] at hA
      refine ⟨_, rfl, q N H1 s1 ?_⟩
      rw [e]
      exact hA
end
end L

set_option Elab.async false
set_option linter.all false
set_option maxRecDepth 100000
set_option maxHeartbeats 4000000
set_option pp.maxSteps 160
set_option pp.deepTerms false
namespace L
open PySem PySem.Spec PyProof.Rows L2 Fl
local macro_rules | `(tactic| walk_at "side") => `(tactic| first | (exact .inl ⟨by omega, by omega⟩) | (exact .inr ⟨by omega, by omega⟩) | (exact .inr ⟨by decide, by decide⟩) | (show (_ : Int) ≠ _; omega) | (exact ⟨by omega, by decide⟩) | (exact ⟨by decide, by decide, by decide⟩))
local macro_rules | `(tactic| walk_at "go") => `(tactic| repeat (first | refine ⟨_, rfl, ?_⟩ | refine ⟨_, _, rfl, rfl, ?_⟩ | refine .inl ⟨_, rfl, ?_⟩ | refine ⟨rfl, ?_⟩ | refine ⟨(by walk_at "side"), ?_⟩))
local macro_rules | `(tactic| walk_at "see") => `(tactic| (set_option pp.maxSteps 110 in set_option pp.deepTerms false in trace_state))
local macro_rules | `(tactic| walk_at "if") => `(tactic| first | refine ifE ?_ ?_ | refine ifNE ?_ ?_ | refine ifD ?_ ?_ | refine ifN ?_ ?_ | refine ifB ?_ ?_)
open Bx
section
variable {P : Program} {w : World} {K : PySem.W.Frag} {mg : Str → Option Value} {base : Heap}

def spDe : Sp := fun vs H Q _ => ∃ (L p q : Addr) (cs : List Cls2) (rs ss : List Rw) (v : Int), vs = [.ref L, .ref p, .ref q, .int v] ∧ LAt ClP H L cs ∧ ClsV cs ∧ SpA H p rs ∧ SpA H q ss ∧ Due cs rs ∧ Due cs ss ∧ ∀ (z : Addr) (N M : Int) (H' : Hp), Same H H' → H' z = some (.tup [.int N, .int M]) → N * 27720 = sumI (gns v cs rs ss) * M → 1 ≤ M → M ≤ 331776 → Q (.ref z) H'
abbrev CalDe (P : Program) (w : World) (K : PySem.W.Frag) (mg : Str → Option Value) (base : Heap) := Cal P w K mg base 4 "_law_dealt" ["_law_classes_here", "_law_one", "_law_other", "_law_rule"] spDe
theorem ok_de (B : Blt mg) (C_orders : CalOr P w K mg base) (C_outcome : CalOu P w K mg base) (C_plus : CalPl P w K mg base) (D : Dfn K mg "_law_dealt" "_law_dealt" s_dealt ["_law_classes_here", "_law_one", "_law_other", "_law_rule"]) : CalDe P w K mg base := by
  refine D.cal sc_dealt (fun vs H Q E h => ?_) (fun f cdv A outer st H vs Q E hr h => ?_)
  · obtain ⟨L, p, q, cs, rs, ss, v, rfl, _⟩ := h
    rfl
  · obtain ⟨L, p, q, cs, rs, ss, v, rfl, ⟨vs, hL, hc⟩, ok, ⟨us, hp, hu⟩, ⟨ws, hq, hw⟩, d1, d2, k⟩ := h
    have hc : PG (ClP H) vs cs := hc
    have lc := hc.1
    have lu := hu.1
    have lw := hw.1
    have e1 := d1.1.1
    have e2 := d2.1.1
    have l4 := ok.l4
    refine ⟨_, (pss_cons (ps_set (i := 4) sc_dealt.nd rfl (Or.inl rfl) (pe_tup (pa_cons (pe_int) (pa_cons (pe_int) pa_nil))))
      (pss_cons (ps_for PassesOwn.never rfl (pi_range1 (by rfl) B.range (pa_cons (pe_callB call_len_seq (by rfl) B.len PySem.boot_len (pa_cons (pv 0) pa_nil)) pa_nil)) (pg_name (i := 5) sc_dealt.nd rfl (Or.inl rfl)) (pss_cons (ps_set (i := 6) sc_dealt.nd rfl (Or.inl rfl) (pe_cal C_orders (hr.mono (by decide)) (pa_cons (pe_ix ix_tup (pv 2) (pv 5) (fun _ _ => rfl)) pa_nil)))
      (pss_cons (ps_set (i := 7) sc_dealt.nd rfl (Or.inl rfl) (pe_int))
      (pss_cons (ps_for PassesOwn.never rfl (pi_list (pv 6)) (pg_name (i := 8) sc_dealt.nd rfl (Or.inl rfl)) (pss_one (ps_for PassesOwn.never rfl (pi_range1 (by rfl) B.range (pa_cons (pe_ix ix_tup (pe_ix ix_list (pv 0) (pv 5) (fun _ _ => rfl)) (pe_int) (fun _ _ => rfl)) pa_nil)) (pg_name (i := 9) sc_dealt.nd rfl (Or.inl rfl)) (pss_one (ps_set (i := 7) sc_dealt.nd rfl (Or.inl rfl) (pe_op op_add (pv 7) (pe_cal C_outcome (hr.mono (by decide)) (pa_cons (pe_ix ix_tup (pe_ix ix_tup (pv 1) (pv 5) (fun _ _ => rfl)) (pv 9) (fun _ _ => rfl)) (pa_cons (pe_ix ix_tup (pv 8) (pv 9) (fun _ _ => rfl)) (pa_cons (pv 3) pa_nil))))))))))
      (pss_one (ps_set (i := 4) sc_dealt.nd rfl (Or.inl rfl) (pe_cal C_plus (hr.mono (by decide)) (pa_cons (pv 4) (pa_cons (pe_tup (pa_cons (pe_op op_mul (pe_ix ix_tup (pe_ix ix_list (pv 0) (pv 5) (fun _ _ => rfl)) (pe_int) (fun _ _ => rfl)) (pv 7)) (pa_cons (pe_callB call_len_seq (by rfl) B.len PySem.boot_len (pa_cons (pv 6) pa_nil)) pa_nil))) pa_nil)))))))))
      (pss_one (ps_ret (pv 4))))), ?_⟩
    refine ⟨(by show 2 ≤ sizeLine; decide), fun z0 hz0 => ?_⟩
    refine ⟨_, rfl, _, _, rfl, .inl (SqL.of (same_upd hz0 _ _ hL)), _, rfl, by omega, by omega, ?_⟩
    rw [show (((vs.length : Nat) : Int)).toNat = cs.length by omega]
    refine for_range (lo := 0) (n := cs.length) (fun i σ H' => ∃ (z : Addr) (N M : Int) (o1 o2 o3 o4 o5 : Option V), σ = [some (.ref L), some (.ref p), some (.ref q), some (.int v), some (.ref z), o1, o2, o3, o4, o5] ∧ Same H H' ∧ H' z = some (.tup [.int N, .int M]) ∧ N * 27720 = sumI ((List.range i).map (gn v cs rs ss)) * M ∧ 1 ≤ M ∧ M ≤ 24 ^ i) ⟨z0, 0, 1, none, none, none, none, none, rfl, same_upd hz0, upd_same, rfl, by decide, by decide⟩ ?_ ?_
    · rintro i σ H1 hi ⟨z, N, M, o1, o2, o3, o4, o5, rfl, s1, hz, eN, M1, M2⟩
      have hci : cs[i]? = some cs[i] := List.getElem?_eq_getElem hi
      have hri : rs[i]? = some rs[i] := List.getElem?_eq_getElem (by omega)
      have hsi : ss[i]? = some ss[i] := List.getElem?_eq_getElem (by omega)
      obtain ⟨v1, hv1, a, rfl, ha⟩ := hc.2 i _ hci
      obtain ⟨v2, hv2, t, rfl, ht⟩ := hu.2 i _ hri
      obtain ⟨v3, hv3, t2, rfl, ht2⟩ := hw.2 i _ hsi
      obtain ⟨w1, w2, m1⟩ := ok.at_ _ (List.mem_of_getElem? hci)
      have m12 := (ok.b12 _ (List.mem_of_getElem? hci)).2
      have r1 := (d1.1.2 i _ _ hci hri).len
      have r2 := (d2.1.2 i _ _ hci hsi).len
      have eg := gn_at (v := v) hci hri hsi
      obtain ⟨p24, p24b⟩ := pow24 (i := i) (by omega)
      generalize rs[i] = r at *
      generalize ss[i] = s0 at *
      generalize cs[i] = c at *
      obtain ⟨c1, c2⟩ := c
      have w1 : 1 ≤ c1 := w1
      have w2 : c1 ≤ 1000 := w2
      have m1 : 1 ≤ c2 := m1
      have m12 : c2 ≤ 12 := m12
      have r1 : (r.length : Int) = c2 := r1
      have r2 : (s0.length : Int) = c2 := r2
      have eg : gn v cs rs ss i = c1 * pairs v r s0 * (27720 / c2) := eg
      have ai : ∀ {xs : List V} {y : V}, xs[i]? = some y → atI xs (0 + (i : Int)) = some y := fun h => by
        rw [show (0 : Int) + (i : Int) = (i : Int) by omega]
        exact atI_nat h
      refine ⟨_, rfl, _, rfl, _, _, _, _, rfl, rfl, SqT.of (s1 _ _ hq), ai hv3, t2, s0, rfl, s1 _ _ ht2, by omega, by omega, fun Kd H2 s2 hK => ?_⟩
      have s12 := s1.trans s2
      obtain ⟨ks, hKd, hk⟩ := id hK
      have hk : PG (RwP H2) ks (orders s0) := hk
      have lk := hk.1
      obtain ⟨d1', d2'⟩ := orders_len (r := s0) (by omega) (by omega)
      have wq := won_eq (v := v) (xs := r) (ys := s0) (by omega) (fair_orders (r := s0) (by omega))
      have each := orders_each (r := s0)
      generalize orders s0 = os at *
      refine ⟨_, rfl, Kd, rfl, ⟨_, SqL.of hKd⟩, for_list (K := K) (a := Kd) (xs := ks) (fun j σ H' => ∃ o4 o5 : Option V, σ = [some (.ref L), some (.ref p), some (.ref q), some (.int v), some (.ref z), some (.int (0 + (i : Int))), some (.ref Kd), some (.int (won v r (os.take j))), o4, o5] ∧ H' = H2) ⟨o4, o5, rfl, rfl⟩ (fun j σ H' _ h => by obtain ⟨_, _, _, e⟩ := h; rw [e]; exact SqL.of hKd) ?_ ?_⟩
      · rintro j y σ H3 hy ⟨o4, o5, rfl, rfl⟩
        have hj : j < ks.length := (List.getElem?_eq_some_iff.mp hy).1
        have hoj : os[j]? = some os[j] := List.getElem?_eq_getElem (by omega)
        obtain ⟨v9, hv9, u, rfl, hu9⟩ := hk.2 j _ hoj
        rw [hy] at hv9
        cases hv9
        have el := each _ (List.mem_of_getElem? hoj)
        have wt := won_take (v := v) (xs := r) hoj
        generalize os[j] = o at *
        refine ⟨_, rfl, _, rfl, _, _, _, _, rfl, rfl, SqL.of (s12 _ _ hL), ai hv1, _, _, _, _, rfl, rfl, SqT.of (s12 _ _ ha), rfl, _, rfl, by omega, by omega, ?_⟩
        rw [show c2.toNat = r.length by omega]
        refine for_range (lo := 0) (n := r.length) (fun k σ H' => ∃ o5 : Option V, σ = [some (.ref L), some (.ref p), some (.ref q), some (.int v), some (.ref z), some (.int (0 + (i : Int))), some (.ref Kd), some (.int (won v r (os.take j) + wona v r o k)), some (.ref u), o5] ∧ H' = H3) ⟨o5, by rw [show won v r (os.take j) + wona v r o 0 = won v r (os.take j) from Int.add_zero _]; rfl, rfl⟩ ?_ ?_
        · rintro k' σ H4 hk' ⟨o5, rfl, rfl⟩
          have ak : ∀ {x : Rw}, k' < x.length → atI (x.map V.int) (0 + (k' : Int)) = some (V.int (x.getD k' 0)) := fun h => by
            rw [show (0 : Int) + (k' : Int) = (k' : Int) by omega]
            exact atI_nat (getD_at h)
          refine ⟨_, rfl, _, rfl, _, rfl, _, _, _, _, rfl, rfl, SqT.of (s12 _ _ hp), ai hv2, _, rfl, _, _, _, _, rfl, rfl, SqT.of (s12 _ _ ht), ak hk', _, rfl, _, rfl, _, _, _, _, rfl, rfl, SqT.of hu9, ak (by omega), _, rfl, _, _, _, rfl, _, _, rfl, rfl, some (.int (0 + (k' : Int))), ?_, rfl⟩
          rw [wona_succ, ← Int.add_assoc]
          rfl
        · rintro σ H4 ⟨o5, rfl, rfl⟩
          rw [← wt]
          exact ⟨_, _, rfl, rfl⟩
      · rintro σ H3 ⟨o4, o5, rfl, rfl⟩
        rw [lk, List.take_length]
        refine ⟨_, rfl, _, rfl, _, rfl, _, _, _, _, rfl, rfl, SqL.of (s12 _ _ hL), ai hv1, _, _, _, _, rfl, rfl, SqT.of (s12 _ _ ha), rfl, _, rfl, _, _, rfl, rfl, .inl ⟨by omega, by omega⟩, _, rfl, _, _, rfl, .inl (SqL.of hKd), (by show 2 ≤ sizeLine; decide), fun y hy => ?_⟩
        have sy := same_upd (o := .tup [.int (c1 * won v r os), .int ((ks.length : Nat) : Int)]) hy
        refine ⟨z, y, N, M, _, _, rfl, sy _ _ (s2 _ _ hz), upd_same, M1, by omega, by omega, by omega, fun z' N' M' H5 s5 hz' eq l1 l2 => ?_⟩
        have b := md_bd M1 M2 (show 1 ≤ ((ks.length : Nat) : Int) by omega) (by omega)
        refine ⟨z', N', M', _, _, _, _, _, rfl, (s12.trans sy).trans s5, hz', ?_, l1, by omega⟩
        rw [sumI_range, eg]
        exact frac_step eq eN rfl (by rw [← r2, wq, lk]) (many_div m1 m12) (by omega)
    · rintro σ H1 ⟨z, N, M, o1, o2, o3, o4, o5, rfl, s1, hz, eN, M1, M2⟩
      refine ⟨_, rfl, k z N M H1 s1 hz eN M1 ?_⟩
      have : (24 : Int) ^ cs.length ≤ 331776 := by
        rcases (by omega : cs.length = 0 ∨ cs.length = 1 ∨ cs.length = 2 ∨ cs.length = 3 ∨ cs.length = 4) with h | h | h | h | h <;> rw [h] <;> decide
      omega
def spBe : Sp := fun vs H Q _ => ∃ (p : Pla) (L s : Addr) (cs : List Cls2) (rs : List Rw), vs = [.ref p, .ref L, .ref s] ∧ Pool H p ∧ LAt ClP H L cs ∧ L ≠ p ∧ ClsV cs ∧ SpA H s rs ∧ Due cs rs ∧ ∀ (t : Addr) (rs' : List Rw) (H' : Hp), Pool H' p → Keeps H H' p → SpA H' t rs' → Due cs rs' → Q (.ref t) H'
abbrev CalBe (P : Program) (w : World) (K : PySem.W.Frag) (mg : Str → Option Value) (base : Heap) := Cal P w K mg base 3 "_law_beside" ["_law_pool_here", "_law_classes_here", "_law_spread_here"] spBe
theorem tup_keep {H H' : Hp} {p : Pla} {t : Addr} {xs : List V} (h : H t = some (.tup xs)) (hP : Pool H p) (k : Keeps H H' p) : H' t = some (.tup xs) := by
  obtain ⟨_, _, _, _, _, hp, _⟩ := hP
  exact k _ _ h (ne_of h hp (by intro q; cases q))
theorem ok_be (B : Blt mg) (C_draw : CalDraw P w K mg base) (C_cut : CalCut P w K mg base) (D : Dfn K mg "_law_beside" "_law_beside" s_beside ["_law_pool_here", "_law_classes_here", "_law_spread_here"]) : CalBe P w K mg base := by
  refine D.cal sc_beside (fun vs H Q E h => ?_) (fun f cdv A outer st H vs Q E hr h => ?_)
  · obtain ⟨p, L, s, cs, rs, rfl, _⟩ := h
    rfl
  · obtain ⟨p, L, s, cs, rs, rfl, hP, hL, np, ok, hs, due, q⟩ := h
    obtain ⟨us, hs1, hu⟩ := id hs
    have lu := hu.1
    have e1 := due.1.1
    have l4 := ok.l4
    refine ⟨_, (pss_cons (ps_set (i := 3) sc_beside.nd rfl (Or.inl rfl) (pe_lst pa_nil))
      (pss_cons (ps_for PassesOwn.never rfl (pi_tup (pv 2)) (pg_name (i := 4) sc_beside.nd rfl (Or.inl rfl)) (pss_one (ps_for PassesOwn.never rfl (pi_tup (pv 4)) (pg_name (i := 5) sc_beside.nd rfl (Or.inl rfl)) (pss_one (ps_expr (pe_bm PySem.F.plainAttrs_list PySem.F.slot_list_append PySem.F.type_list_append mt_append (pv 3) (pa_cons (pe_callB (call_max2 rfl) (by rfl) B.max (by decide +kernel) (pa_cons (pe_int) (pa_cons (pe_op op_sub (pe_op op_add (pv 5) (pe_cal C_draw (hr.mono (by decide)) (pa_cons (pv 0) (pa_cons (pe_int) pa_nil)))) (pe_int)) pa_nil))) pa_nil)))))))
      (pss_cons (ps_if (pt_cmpR op_gt (pe_callB (cr_sum rfl) (by rfl) B.sum (by decide +kernel) (pa_cons (pv 3) pa_nil)) (pe_int) (nomark _)) (pss_one (ps_ret (pv 2))) pss_nil)
      (pss_one (ps_ret (pe_cal C_cut (hr.mono (by decide)) (pa_cons (pv 1) (pa_cons (pv 3) pa_nil)))))))), ?_⟩
    refine ⟨(by show 0 ≤ sizeLine; decide), fun Z hZ => ?_⟩
    have dp := hP.apart hZ
    refine ⟨_, rfl, s, rfl, ⟨_, SqT.of (same_upd hZ _ _ hs1)⟩, for_tup (K := K) (a := s) (xs := us) (fun i σ H' => ∃ (o1 o2 : Option V) (zs : List Int), σ = [some (.ref (p : Addr)), some (.ref L), some (.ref s), some (.ref Z), o1, o2] ∧ Pool H' p ∧ Keeps H H' p ∧ H' Z = some (.lst (zs.map V.int)) ∧ (zs.length : Int) = fds (cs.take i) ∧ ∀ z, z ∈ zs → 0 ≤ z) ⟨none, none, [], rfl, hP.upd hZ, same_keeps (same_upd hZ), upd_same, rfl, fun z hz => nomatch hz⟩ (fun i σ H' _ h => by obtain ⟨_, _, _, _, _, k, _⟩ := h; exact SqT.of (tup_keep hs1 hP k)) ?_ ?_⟩
    · rintro i y σ H1 hy ⟨o1, o2, zs, rfl, hP1, k1, hZ1, lz, zp⟩
      have hi : i < us.length := (List.getElem?_eq_some_iff.mp hy).1
      have hri : rs[i]? = some rs[i] := List.getElem?_eq_getElem (by omega)
      have hci : cs[i]? = some cs[i] := List.getElem?_eq_getElem (by omega)
      obtain ⟨v, hv, t, rfl, ht⟩ := hu.2 i _ hri
      rw [hy] at hv
      cases hv
      have rl := (due.1.2 i _ _ hci hri).len
      have et := fds_take hci
      have e3 := fds_to (fun c hc => (ok.b12 c hc).1) (i := i + 1)
      have sm := ok.sm
      generalize rs[i] = r at *
      generalize cs[i] = c at *
      rw [et]
      have lr : (r.map V.int).length = r.length := List.length_map ..
      refine ⟨_, rfl, t, rfl, ⟨_, SqT.of (tup_keep ht hP k1)⟩, for_tup (K := K) (a := t) (xs := r.map V.int) (fun j σ H' => ∃ (o2 : Option V) (zs : List Int), σ = [some (.ref (p : Addr)), some (.ref L), some (.ref s), some (.ref Z), some (.ref t), o2] ∧ Pool H' p ∧ Keeps H H' p ∧ H' Z = some (.lst (zs.map V.int)) ∧ (zs.length : Int) = fds (cs.take i) + (j : Int) ∧ ∀ z, z ∈ zs → 0 ≤ z) ⟨o2, zs, rfl, hP1, k1, hZ1, by omega, zp⟩ (fun j σ H' _ h => by obtain ⟨_, _, _, _, k, _⟩ := h; exact SqT.of (tup_keep ht hP k)) ?_ ?_⟩
      · rintro j y σ H2 hy2 ⟨o2, zs, rfl, hP2, k2, hZ2, lz, zp⟩
        have hj : j < r.length := by
          have := (List.getElem?_eq_some_iff.mp hy2).1
          omega
        obtain ⟨x, hx, rfl⟩ := int_of_map hy2
        refine ⟨_, rfl, .inl ⟨rfl, _, SqL.of hZ2⟩, _, rfl, _, rfl, p, 3, rfl, hP2, by decide, by decide, fun z H3 z0 z1 hP3 k3 => ⟨_, _, rfl, rfl, _, _, rfl, rfl, _, _, rfl, Z, _, _, rfl, rfl, k3 _ _ hZ2 dp.1, small1000 (by rw [List.length_map]; omega), ?_⟩⟩
        refine ⟨_, zs ++ [if x + z - 1 > 0 then x + z - 1 else 0], rfl, hP3.store dp.1 dp.2, keeps_late (k2.trans k3) hZ, ?_, ?_, fun y hy => ?_⟩
        · rw [upd_same, List.map_append]
          rfl
        · rw [List.length_append]
          show ((zs.length + 1 : Nat) : Int) = _
          omega
        · rcases List.mem_append.mp hy with h | h
          · exact zp y h
          · rw [List.mem_singleton.mp h]
            split <;> omega
      · rintro σ H2 ⟨o2, zs, rfl, hP2, k2, hZ2, lz, zp⟩
        exact ⟨_, _, zs, rfl, hP2, k2, hZ2, by omega, zp⟩
    · rintro σ H1 ⟨o1, o2, zs, rfl, hP1, k1, hZ1, lz, zp⟩
      rw [lu, e1, List.take_length] at lz
      refine ⟨_, rfl, _, _, rfl, SqL.of hZ1, _, _, rfl, rfl, _, rfl, ifD (fun h => ?_) (fun h => ?_)⟩
      · exact ⟨_, rfl, q s rs H1 hP1 k1 (spA_keep hs hP k1) due⟩
      · exact ⟨_, rfl, _, rfl, L, Z, cs, zs, rfl, lat_keep hL hP np k1, ok, hZ1, lz, zp, by omega, fun t rs' H2 s2 ht due' => q t rs' H2 (hP1.same s2) (k1.trans (same_keeps s2)) ht due'⟩
theorem mid_at {rs : List Rw} {x : Rw} {i : Nat} (h : i ≤ rs.length) : (rs.take i ++ [x] ++ rs.drop (i + 1))[i]? = some x := by
  have l : (rs.take i).length = i := by rw [List.length_take]; omega
  rw [List.append_assoc, List.getElem?_append_right (by omega), l, Nat.sub_self]
  rfl
theorem last_snoc {r : Rw} {z : Int} : lastI (r ++ [z]) = z := by
  unfold lastI
  rw [List.length_append, List.getD_eq_getElem?_getD, List.getElem?_append_right (by show r.length ≤ r.length + 1 - 1; omega)]
  show ([z] : Rw)[r.length + 1 - 1 - r.length]?.getD 0 = z
  rw [show r.length + 1 - 1 - r.length = 0 by omega]
  rfl
theorem cut_row {r : Rw} {lo hi : Option Int} : ∃ r' : Rw, cutV (r.map V.int) lo hi = r'.map V.int ∧ r'.length ≤ r.length := ⟨_, cut_ints, by rw [List.length_take, List.length_drop]; omega⟩
def spSpo : Sp := fun vs H Q _ => ∃ (p : Pla) (s : Addr) (cs : List Cls2) (rs : List Rw), vs = [.ref p, .ref s] ∧ Pool H p ∧ ClsV cs ∧ SpA H s rs ∧ Due cs rs ∧ ∀ (t : Addr) (rs' : List Rw) (H' : Hp), Pool H' p → Keeps H H' p → SpA H' t rs' → Bnd rs' → ¬ Due cs rs' → Q (.ref t) H'
abbrev CalSpo (P : Program) (w : World) (K : PySem.W.Frag) (mg : Str → Option Value) (base : Heap) := Cal P w K mg base 3 "_law_spoiled" ["_law_pool_here", "_law_spread_here"] spSpo
theorem ok_spo (B : Blt mg) (C_draw : CalDraw P w K mg base) (C_draw1 : CalDraw1 P w K mg base) (D : Dfn K mg "_law_spoiled" "_law_spoiled" s_spoiled ["_law_pool_here", "_law_spread_here"]) : CalSpo P w K mg base := by
  refine D.cal sc_spoiled (fun vs H Q E h => ?_) (fun f cdv A outer st H vs Q E hr h => ?_)
  · obtain ⟨p, s, cs, rs, rfl, _⟩ := h
    rfl
  · obtain ⟨p, s, cs, rs, rfl, hP, ok, hs, due, q⟩ := h
    have sh := due.shp ok
    have l1 := sh.l1
    have l4 := sh.l4
    have e1 := due.1.1
    refine ⟨_, (Evl.pss_cut (ps_set (i := 2) sc_spoiled.nd rfl (Or.inl rfl) (L.pe_or (pe_cal C_draw (hr.mono (by decide)) (pa_cons (pv 0) (pa_cons (pe_callB call_len_seq (by rfl) B.len PySem.boot_len (pa_cons (pv 1) pa_nil)) pa_nil))) (pe_cal C_draw1 (hr.mono (by decide)) (pa_cons (pv 0) (pa_cons (pe_callB call_len_seq (by rfl) B.len PySem.boot_len (pa_cons (pv 1) pa_nil)) pa_nil)))))
      (pss_cons (ps_set (i := 3) sc_spoiled.nd rfl (Or.inl rfl) (pe_ix ix_tup (pv 1) (pv 2) (fun _ _ => rfl)))
      (pss_cons (ps_set (i := 4) sc_spoiled.nd rfl (Or.inl rfl) (pe_cal C_draw (hr.mono (by decide)) (pa_cons (pv 0) (pa_cons (pe_int) pa_nil))))
      (pss_cons (ps_if (pt_cmpR op_eq (pv 4) (pe_int) (nomark _)) (pss_one (ps_ret (pe_op Zm.op_catH (pe_op Zm.op_catH (pe_slice Zm.sl_tupH (pv 1) po_none (po_some (pv 2))) (pe_tup (pa_cons (pe_op Zm.op_catH (pv 3) (pe_tup (pa_cons (pe_int) pa_nil))) pa_nil))) (pe_slice Zm.sl_tupH (pv 1) (po_some (pe_op op_add (pv 2) (pe_int))) po_none)))) pss_nil)
      (pss_cons (ps_if (pt_cmpR op_eq (pv 4) (pe_int) (nomark _)) (pss_one (ps_ret (pe_op Zm.op_catH (pe_op Zm.op_catH (pe_slice Zm.sl_tupH (pv 1) po_none (po_some (pv 2))) (pe_tup (pa_cons (pv 3) pa_nil))) (pe_slice Zm.sl_tupH (pv 1) (po_some (pv 2)) po_none)))) pss_nil)
      (pss_one (ps_ret (pe_op Zm.op_catH (pe_op Zm.op_catH (pe_slice Zm.sl_tupH (pv 1) po_none (po_some (pv 2))) (pe_tup (pa_cons (pe_op Zm.op_catH (pe_slice Zm.sl_tupH (pv 3) po_none (po_some (pe_un un_neg (pe_int)))) (pe_tup (pa_cons (pe_op op_sub (pe_un un_neg (pe_int)) (pe_cal C_draw (hr.mono (by decide)) (pa_cons (pv 0) (pa_cons (pe_int) pa_nil)))) pa_nil))) pa_nil))) (pe_slice Zm.sl_tupH (pv 1) (po_some (pe_op op_add (pv 2) (pe_int))) po_none))))))))), ?_⟩
    refine ⟨fun σ' H' => ∃ i : Nat, σ' = [some (.ref (p : Addr)), some (.ref s), some (.int (i : Int)), none, none] ∧ i < rs.length ∧ Pool H' p ∧ Keeps H H' p, ?_, ?_⟩
    · obtain ⟨vs, hs1, pr⟩ := id hs
      have lv := pr.1
      rcases (by omega : rs.length = 1 ∨ 2 ≤ rs.length) with h0 | h0
      · refine .inr ⟨_, rfl, _, rfl, _, _, rfl, .inr (SqT.of hs1), p, ?_, 0, rfl, by omega, hP, Keeps.refl _ _⟩
        rw [lv, h0]
        rfl
      · refine .inl ⟨_, rfl, _, rfl, _, _, rfl, .inr (SqT.of hs1), p, _, rfl, hP, by omega, by omega, fun r H1 r0 r1 hP1 k1 => ?_⟩
        obtain ⟨i, rfl⟩ : ∃ i : Nat, r = (i : Int) := ⟨r.toNat, by omega⟩
        exact ⟨i, rfl, by omega, hP1, k1⟩
    rintro σ' H1 ⟨i, rfl, hi, hP1, k1⟩
    have hs1 := spA_keep hs hP k1
    have hri : rs[i]? = some rs[i] := List.getElem?_eq_getElem hi
    have hci : cs[i]? = some cs[i] := List.getElem?_eq_getElem (by omega)
    obtain ⟨r1, r12⟩ := sh.at_ _ (List.mem_of_getElem? hri)
    have rl := (due.1.2 i _ _ hci hri).len
    have bad : ∀ x : Rw, ¬ Row cs[i].2 x → ¬ Due cs (rs.take i ++ [x] ++ rs.drop (i + 1)) := fun x n d => n (d.1.2 i _ _ hci (mid_at (by omega)))
    have bnd : ∀ x : Rw, x.length ≤ 60 → Bnd (rs.take i ++ [x] ++ rs.drop (i + 1)) := fun x hx => by
      refine ⟨?_, fun r hr => ?_⟩
      · rw [List.length_append, List.length_append, List.length_take, List.length_drop]
        show _ + 1 + _ ≤ 12
        omega
      · rcases List.mem_append.mp hr with h | h
        · rcases List.mem_append.mp h with h | h
          · have := (sh.at_ r (List.mem_of_mem_take h)).2
            omega
          · rw [List.mem_singleton.mp h]
            exact hx
        · have := (sh.at_ r (List.mem_of_mem_drop h)).2
          omega
    generalize rs[i] = r at *
    generalize cs[i] = c at *
    obtain ⟨vs, hs2, pr⟩ := id hs1
    have lv := pr.1
    obtain ⟨v, hv, t, rfl, ht⟩ := pr.2 i r hri
    have lr := map_int r
    have size : ∀ {n : Nat}, n ≤ 40 → n ≤ sizeLine := fun h => Nat.le_of_lt (small1000 (by omega))
    refine ⟨_, rfl, _, rfl, _, _, _, _, rfl, rfl, SqT.of hs2, atI_nat hv, ?_⟩
    refine ⟨_, rfl, p, 3, rfl, hP1, by decide, by decide, fun w H2 w0 w1 hP2 k2 => ?_⟩
    have ht2 := tup_keep ht hP1 k2
    have hs3 := tup_keep hs2 hP1 k2
    have pr2 : PG (RwP H2) vs rs := pr.imp fun v r h => by
      obtain ⟨t, e, ht⟩ := h
      exact ⟨t, e, tup_keep ht hP1 k2⟩
    have k2 := k1.trans k2
    refine ⟨_, rfl, rfl, _, rfl, ifE (fun _ => ?_) (fun _ => ?_)⟩
    · refine ⟨_, rfl, _, rfl, _, rfl, _, _, rfl, hs3, fun p1 H3 s3 h3 => ?_⟩
      have s3 : Same H2 H3 := s3
      rw [cut_l (by omega)] at h3
      refine ⟨_, rfl, (by show 1 ≤ sizeLine; decide), fun y hy => ?_⟩
      have sy := same_upd (o := .tup [.int 0]) hy
      refine ⟨t, y, _, _, rfl, rfl, sy _ _ (s3 _ _ ht2), upd_same, size (by rw [lr]; show _ + 1 ≤ 40; omega), fun u H4 s4 h4 => ?_⟩
      have s34 : Same H3 H4 := sy.trans s4
      have s4 : Same H2 H4 := s3.trans s34
      refine ⟨(by show 1 ≤ sizeLine; decide), fun y2 hy2 => ?_⟩
      have sy2 := same_upd (o := .tup [.ref u]) hy2
      refine ⟨p1, y2, _, _, rfl, rfl, sy2 _ _ (s34 _ _ h3), upd_same, size (by rw [List.length_take]; show _ + 1 ≤ 40; omega), fun p3 H5 s5 h5 => ?_⟩
      have s5 : Same H4 H5 := sy2.trans s5
      refine ⟨_, rfl, _, rfl, _, _, rfl, rfl, _, rfl, ?_⟩
      dsimp only [tNoPart]
      refine ⟨_, _, rfl, s5 _ _ (s4 _ _ hs3), fun p4 H6 s6 h6 => ?_⟩
      have s6 : Same H5 H6 := s6
      rw [cut_r (by omega)] at h6
      refine ⟨p3, p4, _, _, rfl, rfl, s6 _ _ h5, h6, size (by rw [List.length_append, List.length_take, List.length_drop]; show _ + 1 + _ ≤ 40; omega), fun p5 H7 s7 h7 => ?_⟩
      have s7 : Same H4 H7 := (s5.trans s6).trans s7
      have up : PG (RwP H7) vs rs := pr2.imp fun v r h => rwP_mono _ _ _ _ (s4.trans s7) h
      refine q p5 _ H7 (hP2.same (s4.trans s7)) (k2.trans (same_keeps (s4.trans s7))) ⟨_, h7, pg_app (pg_app (pg_take up) (pg_one ⟨u, rfl, ?_⟩)) (pg_drop up)⟩ (bnd (r ++ [0]) (by rw [List.length_append]; show _ + 1 ≤ 60; omega)) (bad (r ++ [0]) fun k => ?_)
      · rw [s7 _ _ h4, List.map_append]
        rfl
      · have := k.len
        rw [List.length_append] at this
        have this : ((r.length + 1 : Nat) : Int) = c.2 := this
        omega
    refine ⟨_, rfl, rfl, _, rfl, ifE (fun _ => ?_) (fun _ => ?_)⟩
    · refine ⟨_, rfl, _, rfl, _, rfl, _, _, rfl, hs3, fun p1 H3 s3 h3 => ?_⟩
      have s3 : Same H2 H3 := s3
      rw [cut_l (by omega)] at h3
      refine ⟨_, rfl, (by show 1 ≤ sizeLine; decide), fun y2 hy2 => ?_⟩
      have sy2 := same_upd (o := .tup [.ref t]) hy2
      refine ⟨p1, y2, _, _, rfl, rfl, sy2 _ _ h3, upd_same, size (by rw [List.length_take]; show _ + 1 ≤ 40; omega), fun p3 H5 s5 h5 => ?_⟩
      have s5 : Same H2 H5 := (s3.trans sy2).trans s5
      refine ⟨_, rfl, _, rfl, _, rfl, ?_⟩
      dsimp only [tNoPart]
      refine ⟨_, _, rfl, s5 _ _ hs3, fun p4 H6 s6 h6 => ?_⟩
      have s6 : Same H5 H6 := s6
      rw [cut_from (by omega)] at h6
      refine ⟨p3, p4, _, _, rfl, rfl, s6 _ _ h5, h6, size (by rw [List.length_append, List.length_take, List.length_drop]; show _ + 1 + _ ≤ 40; omega), fun p5 H7 s7 h7 => ?_⟩
      have s7 : Same H2 H7 := (s5.trans s6).trans s7
      have up : PG (RwP H7) vs rs := pr2.imp fun v r h => rwP_mono _ _ _ _ s7 h
      refine q p5 (rs.take i ++ [r] ++ rs.drop i) H7 (hP2.same s7) (k2.trans (same_keeps s7)) ⟨_, h7, pg_app (pg_app (pg_take up) (pg_one ⟨t, rfl, s7 _ _ ht2⟩)) (pg_drop up)⟩ ⟨?_, fun x hx => ?_⟩ fun d => ?_
      · rw [List.length_append, List.length_append, List.length_take, List.length_drop]
        show _ + 1 + _ ≤ 12
        omega
      · rcases List.mem_append.mp hx with h | h
        · rcases List.mem_append.mp h with h | h
          · have := (sh.at_ x (List.mem_of_mem_take h)).2
            omega
          · rw [List.mem_singleton.mp h]
            omega
        · have := (sh.at_ x (List.mem_of_mem_drop h)).2
          omega
      · have := d.1.1
        rw [List.length_append, List.length_append, List.length_take, List.length_drop] at this
        have this : min i rs.length + 1 + (rs.length - i) = cs.length := this
        omega
    · refine ⟨_, rfl, _, rfl, _, rfl, _, _, rfl, hs3, fun p1 H3 s3 h3 => ?_⟩
      have s3 : Same H2 H3 := s3
      rw [cut_l (by omega)] at h3
      refine ⟨_, rfl, _, rfl, _, rfl, _, _, rfl, s3 _ _ ht2, fun p8 H8 s8 h8 => ?_⟩
      have s8 : Same H3 H8 := s8
      obtain ⟨x1, e9, g1⟩ := cut_row (r := r) (lo := none) (hi := some (-1))
      rw [e9] at h8
      have s38 := s3.trans s8
      have hP8 := hP2.same s38
      refine ⟨_, rfl, _, rfl, p, 3, rfl, hP8, by decide, by decide, fun z H9 z0 z1 hP9 k9 => ⟨_, _, rfl, rfl, (by show 1 ≤ sizeLine; decide), fun y hy => ?_⟩⟩
      have sy := same_upd (o := .tup [.int (-1 - z)]) hy
      have h8' := tup_keep h8 hP8 k9
      have h3 := tup_keep (s8 _ _ h3) hP8 k9
      have hs9 := tup_keep (s38 _ _ hs3) hP8 k9
      have pr9 : PG (RwP H9) vs rs := pr2.imp fun v r h => by
        obtain ⟨t, e, ht⟩ := h
        exact ⟨t, e, tup_keep (s38 _ _ ht) hP8 k9⟩
      have k9 := (k2.trans (same_keeps s38)).trans k9
      refine ⟨p8, y, _, _, rfl, rfl, sy _ _ h8', upd_same, size (by rw [map_int]; show _ + 1 ≤ 40; omega), fun u H4 s4 h4 => ?_⟩
      have s4 : Same H9 H4 := sy.trans s4
      refine ⟨(by show 1 ≤ sizeLine; decide), fun y2 hy2 => ?_⟩
      have sy2 := same_upd (o := .tup [.ref u]) hy2
      refine ⟨p1, y2, _, _, rfl, rfl, sy2 _ _ (s4 _ _ h3), upd_same, size (by rw [List.length_take]; show _ + 1 ≤ 40; omega), fun p3 H5 s5 h5 => ?_⟩
      have s5 : Same H4 H5 := sy2.trans s5
      refine ⟨_, rfl, _, rfl, _, _, rfl, rfl, _, rfl, ?_⟩
      dsimp only [tNoPart]
      refine ⟨_, _, rfl, s5 _ _ (s4 _ _ hs9), fun p4 H6 s6 h6 => ?_⟩
      have s6 : Same H5 H6 := s6
      rw [cut_r (by omega)] at h6
      refine ⟨p3, p4, _, _, rfl, rfl, s6 _ _ h5, h6, size (by rw [List.length_append, List.length_take, List.length_drop]; show _ + 1 + _ ≤ 40; omega), fun p5 H7 s7 h7 => ?_⟩
      have s7 : Same H4 H7 := (s5.trans s6).trans s7
      have up : PG (RwP H7) vs rs := pr9.imp fun v r h => rwP_mono _ _ _ _ (s4.trans s7) h
      refine q p5 _ H7 (hP9.same (s4.trans s7)) (k9.trans (same_keeps (s4.trans s7))) ⟨_, h7, pg_app (pg_app (pg_take up) (pg_one ⟨u, rfl, ?_⟩)) (pg_drop up)⟩ (bnd (x1 ++ [-1 - z]) (by rw [List.length_append]; show _ + 1 ≤ 60; omega)) (bad (x1 ++ [-1 - z]) fun k => ?_)
      · rw [s7 _ _ h4, List.map_append]
        rfl
      · have := k.pos
        rw [last_snoc] at this
        omega
end
end L

set_option Elab.async false
set_option linter.all false
set_option maxRecDepth 100000
set_option maxHeartbeats 4000000
set_option pp.maxSteps 160
set_option pp.deepTerms false
namespace L
open PySem PySem.Spec PyProof.Rows L2 Fl
local macro_rules | `(tactic| walk_at "side") => `(tactic| first | (exact .inl ⟨by omega, by omega⟩) | (exact .inr ⟨by omega, by omega⟩) | (exact .inr ⟨by decide, by decide⟩) | (show (_ : Int) ≠ _; omega) | (exact ⟨by omega, by decide⟩) | (exact ⟨by decide, by decide, by decide⟩))
local macro_rules | `(tactic| walk_at "go") => `(tactic| repeat (first | refine ⟨_, rfl, ?_⟩ | refine ⟨_, _, rfl, rfl, ?_⟩ | refine .inl ⟨_, rfl, ?_⟩ | refine ⟨rfl, ?_⟩ | refine ⟨(by walk_at "side"), ?_⟩))
local macro_rules | `(tactic| walk_at "see") => `(tactic| (set_option pp.maxSteps 110 in set_option pp.deepTerms false in trace_state))
local macro_rules | `(tactic| walk_at "if") => `(tactic| first | refine ifE ?_ ?_ | refine ifNE ?_ ?_ | refine ifD ?_ ?_ | refine ifN ?_ ?_ | refine ifB ?_ ?_)
open Bx
def kindD : PyData := .tuple [.bool true, .bool true, .bool false]
theorem kind_ok : SeqAt.shaped kindD = true := by
  simp [kindD, SeqAt.shaped, PyData.canLay0, PyData.canLayAll0, PyData.depth, PyData.depthAll]
theorem kind_dp {K : PySem.W.Frag} {H : Hp} {z : Addr} (h : H z = some (.tup [.bl true, .bl true, .bl false])) : Dp K H (.ref z) kindD := .tup (SqT.of h) (.cons (.bl _) (.cons (.bl _) (.cons (.bl _) .nil)))

theorem outv_neg {v x y : Int} : outv (-v) y x = -outv v x y := by
  unfold outv
  by_cases h : x = y
  · rw [if_pos h, if_pos h.symm]
  · rw [if_neg h, if_neg (fun e => h e.symm)]
    by_cases h2 : x > y
    · rw [if_pos h2, if_neg (by omega)]
    · rw [if_neg h2, if_pos (by omega)]
      rfl
theorem sum_neg {α : Type} (f : α → Int) : ∀ (l : List α), (l.map fun x => -f x).sum = -(l.map f).sum
  | [] => rfl
  | x :: r => by
    rw [List.map_cons, List.sum_cons, List.map_cons, List.sum_cons, sum_neg f r]
    omega
theorem pairs_neg {v : Int} {xs ys : Rw} : pairs (-v) ys xs = -pairs v xs ys := by
  unfold pairs gsum
  rw [sum_swap (fun (y : Int) (x : Int) => outv (-v) y x) xs ys, ← sum_neg]
  refine congrArg List.sum (List.map_congr_left fun x _ => ?_)
  rw [← sum_neg]
  exact congrArg List.sum (List.map_congr_left fun y _ => outv_neg)
theorem gns_neg {v : Int} {cs : List Cls2} {rs ss : List Rw} : sumI (gns (-v) cs ss rs) = -sumI (gns v cs rs ss) := by
  unfold gns
  generalize List.range cs.length = is
  induction is with
  | nil => rfl
  | cons i r ih =>
    show gn (-v) cs ss rs i + sumI (r.map (gn (-v) cs ss rs)) = -(gn v cs rs ss i + sumI (r.map (gn v cs rs ss)))
    rw [ih]
    have e : gn (-v) cs ss rs i = -gn v cs rs ss i := by
      unfold gn
      rw [pairs_neg, Int.mul_neg, Int.neg_mul]
    rw [e]
    omega
theorem gns_bd {v : Int} {cs : List Cls2} {rs ss : List Rw} (hv : v = -1 ∨ v = 0 ∨ v = 1) (ok : ClsV cs) (d1 : Due cs rs) (d2 : Due cs ss) : ∀ n, n ∈ gns v cs rs ss → n.natAbs < 2 ^ 60 := fun n hn => by
  obtain ⟨i, hi, e⟩ := List.mem_map.mp hn
  have hi := List.mem_range.mp hi
  have e1 := d1.1.1
  have e2 := d2.1.1
  have hci : cs[i]? = some cs[i] := List.getElem?_eq_getElem hi
  have hri : rs[i]? = some rs[i] := List.getElem?_eq_getElem (by omega)
  have hsi : ss[i]? = some ss[i] := List.getElem?_eq_getElem (by omega)
  obtain ⟨w1, w2, m1⟩ := ok.at_ _ (List.mem_of_getElem? hci)
  have m12 := (ok.b12 _ (List.mem_of_getElem? hci)).2
  have l1 := (d1.1.2 i _ _ hci hri).len
  have l2 := (d2.1.2 i _ _ hci hsi).len
  have pb := pairs_bd (v := v) (xs := rs[i]) (ys := ss[i]) hv
  have pb2 : (pairs v rs[i] ss[i]).natAbs ≤ 10000 := Nat.le_trans pb (Nat.le_trans (Nat.mul_le_mul (show rs[i].length ≤ 12 by omega) (show ss[i].length ≤ 12 by omega)) (by decide))
  rw [← e, gn_at hci hri hsi]
  exact gn_bd ⟨w1, w2⟩ m1 pb2
theorem sq_of {v N M : Int} {cs : List Cls2} {rs ss : List Rw} (hv : v = -1 ∨ v = 0 ∨ v = 1) (ok : ClsV cs) (d1 : Due cs rs) (d2 : Due cs ss) (hN : N * 27720 = sumI (gns v cs rs ss) * M) (h1 : 1 ≤ M) (h2 : M ≤ 331776) : Sq N M := by
  have b := sumI_bd (gns_bd hv ok d1 d2)
  have l : (gns v cs rs ss).length = cs.length := by unfold gns; rw [List.length_map, List.length_range]
  have l4 := ok.l4
  have b2 : (sumI (gns v cs rs ss)).natAbs ≤ 4 * 2 ^ 60 := Nat.le_trans b (Nat.mul_le_mul_right _ (by omega))
  have e := congrArg Int.natAbs hN
  rw [Int.natAbs_mul, Int.natAbs_mul] at e
  have c : (sumI (gns v cs rs ss)).natAbs * M.natAbs ≤ 4 * 2 ^ 60 * 331776 := Nat.mul_le_mul b2 (by omega)
  have f : N.natAbs < 2 ^ 100 := by
    have : (27720 : Int).natAbs = 27720 := rfl
    rw [this] at e
    have : (4 * 2 ^ 60 * 331776 : Nat) < 2 ^ 100 := by decide
    omega
  exact ⟨by omega, ub f (by decide), ub (show M.natAbs < 2 ^ 20 by omega) (by decide)⟩
def rfL (v : Int) : List V := if v = -1 ∨ v = 0 ∨ v = 1 then [.str "spread", .str "", .int 0] else [.str "number", .str "ties", .int v]
theorem str3 {a n : Str} {v : Int} (h1 : PyData.strOk a = true) (h2 : PyData.strOk n = true) : SeqAt.shaped (.tuple [.str a, .str n, .int v]) = true := by
  simp [SeqAt.shaped, PyData.canLay0, PyData.canLayAll0, PyData.depth, PyData.depthAll, h1, h2]
theorem dp3 {K : PySem.W.Frag} {H : Hp} {z : Addr} {a n : Str} {v : Int} (h : H z = some (.tup [.str a, .str n, .int v])) : Dp K H (.ref z) (.tuple [.str a, .str n, .int v]) := .tup (SqT.of h) (.cons (.str _) (.cons (.str _) (.cons (.int _) .nil)))
/-- a def with the keyword-only parameter ties, 0 if it is left out -/
structure CalKW3 (P : Program) (w : World) (K : PySem.W.Frag) (mg : Str → Option Value) (base : Heap) (k : Nat) (x : Str) (ps : List Str) (sp : Sp) : Prop where
  ex : ∃ (f : Addr) (fd : FuncData) (ds : List Value), FnOk P w K mg base (L2.CX P w) k f fd ps sp ∧ mg x = some (.ref f) ∧ PySem.W.keepIn K (.ref f) = true ∧ Vals [V.int 0] ds ∧ Binds K fd ps ds ∧ KBn K fd ps 3 [("ties" : Str)] (fun us ws => us ++ ws) (fun vs zs => vs ++ zs)
theorem pe_calK03 {X : Cx} {k : Nat} {x : Str} {ps : List Str} {sp : Sp} {p pos : Pos} {e : Expr} {es : List Expr} {t : TA} (C : CalKW3 X.prog X.w X.K X.mg X.base k x ps sp) (hr : Room k X.A) (ha : PA X (e :: es) t) (hg : Gl X x := by rfl)
    (hdb : (x == ("__debug__" : Str)) = false := by decide) (he : starEach (e :: es) X.env = (false, eval e X.env) :: starEach es X.env := by rfl) (hpl : (backTo pos (starEach es X.env)).any (·.1) = false := by rfl) :
    PE X (.Call (.Name x p) (e :: es) [] pos) (tCall sp [V.int 0] E0 t) := by
  obtain ⟨f, fd, ds, F, m, kp, d, b, _⟩ := C.ex
  exact pe_call F hr hg m kp b d passL ha hdb he hpl
theorem pe_calK13 {X : Cx} {k : Nat} {x : Str} {ps : List Str} {sp : Sp} {p pos : Pos} {e : Expr} {es : List Expr} {kws : List Keyword} {t tk : TA} (C : CalKW3 X.prog X.w X.K X.mg X.base k x ps sp) (hr : Room k X.A) (ha : PA X (e :: es) t) (hkw : PK X kws tk) (hg : Gl X x := by rfl)
    (hall : (backToKw pos (keywordEach kws X.env)).all (·.1.isSome) = true := by rfl) (hks : (backToKw pos (keywordEach kws X.env)).filterMap (·.1) = [("ties" : Str)] := by rfl)
    (hdb : (x == ("__debug__" : Str)) = false := by decide) (he : starEach (e :: es) X.env = (false, eval e X.env) :: starEach es X.env := by rfl)
    (hpl : ((backTo pos (starEach (e :: es) X.env)).any (·.1) || (backToKw pos (keywordEach kws X.env)).any (·.1.isNone)) = false := by rfl) :
    PE X (.Call (.Name x p) (e :: es) kws pos) (tCallN 3 1 sp (fun vs zs => vs ++ zs) E0 t tk) := by
  obtain ⟨f, fd, ds, F, m, kp, d, b, kb⟩ := C.ex
  exact pe_callN F hr hg m kp kb passL ha hkw hall hks hdb he hpl

def tCallKS3 (sp : Sp) (E : L2.St → XK) (t tk : TA) : TE := fun σ H Q => t σ H fun vs H1 => tk σ H1 fun zs H2 => vs.length = 3 ∧ zs.length = 1 ∧ sp (vs ++ zs) H2 Q (E σ)
theorem pe_calKS3 {X : Cx} {W : WX} {k : Nat} {x : Str} {ps : List Str} {sp : Sp} {p pos : Pos} {e : Expr} {es : List Expr} {kws : List Keyword} {t tkk : TA} (C : CalKW3 X.prog X.w X.K X.mg X.base k x ps sp) (tk : Takes X W) (hr : Room k X.A) (ha : PA X (e :: es) t) (hkw : PK X kws tkk) (hg : Gl X x := by rfl)
    (hall : (backToKw pos (keywordEach kws X.env)).all (·.1.isSome) = true := by rfl) (hks : (backToKw pos (keywordEach kws X.env)).filterMap (·.1) = [("ties" : Str)] := by rfl)
    (hdb : (x == ("__debug__" : Str)) = false := by decide) (he : starEach (e :: es) X.env = (false, eval e X.env) :: starEach es X.env := by rfl)
    (hpl : ((backTo pos (starEach (e :: es) X.env)).any (·.1) || (backToKw pos (keywordEach kws X.env)).any (·.1.isNone)) = false := by rfl) :
    PE X (.Call (.Name x p) (e :: es) kws pos) (tCallKS3 sp (WE W) t tkk) := by
  obtain ⟨f, fd, ds, F, m, kp, d, b, kb⟩ := C.ex
  refine ⟨fun pins s σ H Q I h => ?_⟩
  refine wpAny_Call_Name_kw (ld_glob I hg m ?_ hdb)
  refine PySem.W.callWith_KW (h₀ := X.base) I.ok.mod.kin kp hall (thn (ha.run pos pins s σ H _ I h) fun us s1 ⟨vs, H1, I1, r, q⟩ => ?_) hpl he
  refine thn (hkw.run pos pins s1 σ H1 _ I1 q) fun ws s2 ⟨zs, H2, I2, rz, l1, l2, q2⟩ => ⟨I2.kIn, ?_⟩
  rw [hks]
  have r2 := kb.rel r rz
  refine wpAny_call (codeAny_mono (F.run X.A X.stack s2 H2 ⟨us, [("ties" : Str)].zip ws⟩ (us ++ ws) (vs ++ zs) Q (WE W σ) hr I2.env0 (kb.to s2 us ws I2.kIn (r.length.symm.trans l1) (rz.length.symm.trans l2)) r2 q2) fun r s' hq => ?_)
  cases r with
  | error e => exact passAt tk σ pins H2 s2 e s' I2 hq
  | ok fl =>
    cases fl with
    | ret u => exact I2.after hq
    | next => exact False.elim hq
    | brk => exact False.elim hq
    | cont => exact False.elim hq
section
variable {P : Program} {w : World} {K : PySem.W.Frag} {mg : Str → Option Value} {base : Heap}

def spRe (G : Addr) : Sp := fun vs H Q _ => ∃ (x p q : Addr) (cs : List Cls2) (rs ss : List Rw) (v : Int), vs = [.ref x, .ref p, .ref q, .int v] ∧ GrAt G H x cs ∧ ClsV cs ∧ SpA H p rs ∧ SpA H q ss ∧ Bnd rs ∧ Bnd ss ∧ (¬ Tri3 v ∨ ¬ (Due cs rs ∧ Due cs ss)) ∧ ∀ (z : Addr) (H' : Hp), Same H H' → H' z = some (.tup (rfL v)) → Q (.ref z) H'
abbrev CalRe (P : Program) (w : World) (K : PySem.W.Frag) (mg : Str → Option Value) (base : Heap) (G : Addr) := Cal P w K mg base 6 "_law_refused" ["_law_ground_here", "_law_one", "_law_other", "_law_rule"] (spRe G)
abbrev CalSG (P : Program) (w : World) (K : PySem.W.Frag) (mg : Str → Option Value) (base : Heap) (G C BS BN : Addr) := CalKW3 P w K mg base 5 "spread_gain" ["ground", "one", "other", "ties"] (spSG G C BS BN)
theorem ok_re {G C BS BN LE : Addr} (B : Blt mg) (TB : BnC K mg BN) (TS : ExC K mg "BadSpread" BS) (gLotError : mg "LotError" = some (.ref LE)) (gBadNumber : mg "BadNumber" = some (.ref BN)) (gBadSpread : mg "BadSpread" = some (.ref BS))
    (b1 : PySem.W.kitOne K (.ref BN) (.ref LE) = some true) (b2 : PySem.W.kitOne K (.ref BN) (.type "ValueError") = some true) (b3 : PySem.W.kitOne K (.ref BN) (.ref BS) = some false)
    (n1 : PySem.W.kitOne K (.ref BS) (.ref LE) = some true) (n2 : PySem.W.kitOne K (.ref BS) (.type "ValueError") = some true) (n3 : PySem.W.kitOne K (.ref BS) (.ref BN) = some false) (nb : PySem.W.exmOne K (.ref BN) (.ref BS) = some false)
    (CSG : CalSG P w K mg base G C BS BN) (C_whole : CalWhole P w K mg base) (D : Dfn K mg "_law_refused" "_law_refused" s_refused ["_law_ground_here", "_law_one", "_law_other", "_law_rule"]) : CalRe P w K mg base G := by
  refine D.cal sc_refused (fun vs H Q E h => ?_) (fun f cdv A outer st H vs Q E hr h => ?_)
  · obtain ⟨x, p, q, cs, rs, ss, v, rfl, _⟩ := h
    rfl
  · obtain ⟨x, p, q, cs, rs, ss, v, rfl, hx, ok, hp, hq, bd1, bd2, bad, k⟩ := h
    refine ⟨_, (pss_cons (ps_set (i := 4) sc_refused.nd rfl (Or.inl rfl) (pe_tup (pa_cons (pe_str) (pa_cons (pe_str) (pa_cons (pe_int) pa_nil)))))
      (pss_cons (ps_set (i := 5) sc_refused.nd rfl (Or.inl rfl) (pe_non))
      (Evl.pss_cut (ps_try_cls rfl rfl sc_refused.nd takes0 (fun W pn xe tk _ => (pss_one (ps_expr (pe_calKS3 CSG tk (hr.mono (by decide)) (pa_cons (pv 0) (pa_cons (pv 1) (pa_cons (pv 2) pa_nil))) (pk_cons (pv 3) pk_nil))))) (.cons (i := 6) rfl rfl ⟨rfl, by decide, Or.inl TS.g⟩ (fun a oe cls d pn hz hf => (pss_cons (ps_set (i := 5) sc_refused.nd rfl (Or.inl rfl) (pe_tup (pa_cons (pe_callB (call_isX TS.e hz hf) (by rfl) B.isinstance (by decide +kernel) (pa_cons (pv 6) (pa_cons (pe_glob (v := .ref _) (by rfl) gLotError rfl) pa_nil))) (pa_cons (pe_callB (call_isX TS.e hz hf) (by rfl) B.isinstance (by decide +kernel) (pa_cons (pv 6) (pa_cons (pe_bltn (v := .ty "ValueError") (by rfl) B.ve (by decide +kernel) rfl) pa_nil))) (pa_cons (pe_callB (call_isX TS.e hz hf) (by rfl) B.isinstance (by decide +kernel) (pa_cons (pv 6) (pa_cons (pe_glob (v := .ref _) (by rfl) TB.g rfl) pa_nil))) pa_nil)))))
      (pss_one (ps_set (i := 4) sc_refused.nd rfl (Or.inl rfl) (pe_tup (pa_cons (pe_str) (pa_cons (pe_str) (pa_cons (pe_int) pa_nil)))))))) (.cons (i := 7) rfl rfl ⟨rfl, by decide, Or.inl TB.g⟩ (fun a oe cls d pn hz hf => (pss_cons (ps_set (i := 5) sc_refused.nd rfl (Or.inl rfl) (pe_tup (pa_cons (pe_callB (call_isX TB.e hz hf) (by rfl) B.isinstance (by decide +kernel) (pa_cons (pv 7) (pa_cons (pe_glob (v := .ref _) (by rfl) gLotError rfl) pa_nil))) (pa_cons (pe_callB (call_isX TB.e hz hf) (by rfl) B.isinstance (by decide +kernel) (pa_cons (pv 7) (pa_cons (pe_bltn (v := .ty "ValueError") (by rfl) B.ve (by decide +kernel) rfl) pa_nil))) (pa_cons (pe_callB (call_isX TB.e hz hf) (by rfl) B.isinstance (by decide +kernel) (pa_cons (pv 7) (pa_cons (pe_glob (v := .ref _) (by rfl) TS.g rfl) pa_nil))) pa_nil)))))
      (pss_one (ps_set (i := 4) sc_refused.nd rfl (Or.inl rfl) (pe_tup (pa_cons (pe_str) (pa_cons (pe_xf TB.xf TB.nN hz hf (pv 7)) (pa_cons (pe_xf TB.xf TB.nV hz hf (pv 7)) pa_nil)))))))) .nil)))
      (pss_cons (ps_if (PW.pt (pw_or (pt_cmpR (op_neD hr.units) (pv 5) (pe_tup (pa_cons (pe_bl) (pa_cons (pe_bl) (pa_cons (pe_bl) pa_nil)))) (nomark _)) (pw_or1 (pt_not (pt_val (pe_cal C_whole (hr.mono (by decide)) (pa_cons (pe_ix ix_tup (pv 4) (pe_int) (fun _ _ => rfl)) pa_nil))))))) (pss_one (ps_ret (pe_tup (pa_cons (pe_str) (pa_cons (pe_str) (pa_cons (pe_int) pa_nil)))))) pss_nil)
      (pss_one (ps_ret (pv 4))))))), ?_⟩
    refine ⟨(by show 3 ≤ sizeLine; decide), fun z0 hz0 => ?_⟩
    have s0 := same_upd (o := .tup [.str "none", .str "", .int 0]) hz0
    refine ⟨fun σ' H' => ∃ z y : Addr, σ' = [some (.ref x), some (.ref p), some (.ref q), some (.int v), some (.ref z), some (.ref y), none, none] ∧ Same H H' ∧ H' z = some (.tup (rfL v)) ∧ H' y = some (.tup [.bl true, .bl true, .bl false]), ?_, ?_⟩
    · refine ⟨_, rfl, _, rfl, _, rfl, _, rfl, rfl, rfl, x, p, q, cs, rs, ss, v, rfl, hx.same s0, ok, hp.same s0, hq.same s0, bd1, bd2, fun hv => ?_, fun hv nd H1 s1 => ?_, fun hv d1 d2 z H1 s1 hz => ?_⟩
      · have er : rfL v = [.str "number", .str "ties", .int v] := if_neg hv
        intro d H1 s1 hd0 hd
        have s1 : Same _ H1 := s1
        refine ⟨false, nb, nofun, fun _ => ⟨true, TB.exm, fun _ e0 he0 => ?_, nofun⟩⟩
        refine ⟨_, rfl, rfl, .inr ⟨d, _, rfl, hd⟩, _, _, true, rfl, .own _, b1, ?_⟩
        refine ⟨_, rfl, rfl, .inr ⟨d, _, rfl, hd⟩, _, _, true, rfl, .ty _, b2, ?_⟩
        refine ⟨_, rfl, rfl, .inr ⟨d, _, rfl, hd⟩, _, _, false, rfl, .own _, b3, ?_⟩
        refine ⟨(by show 3 ≤ sizeLine; decide), fun y1 hy1 => ?_⟩
        have sy := same_upd (o := .tup [.bl true, .bl true, .bl false]) hy1
        have hd1 := sy _ _ hd
        refine ⟨_, rfl, rfl, rfl, d, _, _, rfl, hd1, bnf_name _ _, ?_⟩
        refine ⟨_, rfl, rfl, rfl, d, _, _, rfl, hd1, bnf_value _ _, (by show 3 ≤ sizeLine; decide), fun z1 hz1 => ?_⟩
        refine ⟨z1, y1, rfl, ((s0.trans s1).trans sy).trans (same_upd hz1), ?_, same_upd hz1 _ _ upd_same⟩
        rw [er]
        exact upd_same
      · have er : rfL v = [.str "spread", .str "", .int 0] := if_pos hv
        refine ⟨true, TS.exm, fun _ e0 he0 => ?_, nofun⟩
        refine ⟨_, rfl, rfl, .inl rfl, _, _, true, rfl, .own _, n1, ?_⟩
        refine ⟨_, rfl, rfl, .inl rfl, _, _, true, rfl, .ty _, n2, ?_⟩
        refine ⟨_, rfl, rfl, .inl rfl, _, _, false, rfl, .own _, n3, ?_⟩
        refine ⟨(by show 3 ≤ sizeLine; decide), fun y1 hy1 => ⟨(by show 3 ≤ sizeLine; decide), fun z1 hz1 => ?_⟩⟩
        refine ⟨z1, y1, rfl, ((s0.trans s1).trans (same_upd hy1)).trans (same_upd hz1), ?_, same_upd hz1 _ _ upd_same⟩
        rw [er]
        exact upd_same
      · rcases bad with h | h
        · exact absurd hv h
        · exact absurd ⟨d1, d2⟩ h
    rintro σ' H' ⟨z, y, rfl, s', hz, hy⟩
    obtain ⟨a1, a2, a3, ha⟩ : ∃ a b c, rfL v = [a, b, .int c] := by
      unfold rfL
      split
      · exact ⟨_, _, _, rfl⟩
      · exact ⟨_, _, _, rfl⟩
    refine ⟨_, rfl, (by show 3 ≤ sizeLine; decide), fun u hu => ⟨kindD, kindD, kind_dp (same_upd hu _ _ hy), kind_dp upd_same, kind_ok, kind_ok, ?_⟩⟩
    rw [SeqAt.eqv_refl _ (SeqAt.canLay_of_shaped kind_ok)]
    refine ⟨_, rfl, iteF ?_⟩
    have hz2 := same_upd (o := .tup [.bl true, .bl true, .bl false]) hu _ _ hz
    rw [ha] at hz2
    refine ⟨_, rfl, _, _, _, _, rfl, rfl, SqT.of hz2, rfl, _, rfl, _, rfl, iteF ?_⟩
    exact ⟨_, rfl, k z _ (s'.trans (same_upd hu)) (same_upd hu _ _ hz)⟩
end
end L

set_option Elab.async false
set_option linter.all false
set_option maxRecDepth 100000
set_option maxHeartbeats 4000000
set_option pp.maxSteps 160
set_option pp.deepTerms false
namespace L
open PySem PySem.Spec PyProof.Rows L2 Fl
local macro_rules | `(tactic| walk_at "side") => `(tactic| first | (exact .inl ⟨by omega, by omega⟩) | (exact .inr ⟨by omega, by omega⟩) | (exact .inr ⟨by decide, by decide⟩) | (show (_ : Int) ≠ _; omega) | (exact ⟨by omega, by decide⟩) | (exact ⟨by decide, by decide, by decide⟩))
local macro_rules | `(tactic| walk_at "go") => `(tactic| repeat (first | refine ⟨_, rfl, ?_⟩ | refine ⟨_, _, rfl, rfl, ?_⟩ | refine .inl ⟨_, rfl, ?_⟩ | refine ⟨rfl, ?_⟩ | refine ⟨(by walk_at "side"), ?_⟩))
local macro_rules | `(tactic| walk_at "see") => `(tactic| (set_option pp.maxSteps 110 in set_option pp.deepTerms false in trace_state))
local macro_rules | `(tactic| walk_at "if") => `(tactic| first | refine ifE ?_ ?_ | refine ifNE ?_ ?_ | refine ifD ?_ ?_ | refine ifN ?_ ?_ | refine ifB ?_ ?_)
open Bx
section
variable {P : Program} {w : World} {K : PySem.W.Frag} {mg : Str → Option Value} {base : Heap}

def spLaw (K : PySem.W.Frag) : Sp := fun vs H Q _ => ∃ (a : Addr) (ns : List Int), vs = [.ref a] ∧ SqL K H a (ns.map V.int) ∧ ns.length ≤ 63 ∧ ∀ H', Q (.bl true) H'
theorem rat_due {C : Addr} {H : Hp} {z : Addr} {S N M : Int} (h : RatQ C H z S 27720) (e : N * 27720 = S * M) (h1 : 1 ≤ M) : RatQ C H z N M := h.re (by decide) (by omega) e.symm
theorem ok_law {G C BS BN fA : Addr} {fd : FuncData} (B : Blt mg) (TG : GrC K mg G) (F : Fun K "law" "law" s_law fA fd) (C_pool : CalPool P w K mg base) (C_draw : CalDraw P w K mg base) (C_classes : CalCl P w K mg base) (C_total : CalTot P w K mg base) (C_spread : CalSpr P w K mg base)
    (C_beside : CalBe P w K mg base) (C_far : CalFar P w K mg base) (C_spoiled : CalSpo P w K mg base) (C_ground : CalGr P w K mg base G) (C_dealt : CalDe P w K mg base) (C_same : CalSame P w K mg base C) (CSG : CalSG P w K mg base G C BS BN) (C_refused : CalRe P w K mg base G) : FnOk P w K mg base CX0 8 fA fd ["_law_script"] (spLaw K) := by
  refine F.ok sc_law (fun vs H Q E h => ?_) (fun cdv A outer st H vs Q E hr h => ?_)
  · obtain ⟨a, ns, rfl, _⟩ := h
    rfl
  · obtain ⟨a, ns, rfl, hS, hl, q⟩ := h
    refine ⟨_, (pss_cons (ps_set (i := 1) sc_law.nd rfl (Or.inl rfl) (pe_cal C_pool (hr.mono (by decide)) (pa_cons (pv 0) pa_nil)))
      (pss_cons (ps_set (i := 2) sc_law.nd rfl (Or.inl rfl) (pe_cal C_classes (hr.mono (by decide)) (pa_cons (pv 1) (pa_cons (pe_int) pa_nil))))
      (pss_cons (ps_set (i := 3) sc_law.nd rfl (Or.inl rfl) (pe_cal C_spread (hr.mono (by decide)) (pa_cons (pv 1) (pa_cons (pv 2) (pa_cons (pe_cal C_total (hr.mono (by decide)) (pa_cons (pv 1) pa_nil)) pa_nil)))))
      (pss_cons (ps_set (i := 4) sc_law.nd rfl (Or.inl rfl) (pv 3))
      (pss_cons (ps_set (i := 5) sc_law.nd rfl (Or.inl rfl) (pe_cal C_draw (hr.mono (by decide)) (pa_cons (pv 1) (pa_cons (pe_int) pa_nil))))
      (Evl.pss_cut (ps_if (pt_cmpR op_lt (pv 5) (pe_int) (nomark _)) (pss_one (ps_set (i := 4) sc_law.nd rfl (Or.inl rfl) (pe_cal C_spread (hr.mono (by decide)) (pa_cons (pv 1) (pa_cons (pv 2) (pa_cons (pe_cal C_total (hr.mono (by decide)) (pa_cons (pv 1) pa_nil)) pa_nil)))))) pss_nil)
      (Evl.pss_cut (ps_if (pt_cmpR op_eq (pv 5) (pe_int) (nomark _)) (pss_one (ps_set (i := 4) sc_law.nd rfl (Or.inl rfl) (pe_cal C_beside (hr.mono (by decide)) (pa_cons (pv 1) (pa_cons (pv 2) (pa_cons (pv 3) pa_nil)))))) pss_nil)
      (pss_cons (ps_set (i := 6) sc_law.nd rfl (Or.inl rfl) (pe_op op_sub (pe_cal C_draw (hr.mono (by decide)) (pa_cons (pv 1) (pa_cons (pe_int) pa_nil))) (pe_int)))
      (pss_cons (ps_set (i := 7) sc_law.nd rfl (Or.inl rfl) (pe_cal C_far (hr.mono (by decide)) (pa_cons (pv 1) pa_nil)))
      (pss_cons (ps_set (i := 8) sc_law.nd rfl (Or.inl rfl) (pe_cal C_spoiled (hr.mono (by decide)) (pa_cons (pv 1) (pa_cons (pv 3) pa_nil))))
      (pss_cons (ps_set (i := 9) sc_law.nd rfl (Or.inl rfl) (pe_cal C_ground (hr.mono (by decide)) (pa_cons (pv 2) pa_nil)))
      (pss_cons (ps_set (i := 10) sc_law.nd rfl (Or.inl rfl) (pe_cal C_dealt (hr.mono (by decide)) (pa_cons (pv 2) (pa_cons (pv 3) (pa_cons (pv 4) (pa_cons (pv 6) pa_nil))))))
      (pss_cons (ps_if (pt_not (pt_val (pe_cal C_same (hr.mono (by decide)) (pa_cons (pe_calK13 CSG (hr.mono (by decide)) (pa_cons (pv 9) (pa_cons (pv 3) (pa_cons (pv 4) pa_nil))) (pk_cons (pv 6) pk_nil)) (pa_cons (pv 10) pa_nil))))) (pss_one (ps_ret (pe_bl))) pss_nil)
      (pss_cons (ps_if (pt_not (pt_val (pe_cal C_same (hr.mono (by decide)) (pa_cons (pe_calK13 CSG (hr.mono (by decide)) (pa_cons (pv 9) (pa_cons (pv 4) (pa_cons (pv 3) pa_nil))) (pk_cons (pe_un un_neg (pv 6)) pk_nil)) (pa_cons (pe_tup (pa_cons (pe_un un_neg (pe_ix ix_tup (pv 10) (pe_int) (fun _ _ => rfl))) (pa_cons (pe_ix ix_tup (pv 10) (pe_int) (fun _ _ => rfl)) pa_nil))) pa_nil))))) (pss_one (ps_ret (pe_bl))) pss_nil)
      (pss_cons (ps_if (pt_not (pt_val (pe_cal C_same (hr.mono (by decide)) (pa_cons (pe_calK03 CSG (hr.mono (by decide)) (pa_cons (pv 9) (pa_cons (pv 3) (pa_cons (pv 4) pa_nil)))) (pa_cons (pe_cal C_dealt (hr.mono (by decide)) (pa_cons (pv 2) (pa_cons (pv 3) (pa_cons (pv 4) (pa_cons (pe_int) pa_nil))))) pa_nil))))) (pss_one (ps_ret (pe_bl))) pss_nil)
      (pss_cons (ps_for PassesOwn.never rfl (pi_tup (pe_tup (pa_cons (pe_tup (pa_cons (pv 8) (pa_cons (pv 4) pa_nil))) (pa_cons (pe_tup (pa_cons (pv 4) (pa_cons (pv 8) pa_nil))) (pa_cons (pe_tup (pa_cons (pv 8) (pa_cons (pv 8) pa_nil))) pa_nil))))) (pg_name (i := 11) sc_law.nd rfl (Or.inl rfl)) (pss_cons (ps_if (pt_cmpR (op_neD hr.units) (pe_cal C_refused (hr.mono (by decide)) (pa_cons (pv 9) (pa_cons (pe_ix ix_tup (pv 11) (pe_int) (fun _ _ => rfl)) (pa_cons (pe_ix ix_tup (pv 11) (pe_int) (fun _ _ => rfl)) (pa_cons (pv 6) pa_nil))))) (pe_tup (pa_cons (pe_str) (pa_cons (pe_str) (pa_cons (pe_int) pa_nil)))) (nomark _)) (pss_one (ps_ret (pe_bl))) pss_nil)
      (pss_one (ps_if (pt_cmpR (op_neD hr.units) (pe_cal C_refused (hr.mono (by decide)) (pa_cons (pv 9) (pa_cons (pe_ix ix_tup (pv 11) (pe_int) (fun _ _ => rfl)) (pa_cons (pe_ix ix_tup (pv 11) (pe_int) (fun _ _ => rfl)) (pa_cons (pv 7) pa_nil))))) (pe_tup (pa_cons (pe_str) (pa_cons (pe_str) (pa_cons (pv 7) pa_nil)))) (nomark _)) (pss_one (ps_ret (pe_bl))) pss_nil))))
      (pss_cons (ps_if (pt_cmpR (op_neD hr.units) (pe_cal C_refused (hr.mono (by decide)) (pa_cons (pv 9) (pa_cons (pv 3) (pa_cons (pv 4) (pa_cons (pv 7) pa_nil))))) (pe_tup (pa_cons (pe_str) (pa_cons (pe_str) (pa_cons (pv 7) pa_nil)))) (nomark _)) (pss_one (ps_ret (pe_bl))) pss_nil)
      (pss_one (ps_ret (pe_cal C_same (hr.mono (by decide)) (pa_cons (pe_calK13 CSG (hr.mono (by decide)) (pa_cons (pv 9) (pa_cons (pv 3) (pa_cons (pv 4) pa_nil))) (pk_cons (pv 6) pk_nil)) (pa_cons (pv 10) pa_nil)))))))))))))))))))))), ?_⟩
    refine ⟨_, rfl, a, ns, rfl, hS, hl, fun p H1 s1 np nq hP1 => ?_⟩
    refine ⟨_, rfl, p, rfl, hP1, fun L cs H2 hP2 k2 pL hL ok => ?_⟩
    refine ⟨_, rfl, _, rfl, _, rfl, p, rfl, hP2, fun T H3 hT hP3 k3 => ⟨p, L, cs, T, rfl, hP3, lat_keep hL hP2 pL k3, pL, ok, hT, fun o1 rs H4 hP4 k4 h1 d1 => ?_⟩⟩
    have hL4 := lat_keep (lat_keep hL hP2 pL k3) hP3 pL k4
    refine ⟨_, rfl, ?_⟩
    refine ⟨_, rfl, p, 4, rfl, hP4, by decide, by decide, fun w H5 w0 w1 hP5 k5 => ?_⟩
    have hL5 := lat_keep hL4 hP4 pL k5
    have h15 := spA_keep h1 hP4 k5
    clear hP1 hP2 hP3 hP4 hL hL4 h1 k2 k3 k4 k5 s1 hS hT
    refine ⟨fun σ' H' => ∃ (o2 : Addr) (ss : List Rw), σ' = [some (.ref a), some (.ref (p : Addr)), some (.ref L), some (.ref o1), some (.ref o2), some (.int w), none, none, none, none, none, none] ∧ Pool H' p ∧ LAt ClP H' L cs ∧ SpA H' o1 rs ∧ SpA H' o2 ss ∧ Due cs ss, ?_, ?_⟩
    · refine ⟨_, rfl, _, _, rfl, rfl, _, rfl, ifD (fun _ => ?_) (fun _ => ⟨o1, rs, rfl, hP5, hL5, h15, h15, d1⟩)⟩
      refine ⟨_, rfl, _, rfl, _, rfl, p, rfl, hP5, fun T H3 hT hP3 k3 => ⟨p, L, cs, T, rfl, hP3, lat_keep hL5 hP5 pL k3, pL, ok, hT, fun o2 ss H4 hP4 k4 h2 d2 => ?_⟩⟩
      exact ⟨o2, ss, rfl, hP4, lat_keep (lat_keep hL5 hP5 pL k3) hP3 pL k4, spA_keep (spA_keep h15 hP5 k3) hP3 k4, h2, d2⟩
    clear hP5 hL5 h15
    rintro σ' H5 ⟨o2, ss, rfl, hP5, hL5, h15, h25, d2⟩
    refine ⟨fun σ' H' => ∃ (o2 : Addr) (ss : List Rw), σ' = [some (.ref a), some (.ref (p : Addr)), some (.ref L), some (.ref o1), some (.ref o2), some (.int w), none, none, none, none, none, none] ∧ Pool H' p ∧ LAt ClP H' L cs ∧ SpA H' o1 rs ∧ SpA H' o2 ss ∧ Due cs ss, ?_, ?_⟩
    · refine ⟨_, rfl, rfl, _, rfl, ifE (fun _ => ?_) (fun _ => ⟨o2, ss, rfl, hP5, hL5, h15, h25, d2⟩)⟩
      exact ⟨_, rfl, _, rfl, _, rfl, p, L, o1, cs, rs, rfl, hP5, hL5, pL, ok, h15, d1, fun t rs' H6 hP6 k6 ht d' => ⟨t, rs', rfl, hP6, lat_keep hL5 hP5 pL k6, spA_keep h15 hP5 k6, ht, d'⟩⟩
    clear hP5 hL5 h15 h25 d2 o2 ss
    rintro σ' H5 ⟨o2, ss, rfl, hP5, hL5, h15, h25, d2⟩
    refine ⟨_, rfl, p, 3, rfl, hP5, by decide, by decide, fun r H6 r0 r1 hP6 k6 => ⟨_, _, rfl, rfl, ?_⟩⟩
    refine ⟨_, rfl, p, rfl, hP6, fun fr H7 hfr hP7 k7 => ?_⟩
    have k67 := k6.trans k7
    have h17 := spA_keep h15 hP5 k67
    refine ⟨_, rfl, _, rfl, p, o1, cs, rs, rfl, hP7, ok, h17, d1, fun o3 xs H8 hP8 k8 h38 b3 nd => ?_⟩
    have k68 := k67.trans k8
    have h18 := spA_keep h15 hP5 k68
    have h28 := spA_keep h25 hP5 k68
    have hL8 := lat_keep hL5 hP5 pL k68
    refine ⟨_, rfl, L, cs, rfl, hL8, ok, fun x H9 s9 hx => ?_⟩
    have gx := hx.at_
    have h1 := h18.same s9
    have h2 := h28.same s9
    have h3 := h38.same s9
    have hL := hL8.same clP_mono s9
    have hv : Tri3 (r - 1) := by
      show r - 1 = -1 ∨ r - 1 = 0 ∨ r - 1 = 1
      omega
    have hv2 : Tri3 (-(r - 1)) := by
      show -(r - 1) = -1 ∨ -(r - 1) = 0 ∨ -(r - 1) = 1
      omega
    clear hP5 hP6 hP7 hP8 h15 h25 h17 h18 h28 h38 hL5 hL8 k6 k7 k8 k67 k68 hx s9
    have bd1 := (d1.shp ok).bnd
    have bd2 := (d2.shp ok).bnd
    refine ⟨_, rfl, _, rfl, _, rfl, _, rfl, L, o1, o2, cs, rs, ss, r - 1, rfl, hL, ok, h1, h2, d1, d2, fun du N M Ha sa hdu eN M1 M2 => ?_⟩
    have sq := sq_of hv ok d1 d2 eN M1 M2
    refine ⟨_, rfl, _, rfl, _, rfl, _, rfl, rfl, rfl, x, o1, o2, cs, rs, ss, r - 1, rfl, gx.same sa, ok, h1.same sa, h2.same sa, bd1, bd2, fun n => absurd hv n, fun _ n => absurd ⟨d1, d2⟩ n, fun _ _ _ z Hb sb hz => ?_⟩
    have sab := sa.trans sb
    refine ⟨_, rfl, z, du, N, M, rfl, rat_due hz eN M1, sq, sb _ _ hdu, _, rfl, iteF ?_⟩
    refine ⟨_, rfl, _, rfl, _, rfl, _, rfl, _, rfl, rfl, rfl, x, o2, o1, cs, ss, rs, -(r - 1), rfl, gx.same sab, ok, h2.same sab, h1.same sab, bd2, bd1, fun n => absurd hv2 n, fun _ n => absurd ⟨d2, d1⟩ n, fun _ _ _ z2 Hc sc hz2 => ?_⟩
    have sac := sab.trans sc
    have hduc := sc _ _ (sb _ _ hdu)
    rw [gns_neg] at hz2
    have eN2 : (-N) * 27720 = -sumI (gns (r - 1) cs rs ss) * M := by
      rw [Int.neg_mul, Int.neg_mul, eN]
    refine ⟨_, rfl, _, _, _, _, rfl, rfl, SqT.of hduc, rfl, _, rfl, _, rfl, _, _, _, _, rfl, rfl, SqT.of hduc, rfl, (by show 2 ≤ sizeLine; decide), fun u hu => ?_⟩
    have su := same_upd (o := .tup [.int (-N), .int M]) hu
    refine ⟨z2, u, -N, M, rfl, rat_due (hz2.same su) eN2 M1, ⟨sq.p, by rw [Int.natAbs_neg]; exact sq.n, sq.m⟩, upd_same, _, rfl, iteF ?_⟩
    have sad := sac.trans su
    refine ⟨_, rfl, _, rfl, _, rfl, x, o1, o2, cs, rs, ss, 0, rfl, gx.same sad, ok, h1.same sad, h2.same sad, bd1, bd2, fun n => absurd (Or.inr (Or.inl rfl)) n, fun _ n => absurd ⟨d1, d2⟩ n, fun _ _ _ z3 Hd sd hz3 => ?_⟩
    have sae := sad.trans sd
    refine ⟨_, rfl, _, rfl, _, rfl, L, o1, o2, cs, rs, ss, 0, rfl, hL.same clP_mono sae, ok, h1.same sae, h2.same sae, d1, d2, fun du2 N2 M2' He se hdu2 eN3 M3 M4 => ?_⟩
    have sq2 := sq_of (.inr (.inl rfl)) ok d1 d2 eN3 M3 M4
    refine ⟨z3, du2, N2, M2', rfl, rat_due (hz3.same se) eN3 M3, sq2, hdu2, _, rfl, iteF ?_⟩
    have saf := sae.trans se
    have gx := gx.same saf
    have h1 := h1.same saf
    have h2 := h2.same saf
    have h3 := h3.same saf
    have hdu : He du = some (.tup [.int N, .int M]) := se _ _ (sd _ _ (su _ _ hduc))
    clear hL hz hz2 hz3 hdu2 hduc eN3 sq2 sa sb sc sd se su sab sac sad sae saf
    refine ⟨_, rfl, _, rfl, (by show 2 ≤ sizeLine; decide), fun u1 hu1 => ?_⟩
    refine ⟨_, rfl, _, rfl, (by show 2 ≤ sizeLine; decide), fun u2 hu2 => ?_⟩
    refine ⟨_, rfl, _, rfl, (by show 2 ≤ sizeLine; decide), fun u3 hu3 => ⟨(by show 3 ≤ sizeLine; decide), fun u4 hu4 => ?_⟩⟩
    have t1 := same_upd (o := .tup [.ref o3, .ref o2]) hu1
    have t2 := same_upd (o := .tup [.ref o2, .ref o3]) hu2
    have t3 := same_upd (o := .tup [.ref o3, .ref o3]) hu3
    have t4 := same_upd (o := .tup [.ref u1, .ref u2, .ref u3]) hu4
    have g1 := t4 _ _ (t3 _ _ (t2 _ _ (upd_same (H := He) (a := u1) (o := .tup [.ref o3, .ref o2]))))
    have g2 := t4 _ _ (t3 _ _ (upd_same (H := upd He u1 (.tup [.ref o3, .ref o2])) (a := u2) (o := .tup [.ref o2, .ref o3])))
    have g3 := t4 _ _ (upd_same (H := upd (upd He u1 (.tup [.ref o3, .ref o2])) u2 (.tup [.ref o2, .ref o3])) (a := u3) (o := .tup [.ref o3, .ref o3]))
    have g4 := upd_same (H := upd (upd (upd He u1 (.tup [.ref o3, .ref o2])) u2 (.tup [.ref o2, .ref o3])) u3 (.tup [.ref o3, .ref o3])) (a := u4) (o := .tup [.ref u1, .ref u2, .ref u3])
    have ts := ((t1.trans t2).trans t3).trans t4
    generalize upd (upd (upd (upd He u1 (.tup [.ref o3, .ref o2])) u2 (.tup [.ref o2, .ref o3])) u3 (.tup [.ref o3, .ref o3])) u4 (.tup [.ref u1, .ref u2, .ref u3]) = Hf at *
    have gx := gx.same ts
    have h1 := h1.same ts
    have h2 := h2.same ts
    have h3 := h3.same ts
    have hdu := ts _ _ hdu
    have all : ∀ (i : Nat) (v : V), ([.ref u1, .ref u2, .ref u3] : List V)[i]? = some v → ∃ (u A B : Addr) (ys zs : List Rw), v = .ref u ∧ Hf u = some (.tup [.ref A, .ref B]) ∧ SpA Hf A ys ∧ SpA Hf B zs ∧ Bnd ys ∧ Bnd zs ∧ ¬ (Due cs ys ∧ Due cs zs) := fun i v hv => by
      cases i with
      | zero =>
        cases hv
        exact ⟨_, _, _, _, _, rfl, g1, h3, h2, b3, bd2, fun d => nd d.1⟩
      | succ i =>
        cases i with
        | zero =>
          cases hv
          exact ⟨_, _, _, _, _, rfl, g2, h2, h3, bd2, b3, fun d => nd d.2⟩
        | succ i =>
          cases i with
          | zero =>
            cases hv
            exact ⟨_, _, _, _, _, rfl, g3, h3, h3, b3, b3, fun d => nd d.1⟩
          | succ i => simp at hv
    have r1 : rfL (r - 1) = [.str "spread", .str "", .int 0] := if_pos hv
    have r2 : rfL fr = [.str "number", .str "ties", .int fr] := if_neg hfr
    have o1k : SeqAt.shaped (.tuple [.str "spread", .str "", .int 0]) = true := str3 (by decide +kernel) (by decide +kernel)
    have o2k : SeqAt.shaped (.tuple [.str "number", .str "ties", .int fr]) = true := str3 (by decide +kernel) (by decide +kernel)
    refine ⟨u4, rfl, ⟨_, SqT.of g4⟩, for_tup (K := K) (a := u4) (xs := [.ref u1, .ref u2, .ref u3]) (fun i σ H' => ∃ o9 : Option V, σ = [some (.ref a), some (.ref (p : Addr)), some (.ref L), some (.ref o1), some (.ref o2), some (.int w), some (.int (r - 1)), some (.int fr), some (.ref o3), some (.ref x), some (.ref du), o9] ∧ Same Hf H') ⟨none, rfl, Same.refl _⟩ (fun i σ H' _ h => by obtain ⟨_, _, s⟩ := h; exact SqT.of (s _ _ g4)) ?_ ?_⟩
    · rintro i pv9 σ Hg hpv ⟨o9, rfl, sg⟩
      obtain ⟨u, A, B', ys, zs, rfl, hu, hA, hB, bA, bB, ndd⟩ := all i pv9 hpv
      refine ⟨_, rfl, _, rfl, _, _, _, _, rfl, rfl, SqT.of (sg _ _ hu), rfl, _, rfl, _, _, _, _, rfl, rfl, SqT.of (sg _ _ hu), rfl, _, rfl, x, A, B', cs, ys, zs, r - 1, rfl, gx.same sg, ok, hA.same sg, hB.same sg, bA, bB, .inr ndd, fun z Hh sh hz => ?_⟩
      rw [r1] at hz
      refine ⟨(by show 3 ≤ sizeLine; decide), fun y hy => ⟨_, _, dp3 (same_upd hy _ _ hz), dp3 upd_same, o1k, o1k, ?_⟩⟩
      rw [SeqAt.eqv_refl _ (SeqAt.canLay_of_shaped o1k)]
      refine ⟨_, rfl, iteF ?_⟩
      have sh2 := (sg.trans sh).trans (same_upd (o := .tup [.str "spread", .str "", .int 0]) hy)
      refine ⟨_, rfl, _, rfl, _, _, _, _, rfl, rfl, SqT.of (sh2 _ _ hu), rfl, _, rfl, _, _, _, _, rfl, rfl, SqT.of (sh2 _ _ hu), rfl, _, rfl, x, A, B', cs, ys, zs, fr, rfl, gx.same sh2, ok, hA.same sh2, hB.same sh2, bA, bB, .inl hfr, fun z Hi si hz => ?_⟩
      rw [r2] at hz
      refine ⟨_, rfl, (by show 3 ≤ sizeLine; decide), fun y hy => ⟨_, _, dp3 (same_upd hy _ _ hz), dp3 upd_same, o2k, o2k, ?_⟩⟩
      rw [SeqAt.eqv_refl _ (SeqAt.canLay_of_shaped o2k)]
      exact ⟨_, rfl, iteF ⟨_, rfl, (sh2.trans si).trans (same_upd hy)⟩⟩
    · rintro σ Hg ⟨o9, rfl, sg⟩
      refine ⟨_, rfl, _, rfl, _, rfl, _, rfl, x, o1, o2, cs, rs, ss, fr, rfl, gx.same sg, ok, h1.same sg, h2.same sg, bd1, bd2, .inl hfr, fun z Hi si hz => ?_⟩
      rw [r2] at hz
      refine ⟨_, rfl, (by show 3 ≤ sizeLine; decide), fun y hy => ⟨_, _, dp3 (same_upd hy _ _ hz), dp3 upd_same, o2k, o2k, ?_⟩⟩
      rw [SeqAt.eqv_refl _ (SeqAt.canLay_of_shaped o2k)]
      have sg2 := (sg.trans si).trans (same_upd (o := .tup [.str "number", .str "ties", .int fr]) hy)
      refine ⟨_, rfl, iteF ?_⟩
      refine ⟨_, rfl, _, rfl, _, rfl, _, rfl, rfl, rfl, x, o1, o2, cs, rs, ss, r - 1, rfl, gx.same sg2, ok, h1.same sg2, h2.same sg2, bd1, bd2, fun n => absurd hv n, fun _ n => absurd ⟨d1, d2⟩ n, fun _ _ _ z Hb sb hz => ?_⟩
      exact ⟨_, rfl, z, du, N, M, rfl, rat_due hz eN M1, sq, sb _ _ (sg2 _ _ hdu), q Hb⟩
end
end L

set_option Elab.async false
set_option linter.all false
set_option maxRecDepth 100000
set_option maxHeartbeats 4000000
set_option pp.maxSteps 160
set_option pp.deepTerms false
namespace L
open PySem PySem.Spec PyProof.Rows L2 Fl
local macro_rules | `(tactic| walk_at "side") => `(tactic| first | (exact .inl ⟨by omega, by omega⟩) | (exact .inr ⟨by omega, by omega⟩) | (exact .inr ⟨by decide, by decide⟩) | (show (_ : Int) ≠ _; omega) | (exact ⟨by omega, by decide⟩) | (exact ⟨by decide, by decide, by decide⟩))
local macro_rules | `(tactic| walk_at "go") => `(tactic| repeat (first | refine ⟨_, rfl, ?_⟩ | refine ⟨_, _, rfl, rfl, ?_⟩ | refine .inl ⟨_, rfl, ?_⟩ | refine ⟨rfl, ?_⟩ | refine ⟨(by walk_at "side"), ?_⟩))
local macro_rules | `(tactic| walk_at "see") => `(tactic| (set_option pp.maxSteps 110 in set_option pp.deepTerms false in trace_state))
local macro_rules | `(tactic| walk_at "if") => `(tactic| first | refine ifE ?_ ?_ | refine ifNE ?_ ?_ | refine ifD ?_ ?_ | refine ifN ?_ ?_ | refine ifB ?_ ?_)
section
variable {P : Program} {w : World} {K : PySem.W.Frag} {mg : Str → Option Value} {base : Heap}
end

theorem kit_type {K : PySem.W.Frag} {t : Addr} {n : String} {b : Bool} (hk : PySem.W.kitMeta n = true) (hs : PySem.W.subIn K (.ref t) (.type n) = some b) : PySem.W.kitOne K (.ref t) (.type n) = some b := by
  unfold PySem.W.kitOne
  rw [if_neg (by intro h; cases beq_iff_eq.mp h)]
  show (if PySem.W.kitMeta n = true then PySem.W.subIn K (.ref t) (.type n) else none) = some b
  rw [if_pos hk]
  exact hs
theorem all_mk {l : PySem.W.OpenLaw} {w : World} {K : PySem.W.Frag} {h : Heap} {mg : Str → Option Value} {fa : Addr} (X : K.In h) (G : h.Ns mainGlobals mg) (hfa : mg "law" = some (.ref fa))
    {C : Addr} {fRatio_init tD : Addr} {ocRatio_init kVRatio_init dcRatio_init pmRatio_init cdRatio_init ctRatio_init : Value} {odRatio_init anRatio_init : Option Addr} {slRatio_init : Array (Option Value)} {ocD : Value} {odD : Option Addr} {tkD : Tok} {nD : Nat} {slD : Array (Option Value)} {LE : Addr} {BN : Addr} {nmE qE : Str} {NE : Addr} {bsE subE : List Value} {snE : List Str} {abE : Bool} {colE : Option Bool} {ddE : Option Addr} {mE0 mE1 mE2 mE3 mE5 : Option Value} {fBadNumber_init : Addr} {ocBadNumber_init kVBadNumber_init dcBadNumber_init pmBadNumber_init cdBadNumber_init ctBadNumber_init : Value} {odBadNumber_init anBadNumber_init : Option Addr} {slBadNumber_init : Array (Option Value)} {ZU : Addr} {BS : Addr} {fRatio_add : Addr} {ocRatio_add kVRatio_add dcRatio_add pmRatio_add cdRatio_add ctRatio_add : Value} {odRatio_add anRatio_add : Option Addr} {slRatio_add : Array (Option Value)} {fRatio_radd : Addr} {ocRatio_radd kVRatio_radd dcRatio_radd pmRatio_radd cdRatio_radd ctRatio_radd : Value} {odRatio_radd anRatio_radd : Option Addr} {slRatio_radd : Array (Option Value)} {tkMC : Tok} {tkMW : Tok} {GR : Addr} {tkF12 : Tok} {tkF40 : Tok} {fGround_init : Addr} {ocGround_init kVGround_init dcGround_init pmGround_init cdGround_init ctGround_init : Value} {odGround_init anGround_init : Option Addr} {slGround_init : Array (Option Value)} {fGround_total : Addr} {ocGround_total kVGround_total dcGround_total pmGround_total cdGround_total ctGround_total : Value} {odGround_total anGround_total : Option Addr} {slGround_total : Array (Option Value)} {fpool : Addr} {ocpool kVpool dcpool pmpool cdpool ctpool : Value} {odpool anpool : Option Addr} {slpool : Array (Option Value)} {fmix : Addr} {ocmix kVmix dcmix pmmix cdmix ctmix : Value} {odmix anmix : Option Addr} {slmix : Array (Option Value)} {fdraw : Addr} {ocdraw kVdraw dcdraw pmdraw cddraw ctdraw : Value} {oddraw andraw : Option Addr} {sldraw : Array (Option Value)} {fwide : Addr} {ocwide kVwide dcwide pmwide cdwide ctwide : Value} {odwide anwide : Option Addr} {slwide : Array (Option Value)} {fwhole : Addr} {ocwhole kVwhole dcwhole pmwhole cdwhole ctwhole : Value} {odwhole anwhole : Option Addr} {slwhole : Array (Option Value)} {fgcd : Addr} {ocgcd kVgcd dcgcd pmgcd cdgcd ctgcd : Value} {odgcd angcd : Option Addr} {slgcd : Array (Option Value)} {flow : Addr} {oclow kVlow dclow pmlow cdlow ctlow : Value} {odlow anlow : Option Addr} {sllow : Array (Option Value)} {fplus : Addr} {ocplus kVplus dcplus pmplus cdplus ctplus : Value} {odplus anplus : Option Addr} {slplus : Array (Option Value)} {fratio : Addr} {ocratio kVratio dcratio pmratio cdratio ctratio : Value} {odratio anratio : Option Addr} {slratio : Array (Option Value)} {fsame : Addr} {ocsame kVsame dcsame pmsame cdsame ctsame : Value} {odsame ansame : Option Addr} {slsame : Array (Option Value)} {fclasses : Addr} {occlasses kVclasses dcclasses pmclasses cdclasses ctclasses : Value} {odclasses anclasses : Option Addr} {slclasses : Array (Option Value)} {fground : Addr} {ocground kVground dcground pmground cdground ctground : Value} {odground anground : Option Addr} {slground : Array (Option Value)} {fcut : Addr} {occut kVcut dccut pmcut cdcut ctcut : Value} {odcut ancut : Option Addr} {slcut : Array (Option Value)} {fspread : Addr} {ocspread kVspread dcspread pmspread cdspread ctspread : Value} {odspread anspread : Option Addr} {slspread : Array (Option Value)} {foutcome : Addr} {ocoutcome kVoutcome dcoutcome pmoutcome cdoutcome ctoutcome : Value} {odoutcome anoutcome : Option Addr} {sloutcome : Array (Option Value)} {fput_in : Addr} {ocput_in kVput_in dcput_in pmput_in cdput_in ctput_in : Value} {odput_in anput_in : Option Addr} {slput_in : Array (Option Value)} {forders : Addr} {ocorders kVorders dcorders pmorders cdorders ctorders : Value} {odorders anorders : Option Addr} {slorders : Array (Option Value)} {fdealt : Addr} {ocdealt kVdealt dcdealt pmdealt cddealt ctdealt : Value} {oddealt andealt : Option Addr} {sldealt : Array (Option Value)} {ffar : Addr} {ocfar kVfar dcfar pmfar cdfar ctfar : Value} {odfar anfar : Option Addr} {slfar : Array (Option Value)} {ftotal : Addr} {octotal kVtotal dctotal pmtotal cdtotal cttotal : Value} {odtotal antotal : Option Addr} {sltotal : Array (Option Value)} {fbeside : Addr} {ocbeside kVbeside dcbeside pmbeside cdbeside ctbeside : Value} {odbeside anbeside : Option Addr} {slbeside : Array (Option Value)} {fspoiled : Addr} {ocspoiled kVspoiled dcspoiled pmspoiled cdspoiled ctspoiled : Value} {odspoiled anspoiled : Option Addr} {slspoiled : Array (Option Value)} {frefused : Addr} {ocrefused kVrefused dcrefused pmrefused cdrefused ctrefused : Value} {odrefused anrefused : Option Addr} {slrefused : Array (Option Value)} {fis_number : Addr} {ocis_number kVis_number dcis_number pmis_number cdis_number ctis_number : Value} {odis_number anis_number : Option Addr} {slis_number : Array (Option Value)} {fas_ratio : Addr} {ocas_ratio kVas_ratio dcas_ratio pmas_ratio cdas_ratio ctas_ratio : Value} {odas_ratio anas_ratio : Option Addr} {slas_ratio : Array (Option Value)} {ftop_of : Addr} {octop_of kVtop_of dctop_of pmtop_of cdtop_of cttop_of : Value} {odtop_of antop_of : Option Addr} {sltop_of : Array (Option Value)} {funder_of : Addr} {ocunder_of kVunder_of dcunder_of pmunder_of cdunder_of ctunder_of : Value} {odunder_of anunder_of : Option Addr} {slunder_of : Array (Option Value)} {fadded : Addr} {ocadded kVadded dcadded pmadded cdadded ctadded : Value} {odadded anadded : Option Addr} {sladded : Array (Option Value)} {fcheck_ties : Addr} {occheck_ties kVcheck_ties dccheck_ties pmcheck_ties cdcheck_ties ctcheck_ties : Value} {odcheck_ties ancheck_ties : Option Addr} {slcheck_ties : Array (Option Value)} {fcheck_worth : Addr} {occheck_worth kVcheck_worth dccheck_worth pmcheck_worth cdcheck_worth ctcheck_worth : Value} {odcheck_worth ancheck_worth : Option Addr} {slcheck_worth : Array (Option Value)} {fcheck_classes : Addr} {occheck_classes kVcheck_classes dccheck_classes pmcheck_classes cdcheck_classes ctcheck_classes : Value} {odcheck_classes ancheck_classes : Option Addr} {slcheck_classes : Array (Option Value)} {fis_row : Addr} {ocis_row kVis_row dcis_row pmis_row cdis_row ctis_row : Value} {odis_row anis_row : Option Addr} {slis_row : Array (Option Value)} {fpairs_gain : Addr} {ocpairs_gain kVpairs_gain dcpairs_gain pmpairs_gain cdpairs_gain ctpairs_gain : Value} {odpairs_gain anpairs_gain : Option Addr} {slpairs_gain : Array (Option Value)} {fspread_gain kdspread_gain : Addr} {tkkspread_gain : Tok} {ocspread_gain dcspread_gain pmspread_gain cdspread_gain ctspread_gain : Value} {odspread_gain anspread_gain : Option Addr} {slspread_gain : Array (Option Value)} {flaw : Addr} {oclaw kVlaw dclaw pmlaw cdlaw ctlaw : Value} {odlaw anlaw : Option Addr} {sllaw : Array (Option Value)}
    (zlen : PySem.W.nsIn K mainGlobals "len" = some none)
    (zint : PySem.W.nsIn K mainGlobals "int" = some none)
    (zabs : PySem.W.nsIn K mainGlobals "abs" = some none)
    (zrange : PySem.W.nsIn K mainGlobals "range" = some none)
    (zisinstance : PySem.W.nsIn K mainGlobals "isinstance" = some none)
    (zmax : PySem.W.nsIn K mainGlobals "max" = some none)
    (zmin : PySem.W.nsIn K mainGlobals "min" = some none)
    (zsum : PySem.W.nsIn K mainGlobals "sum" = some none)
    (zstr : PySem.W.nsIn K mainGlobals "str" = some none)
    (zbool : PySem.W.nsIn K mainGlobals "bool" = some none)
    (zlist : PySem.W.nsIn K mainGlobals "list" = some none)
    (zValueError : PySem.W.nsIn K mainGlobals "ValueError" = some none)
    (zzip : PySem.W.nsIn K mainGlobals "zip" = some none)
    (zall : PySem.W.nsIn K mainGlobals "all" = some none)
    (ztuple : PySem.W.nsIn K mainGlobals "tuple" = some none)
    (zsorted : PySem.W.nsIn K mainGlobals "sorted" = some none)
    (aC : PySem.W.nsIn K mainGlobals "Ratio" = some (some (.ref C)))
    (pgC : PySem.W.plainGet K C Str.empty = true)
    (hdC : PySem.W.hasDictIn K C = true)
    (poC : PySem.W.plainOver K C = true)
    (saC : PySem.W.findIn K (.ref C) "__setattr__" = some (some (.builtin "object.__setattr__")))
    (mkC : PySem.W.makesIn K C = true)
    (kcC : PySem.W.keepIn K (.ref C) = true)
    (nTC : PySem.W.findIn K (.ref C) "top" = some none)
    (nUC : PySem.W.findIn K (.ref C) "under" = some none)
    (haC : PySem.W.findIn K (.ref C) "__class__" = some (some (.builtin "object.__class__")))
    (hnO : PySem.W.specialIn K (.builtin "object.__class__") "__get__" = some (some (.builtin "getset_descriptor.__get__")))
    (htO : PySem.W.takesIn K (.builtin "object.__class__") = some true)
    (hmC : PySem.W.mroIn K C (.type "object") = some true)
    (siC : PySem.W.subIn K (.type "int") (.ref C) = some false)
    (tyC : PySem.W.typeIn K (.ref C) = some (.type "type"))
    (aRatio_init : PySem.W.findIn K (.ref C) "__init__" = some (some (.ref fRatio_init)))
    (iRatio_init : PySem.W.isFn K (.ref fRatio_init) = true)
    (lRatio_init : K.lookup fRatio_init = some ⟨ocRatio_init, odRatio_init, .func (PySem.W.fnOf "__init__" "Ratio.__init__" (defArgs s_Ratio_init) (defBody s_Ratio_init) (defScope s_Ratio_init) (.ref tD) kVRatio_init dcRatio_init pmRatio_init anRatio_init cdRatio_init ctRatio_init), slRatio_init⟩)
    (cRatio_init : PySem.W.codeIn K cdRatio_init "Ratio.__init__" = true)
    (kRatio_init : PySem.W.keepIn K (.ref fRatio_init) = true)
    (lD : K.lookup tD = some ⟨ocD, odD, .seq #[.int 1 tkD] nD, slD⟩)
    (aGcd : PySem.W.nsIn K mainGlobals "gcd" = some (some (.builtin "math.gcd")))
    (aLE : PySem.W.nsIn K mainGlobals "LotError" = some (some (.ref LE)))
    (hdLE : PySem.W.hasDictIn K LE = true)
    (teLE : PySem.W.typeIn K (.ref LE) = some (.type "type"))
    (aBN : PySem.W.nsIn K mainGlobals "BadNumber" = some (some (.ref BN)))
    (xBN : K.lookup BN = some (excClassObj nmE qE BN NE bsE [.ref LE, .type "ValueError", .type "Exception", .type "BaseException", .type "object"] true snE subE abE colE ddE mE0 mE1 mE2 mE3 mE5 "ValueError.__new__"))
    (saBN : PySem.W.findIn K (.ref BN) "__setattr__" = some (some (.builtin "object.__setattr__")))
    (keBN : PySem.W.keepIn K (.ref BN) = true)
    (beBN : PySem.W.subIn K (.ref BN) (.type "BaseException") = some true)
    (teBN : PySem.W.typeIn K (.ref BN) = some (.type "type"))
    (seBN : PySem.W.subIn K (.ref BN) (.ref BN) = some true)
    (geBN : PySem.W.findIn K (.ref BN) "__getattribute__" = some (some (.builtin "BaseException.__getattribute__")))
    (ggBN : PySem.W.findIn K (.ref BN) "__getattr__" = some none)
    (hdBN : PySem.W.hasDictIn K BN = true)
    (hcBN : PySem.W.findIn K (.ref BN) "__class__" = some (some (.builtin "object.__class__")))
    (hoBN : PySem.W.mroIn K BN (.type "object") = some true)
    (veBN : PySem.W.subIn K (.ref BN) (.type "ValueError") = some true)
    (fnBN : PySem.W.findIn K (.ref BN) "name" = some none)
    (fvBN : PySem.W.findIn K (.ref BN) "value" = some none)
    (aBadNumber_init : PySem.W.findIn K (.ref BN) "__init__" = some (some (.ref fBadNumber_init)))
    (tBadNumber_init : PySem.W.typeIn K (.ref fBadNumber_init) = some (.type "function"))
    (lBadNumber_init : K.lookup fBadNumber_init = some ⟨ocBadNumber_init, odBadNumber_init, .func (PySem.W.fnOf "__init__" "BadNumber.__init__" (defArgs s_BadNumber_init) (defBody s_BadNumber_init) (defScope s_BadNumber_init) .none kVBadNumber_init dcBadNumber_init pmBadNumber_init anBadNumber_init cdBadNumber_init ctBadNumber_init), slBadNumber_init⟩)
    (cBadNumber_init : PySem.W.codeIn K cdBadNumber_init "BadNumber.__init__" = true)
    (kBadNumber_init : PySem.W.keepIn K (.ref fBadNumber_init) = true)
    (aZU : PySem.W.nsIn K mainGlobals "ZeroUnder" = some (some (.ref ZU)))
    (xZU : PySem.W.excIn K ZU [.type "ValueError", .type "Exception", .type "BaseException", .type "object"] "ValueError.__new__" = true)
    (keZU : PySem.W.keepIn K (.ref ZU) = true)
    (beZU : PySem.W.subIn K (.ref ZU) (.type "BaseException") = some true)
    (teZU : PySem.W.typeIn K (.ref ZU) = some (.type "type"))
    (seZU : PySem.W.subIn K (.ref ZU) (.ref ZU) = some true)
    (geZU : PySem.W.findIn K (.ref ZU) "__getattribute__" = some (some (.builtin "BaseException.__getattribute__")))
    (ggZU : PySem.W.findIn K (.ref ZU) "__getattr__" = some none)
    (hdZU : PySem.W.hasDictIn K ZU = true)
    (hcZU : PySem.W.findIn K (.ref ZU) "__class__" = some (some (.builtin "object.__class__")))
    (hoZU : PySem.W.mroIn K ZU (.type "object") = some true)
    (veZU : PySem.W.subIn K (.ref ZU) (.type "ValueError") = some true)
    (aBS : PySem.W.nsIn K mainGlobals "BadSpread" = some (some (.ref BS)))
    (xBS : PySem.W.excIn K BS [.type "ValueError", .type "Exception", .type "BaseException", .type "object"] "ValueError.__new__" = true)
    (keBS : PySem.W.keepIn K (.ref BS) = true)
    (beBS : PySem.W.subIn K (.ref BS) (.type "BaseException") = some true)
    (teBS : PySem.W.typeIn K (.ref BS) = some (.type "type"))
    (seBS : PySem.W.subIn K (.ref BS) (.ref BS) = some true)
    (geBS : PySem.W.findIn K (.ref BS) "__getattribute__" = some (some (.builtin "BaseException.__getattribute__")))
    (ggBS : PySem.W.findIn K (.ref BS) "__getattr__" = some none)
    (hdBS : PySem.W.hasDictIn K BS = true)
    (hcBS : PySem.W.findIn K (.ref BS) "__class__" = some (some (.builtin "object.__class__")))
    (hoBS : PySem.W.mroIn K BS (.type "object") = some true)
    (veBS : PySem.W.subIn K (.ref BS) (.type "ValueError") = some true)
    (sBNLE : PySem.W.subIn K (.ref BN) (.ref LE) = some true)
    (sBSLE : PySem.W.subIn K (.ref BS) (.ref LE) = some true)
    (sBNBS : PySem.W.subIn K (.ref BN) (.ref BS) = some false)
    (sBSBN : PySem.W.subIn K (.ref BS) (.ref BN) = some false)
    (kmV : PySem.W.kitMeta "ValueError" = true)
    (ziAdd : PySem.W.findIn K (.type "int") "__add__" = some (some (.builtin "int.__add__")))
    (zjAdd : PySem.W.findIn K (.type "int") "__radd__" = some (some (.builtin "int.__radd__")))
    (ziSub : PySem.W.findIn K (.type "int") "__sub__" = some (some (.builtin "int.__sub__")))
    (zjSub : PySem.W.findIn K (.type "int") "__rsub__" = some (some (.builtin "int.__rsub__")))
    (ziMult : PySem.W.findIn K (.type "int") "__mul__" = some (some (.builtin "int.__mul__")))
    (zjMult : PySem.W.findIn K (.type "int") "__rmul__" = some (some (.builtin "int.__rmul__")))
    (hSF : PySem.W.selfFirst K C = true)
    (scI : PySem.W.subIn K (.ref C) (.type "int") = some false)
    (kmI : PySem.W.kitMeta "int" = true)
    (aRatio_add : PySem.W.findIn K (.ref C) "__add__" = some (some (.ref fRatio_add)))
    (iRatio_add : PySem.W.isFn K (.ref fRatio_add) = true)
    (lRatio_add : K.lookup fRatio_add = some ⟨ocRatio_add, odRatio_add, .func (PySem.W.fnOf "__add__" "Ratio.__add__" (defArgs s_Ratio_add) (defBody s_Ratio_add) (defScope s_Ratio_add) .none kVRatio_add dcRatio_add pmRatio_add anRatio_add cdRatio_add ctRatio_add), slRatio_add⟩)
    (cRatio_add : PySem.W.codeIn K cdRatio_add "Ratio.__add__" = true)
    (kRatio_add : PySem.W.keepIn K (.ref fRatio_add) = true)
    (aRatio_radd : PySem.W.findIn K (.ref C) "__radd__" = some (some (.ref fRatio_radd)))
    (iRatio_radd : PySem.W.isFn K (.ref fRatio_radd) = true)
    (lRatio_radd : K.lookup fRatio_radd = some ⟨ocRatio_radd, odRatio_radd, .func (PySem.W.fnOf "__radd__" "Ratio.__radd__" (defArgs s_Ratio_radd) (defBody s_Ratio_radd) (defScope s_Ratio_radd) .none kVRatio_radd dcRatio_radd pmRatio_radd anRatio_radd cdRatio_radd ctRatio_radd), slRatio_radd⟩)
    (cRatio_radd : PySem.W.codeIn K cdRatio_radd "Ratio.__radd__" = true)
    (kRatio_radd : PySem.W.keepIn K (.ref fRatio_radd) = true)
    (aMC : PySem.W.nsIn K mainGlobals "MOST_CLASSES" = some (some (.int 4 tkMC)))
    (aMW : PySem.W.nsIn K mainGlobals "MOST_WORTH" = some (some (.int 1000 tkMW)))
    (aGR : PySem.W.nsIn K mainGlobals "Ground" = some (some (.ref GR)))
    (pgGR : PySem.W.plainGet K GR Str.empty = true)
    (hdGR : PySem.W.hasDictIn K GR = true)
    (poGR : PySem.W.plainOver K GR = true)
    (saGR : PySem.W.findIn K (.ref GR) "__setattr__" = some (some (.builtin "object.__setattr__")))
    (mkGR : PySem.W.makesIn K GR = true)
    (kcGR : PySem.W.keepIn K (.ref GR) = true)
    (n1GR : PySem.W.findIn K (.ref GR) "classes" = some none)
    (n2GR : PySem.W.findIn K (.ref GR) "fields" = some none)
    (rdGR : PySem.W.readsIn K GR (.type "type") = true)
    (gatGR : PySem.W.specialIn K (.ref GR) "__getattribute__" = some (some (.builtin "type.__getattribute__")))
    (qF12 : PySem.W.findCls K (.ref GR) (.type "type") "MOST_FIELDS" = some (.val (.int 12 tkF12)))
    (qF40 : PySem.W.findCls K (.ref GR) (.type "type") "MOST_FORCES" = some (.val (.int 40 tkF40)))
    (aGround_init : PySem.W.findIn K (.ref GR) "__init__" = some (some (.ref fGround_init)))
    (iGround_init : PySem.W.isFn K (.ref fGround_init) = true)
    (lGround_init : K.lookup fGround_init = some ⟨ocGround_init, odGround_init, .func (PySem.W.fnOf "__init__" "Ground.__init__" (defArgs s_Ground_init) (defBody s_Ground_init) (defScope s_Ground_init) .none kVGround_init dcGround_init pmGround_init anGround_init cdGround_init ctGround_init), slGround_init⟩)
    (cGround_init : PySem.W.codeIn K cdGround_init "Ground.__init__" = true)
    (kGround_init : PySem.W.keepIn K (.ref fGround_init) = true)
    (aGround_total : PySem.W.findIn K (.ref GR) "total" = some (some (.ref fGround_total)))
    (iGround_total : PySem.W.isFn K (.ref fGround_total) = true)
    (lGround_total : K.lookup fGround_total = some ⟨ocGround_total, odGround_total, .func (PySem.W.fnOf "total" "Ground.total" (defArgs s_Ground_total) (defBody s_Ground_total) (defScope s_Ground_total) .none kVGround_total dcGround_total pmGround_total anGround_total cdGround_total ctGround_total), slGround_total⟩)
    (cGround_total : PySem.W.codeIn K cdGround_total "Ground.total" = true)
    (kGround_total : PySem.W.keepIn K (.ref fGround_total) = true)
    (apool : PySem.W.nsIn K mainGlobals "_law_pool" = some (some (.ref fpool)))
    (lpool : K.lookup fpool = some ⟨ocpool, odpool, .func (PySem.W.fnOf "_law_pool" "_law_pool" (defArgs s_pool) (defBody s_pool) (defScope s_pool) .none kVpool dcpool pmpool anpool cdpool ctpool), slpool⟩)
    (cpool : PySem.W.codeIn K cdpool "_law_pool" = true)
    (kpool : PySem.W.keepIn K (.ref fpool) = true)
    (amix : PySem.W.nsIn K mainGlobals "_law_mix" = some (some (.ref fmix)))
    (lmix : K.lookup fmix = some ⟨ocmix, odmix, .func (PySem.W.fnOf "_law_mix" "_law_mix" (defArgs s_mix) (defBody s_mix) (defScope s_mix) .none kVmix dcmix pmmix anmix cdmix ctmix), slmix⟩)
    (cmix : PySem.W.codeIn K cdmix "_law_mix" = true)
    (kmix : PySem.W.keepIn K (.ref fmix) = true)
    (adraw : PySem.W.nsIn K mainGlobals "_law_draw" = some (some (.ref fdraw)))
    (ldraw : K.lookup fdraw = some ⟨ocdraw, oddraw, .func (PySem.W.fnOf "_law_draw" "_law_draw" (defArgs s_draw) (defBody s_draw) (defScope s_draw) .none kVdraw dcdraw pmdraw andraw cddraw ctdraw), sldraw⟩)
    (cdraw : PySem.W.codeIn K cddraw "_law_draw" = true)
    (kdraw : PySem.W.keepIn K (.ref fdraw) = true)
    (awide : PySem.W.nsIn K mainGlobals "_law_wide" = some (some (.ref fwide)))
    (lwide : K.lookup fwide = some ⟨ocwide, odwide, .func (PySem.W.fnOf "_law_wide" "_law_wide" (defArgs s_wide) (defBody s_wide) (defScope s_wide) .none kVwide dcwide pmwide anwide cdwide ctwide), slwide⟩)
    (cwide : PySem.W.codeIn K cdwide "_law_wide" = true)
    (kwide : PySem.W.keepIn K (.ref fwide) = true)
    (awhole : PySem.W.nsIn K mainGlobals "_law_whole" = some (some (.ref fwhole)))
    (lwhole : K.lookup fwhole = some ⟨ocwhole, odwhole, .func (PySem.W.fnOf "_law_whole" "_law_whole" (defArgs s_whole) (defBody s_whole) (defScope s_whole) .none kVwhole dcwhole pmwhole anwhole cdwhole ctwhole), slwhole⟩)
    (cwhole : PySem.W.codeIn K cdwhole "_law_whole" = true)
    (kwhole : PySem.W.keepIn K (.ref fwhole) = true)
    (agcd : PySem.W.nsIn K mainGlobals "_law_gcd" = some (some (.ref fgcd)))
    (lgcd : K.lookup fgcd = some ⟨ocgcd, odgcd, .func (PySem.W.fnOf "_law_gcd" "_law_gcd" (defArgs s_gcd) (defBody s_gcd) (defScope s_gcd) .none kVgcd dcgcd pmgcd angcd cdgcd ctgcd), slgcd⟩)
    (cgcd : PySem.W.codeIn K cdgcd "_law_gcd" = true)
    (kgcd : PySem.W.keepIn K (.ref fgcd) = true)
    (alow : PySem.W.nsIn K mainGlobals "_law_low" = some (some (.ref flow)))
    (llow : K.lookup flow = some ⟨oclow, odlow, .func (PySem.W.fnOf "_law_low" "_law_low" (defArgs s_low) (defBody s_low) (defScope s_low) .none kVlow dclow pmlow anlow cdlow ctlow), sllow⟩)
    (clow : PySem.W.codeIn K cdlow "_law_low" = true)
    (klow : PySem.W.keepIn K (.ref flow) = true)
    (aplus : PySem.W.nsIn K mainGlobals "_law_plus" = some (some (.ref fplus)))
    (lplus : K.lookup fplus = some ⟨ocplus, odplus, .func (PySem.W.fnOf "_law_plus" "_law_plus" (defArgs s_plus) (defBody s_plus) (defScope s_plus) .none kVplus dcplus pmplus anplus cdplus ctplus), slplus⟩)
    (cplus : PySem.W.codeIn K cdplus "_law_plus" = true)
    (kplus : PySem.W.keepIn K (.ref fplus) = true)
    (aratio : PySem.W.nsIn K mainGlobals "_law_ratio" = some (some (.ref fratio)))
    (lratio : K.lookup fratio = some ⟨ocratio, odratio, .func (PySem.W.fnOf "_law_ratio" "_law_ratio" (defArgs s_ratio) (defBody s_ratio) (defScope s_ratio) .none kVratio dcratio pmratio anratio cdratio ctratio), slratio⟩)
    (cratio : PySem.W.codeIn K cdratio "_law_ratio" = true)
    (kratio : PySem.W.keepIn K (.ref fratio) = true)
    (asame : PySem.W.nsIn K mainGlobals "_law_same" = some (some (.ref fsame)))
    (lsame : K.lookup fsame = some ⟨ocsame, odsame, .func (PySem.W.fnOf "_law_same" "_law_same" (defArgs s_same) (defBody s_same) (defScope s_same) .none kVsame dcsame pmsame ansame cdsame ctsame), slsame⟩)
    (csame : PySem.W.codeIn K cdsame "_law_same" = true)
    (ksame : PySem.W.keepIn K (.ref fsame) = true)
    (aclasses : PySem.W.nsIn K mainGlobals "_law_classes" = some (some (.ref fclasses)))
    (lclasses : K.lookup fclasses = some ⟨occlasses, odclasses, .func (PySem.W.fnOf "_law_classes" "_law_classes" (defArgs s_classes) (defBody s_classes) (defScope s_classes) .none kVclasses dcclasses pmclasses anclasses cdclasses ctclasses), slclasses⟩)
    (cclasses : PySem.W.codeIn K cdclasses "_law_classes" = true)
    (kclasses : PySem.W.keepIn K (.ref fclasses) = true)
    (aground : PySem.W.nsIn K mainGlobals "_law_ground" = some (some (.ref fground)))
    (lground : K.lookup fground = some ⟨ocground, odground, .func (PySem.W.fnOf "_law_ground" "_law_ground" (defArgs s_ground) (defBody s_ground) (defScope s_ground) .none kVground dcground pmground anground cdground ctground), slground⟩)
    (cground : PySem.W.codeIn K cdground "_law_ground" = true)
    (kground : PySem.W.keepIn K (.ref fground) = true)
    (acut : PySem.W.nsIn K mainGlobals "_law_cut" = some (some (.ref fcut)))
    (lcut : K.lookup fcut = some ⟨occut, odcut, .func (PySem.W.fnOf "_law_cut" "_law_cut" (defArgs s_cut) (defBody s_cut) (defScope s_cut) .none kVcut dccut pmcut ancut cdcut ctcut), slcut⟩)
    (ccut : PySem.W.codeIn K cdcut "_law_cut" = true)
    (kcut : PySem.W.keepIn K (.ref fcut) = true)
    (aspread : PySem.W.nsIn K mainGlobals "_law_spread" = some (some (.ref fspread)))
    (lspread : K.lookup fspread = some ⟨ocspread, odspread, .func (PySem.W.fnOf "_law_spread" "_law_spread" (defArgs s_spread) (defBody s_spread) (defScope s_spread) .none kVspread dcspread pmspread anspread cdspread ctspread), slspread⟩)
    (cspread : PySem.W.codeIn K cdspread "_law_spread" = true)
    (kspread : PySem.W.keepIn K (.ref fspread) = true)
    (aoutcome : PySem.W.nsIn K mainGlobals "_law_outcome" = some (some (.ref foutcome)))
    (loutcome : K.lookup foutcome = some ⟨ocoutcome, odoutcome, .func (PySem.W.fnOf "_law_outcome" "_law_outcome" (defArgs s_outcome) (defBody s_outcome) (defScope s_outcome) .none kVoutcome dcoutcome pmoutcome anoutcome cdoutcome ctoutcome), sloutcome⟩)
    (coutcome : PySem.W.codeIn K cdoutcome "_law_outcome" = true)
    (koutcome : PySem.W.keepIn K (.ref foutcome) = true)
    (aput_in : PySem.W.nsIn K mainGlobals "_law_put_in" = some (some (.ref fput_in)))
    (lput_in : K.lookup fput_in = some ⟨ocput_in, odput_in, .func (PySem.W.fnOf "_law_put_in" "_law_put_in" (defArgs s_put_in) (defBody s_put_in) (defScope s_put_in) .none kVput_in dcput_in pmput_in anput_in cdput_in ctput_in), slput_in⟩)
    (cput_in : PySem.W.codeIn K cdput_in "_law_put_in" = true)
    (kput_in : PySem.W.keepIn K (.ref fput_in) = true)
    (aorders : PySem.W.nsIn K mainGlobals "_law_orders" = some (some (.ref forders)))
    (lorders : K.lookup forders = some ⟨ocorders, odorders, .func (PySem.W.fnOf "_law_orders" "_law_orders" (defArgs s_orders) (defBody s_orders) (defScope s_orders) .none kVorders dcorders pmorders anorders cdorders ctorders), slorders⟩)
    (corders : PySem.W.codeIn K cdorders "_law_orders" = true)
    (korders : PySem.W.keepIn K (.ref forders) = true)
    (adealt : PySem.W.nsIn K mainGlobals "_law_dealt" = some (some (.ref fdealt)))
    (ldealt : K.lookup fdealt = some ⟨ocdealt, oddealt, .func (PySem.W.fnOf "_law_dealt" "_law_dealt" (defArgs s_dealt) (defBody s_dealt) (defScope s_dealt) .none kVdealt dcdealt pmdealt andealt cddealt ctdealt), sldealt⟩)
    (cdealt : PySem.W.codeIn K cddealt "_law_dealt" = true)
    (kdealt : PySem.W.keepIn K (.ref fdealt) = true)
    (afar : PySem.W.nsIn K mainGlobals "_law_far" = some (some (.ref ffar)))
    (lfar : K.lookup ffar = some ⟨ocfar, odfar, .func (PySem.W.fnOf "_law_far" "_law_far" (defArgs s_far) (defBody s_far) (defScope s_far) .none kVfar dcfar pmfar anfar cdfar ctfar), slfar⟩)
    (cfar : PySem.W.codeIn K cdfar "_law_far" = true)
    (kfar : PySem.W.keepIn K (.ref ffar) = true)
    (atotal : PySem.W.nsIn K mainGlobals "_law_total" = some (some (.ref ftotal)))
    (ltotal : K.lookup ftotal = some ⟨octotal, odtotal, .func (PySem.W.fnOf "_law_total" "_law_total" (defArgs s_total) (defBody s_total) (defScope s_total) .none kVtotal dctotal pmtotal antotal cdtotal cttotal), sltotal⟩)
    (ctotal : PySem.W.codeIn K cdtotal "_law_total" = true)
    (ktotal : PySem.W.keepIn K (.ref ftotal) = true)
    (abeside : PySem.W.nsIn K mainGlobals "_law_beside" = some (some (.ref fbeside)))
    (lbeside : K.lookup fbeside = some ⟨ocbeside, odbeside, .func (PySem.W.fnOf "_law_beside" "_law_beside" (defArgs s_beside) (defBody s_beside) (defScope s_beside) .none kVbeside dcbeside pmbeside anbeside cdbeside ctbeside), slbeside⟩)
    (cbeside : PySem.W.codeIn K cdbeside "_law_beside" = true)
    (kbeside : PySem.W.keepIn K (.ref fbeside) = true)
    (aspoiled : PySem.W.nsIn K mainGlobals "_law_spoiled" = some (some (.ref fspoiled)))
    (lspoiled : K.lookup fspoiled = some ⟨ocspoiled, odspoiled, .func (PySem.W.fnOf "_law_spoiled" "_law_spoiled" (defArgs s_spoiled) (defBody s_spoiled) (defScope s_spoiled) .none kVspoiled dcspoiled pmspoiled anspoiled cdspoiled ctspoiled), slspoiled⟩)
    (cspoiled : PySem.W.codeIn K cdspoiled "_law_spoiled" = true)
    (kspoiled : PySem.W.keepIn K (.ref fspoiled) = true)
    (arefused : PySem.W.nsIn K mainGlobals "_law_refused" = some (some (.ref frefused)))
    (lrefused : K.lookup frefused = some ⟨ocrefused, odrefused, .func (PySem.W.fnOf "_law_refused" "_law_refused" (defArgs s_refused) (defBody s_refused) (defScope s_refused) .none kVrefused dcrefused pmrefused anrefused cdrefused ctrefused), slrefused⟩)
    (crefused : PySem.W.codeIn K cdrefused "_law_refused" = true)
    (krefused : PySem.W.keepIn K (.ref frefused) = true)
    (ais_number : PySem.W.nsIn K mainGlobals "is_number" = some (some (.ref fis_number)))
    (lis_number : K.lookup fis_number = some ⟨ocis_number, odis_number, .func (PySem.W.fnOf "is_number" "is_number" (defArgs s_is_number) (defBody s_is_number) (defScope s_is_number) .none kVis_number dcis_number pmis_number anis_number cdis_number ctis_number), slis_number⟩)
    (cis_number : PySem.W.codeIn K cdis_number "is_number" = true)
    (kis_number : PySem.W.keepIn K (.ref fis_number) = true)
    (aas_ratio : PySem.W.nsIn K mainGlobals "as_ratio" = some (some (.ref fas_ratio)))
    (las_ratio : K.lookup fas_ratio = some ⟨ocas_ratio, odas_ratio, .func (PySem.W.fnOf "as_ratio" "as_ratio" (defArgs s_as_ratio) (defBody s_as_ratio) (defScope s_as_ratio) .none kVas_ratio dcas_ratio pmas_ratio anas_ratio cdas_ratio ctas_ratio), slas_ratio⟩)
    (cas_ratio : PySem.W.codeIn K cdas_ratio "as_ratio" = true)
    (kas_ratio : PySem.W.keepIn K (.ref fas_ratio) = true)
    (atop_of : PySem.W.nsIn K mainGlobals "_top_of" = some (some (.ref ftop_of)))
    (ltop_of : K.lookup ftop_of = some ⟨octop_of, odtop_of, .func (PySem.W.fnOf "_top_of" "_top_of" (defArgs s_top_of) (defBody s_top_of) (defScope s_top_of) .none kVtop_of dctop_of pmtop_of antop_of cdtop_of cttop_of), sltop_of⟩)
    (ctop_of : PySem.W.codeIn K cdtop_of "_top_of" = true)
    (ktop_of : PySem.W.keepIn K (.ref ftop_of) = true)
    (aunder_of : PySem.W.nsIn K mainGlobals "_under_of" = some (some (.ref funder_of)))
    (lunder_of : K.lookup funder_of = some ⟨ocunder_of, odunder_of, .func (PySem.W.fnOf "_under_of" "_under_of" (defArgs s_under_of) (defBody s_under_of) (defScope s_under_of) .none kVunder_of dcunder_of pmunder_of anunder_of cdunder_of ctunder_of), slunder_of⟩)
    (cunder_of : PySem.W.codeIn K cdunder_of "_under_of" = true)
    (kunder_of : PySem.W.keepIn K (.ref funder_of) = true)
    (aadded : PySem.W.nsIn K mainGlobals "added" = some (some (.ref fadded)))
    (ladded : K.lookup fadded = some ⟨ocadded, odadded, .func (PySem.W.fnOf "added" "added" (defArgs s_added) (defBody s_added) (defScope s_added) .none kVadded dcadded pmadded anadded cdadded ctadded), sladded⟩)
    (cadded : PySem.W.codeIn K cdadded "added" = true)
    (kadded : PySem.W.keepIn K (.ref fadded) = true)
    (acheck_ties : PySem.W.nsIn K mainGlobals "check_ties" = some (some (.ref fcheck_ties)))
    (lcheck_ties : K.lookup fcheck_ties = some ⟨occheck_ties, odcheck_ties, .func (PySem.W.fnOf "check_ties" "check_ties" (defArgs s_check_ties) (defBody s_check_ties) (defScope s_check_ties) .none kVcheck_ties dccheck_ties pmcheck_ties ancheck_ties cdcheck_ties ctcheck_ties), slcheck_ties⟩)
    (ccheck_ties : PySem.W.codeIn K cdcheck_ties "check_ties" = true)
    (kcheck_ties : PySem.W.keepIn K (.ref fcheck_ties) = true)
    (acheck_worth : PySem.W.nsIn K mainGlobals "check_worth" = some (some (.ref fcheck_worth)))
    (lcheck_worth : K.lookup fcheck_worth = some ⟨occheck_worth, odcheck_worth, .func (PySem.W.fnOf "check_worth" "check_worth" (defArgs s_check_worth) (defBody s_check_worth) (defScope s_check_worth) .none kVcheck_worth dccheck_worth pmcheck_worth ancheck_worth cdcheck_worth ctcheck_worth), slcheck_worth⟩)
    (ccheck_worth : PySem.W.codeIn K cdcheck_worth "check_worth" = true)
    (kcheck_worth : PySem.W.keepIn K (.ref fcheck_worth) = true)
    (acheck_classes : PySem.W.nsIn K mainGlobals "_check_classes" = some (some (.ref fcheck_classes)))
    (lcheck_classes : K.lookup fcheck_classes = some ⟨occheck_classes, odcheck_classes, .func (PySem.W.fnOf "_check_classes" "_check_classes" (defArgs s_check_classes) (defBody s_check_classes) (defScope s_check_classes) .none kVcheck_classes dccheck_classes pmcheck_classes ancheck_classes cdcheck_classes ctcheck_classes), slcheck_classes⟩)
    (ccheck_classes : PySem.W.codeIn K cdcheck_classes "_check_classes" = true)
    (kcheck_classes : PySem.W.keepIn K (.ref fcheck_classes) = true)
    (ais_row : PySem.W.nsIn K mainGlobals "_is_row" = some (some (.ref fis_row)))
    (lis_row : K.lookup fis_row = some ⟨ocis_row, odis_row, .func (PySem.W.fnOf "_is_row" "_is_row" (defArgs s_is_row) (defBody s_is_row) (defScope s_is_row) .none kVis_row dcis_row pmis_row anis_row cdis_row ctis_row), slis_row⟩)
    (cis_row : PySem.W.codeIn K cdis_row "_is_row" = true)
    (kis_row : PySem.W.keepIn K (.ref fis_row) = true)
    (apairs_gain : PySem.W.nsIn K mainGlobals "_pairs_gain" = some (some (.ref fpairs_gain)))
    (lpairs_gain : K.lookup fpairs_gain = some ⟨ocpairs_gain, odpairs_gain, .func (PySem.W.fnOf "_pairs_gain" "_pairs_gain" (defArgs s_pairs_gain) (defBody s_pairs_gain) (defScope s_pairs_gain) .none kVpairs_gain dcpairs_gain pmpairs_gain anpairs_gain cdpairs_gain ctpairs_gain), slpairs_gain⟩)
    (cpairs_gain : PySem.W.codeIn K cdpairs_gain "_pairs_gain" = true)
    (kpairs_gain : PySem.W.keepIn K (.ref fpairs_gain) = true)
    (aspread_gain : PySem.W.nsIn K mainGlobals "spread_gain" = some (some (.ref fspread_gain)))
    (lspread_gain : K.lookup fspread_gain = some ⟨ocspread_gain, odspread_gain, .func (PySem.W.fnOf "spread_gain" "spread_gain" (defArgs s_spread_gain) (defBody s_spread_gain) (defScope s_spread_gain) .none (.ref kdspread_gain) dcspread_gain pmspread_gain anspread_gain cdspread_gain ctspread_gain), slspread_gain⟩)
    (cspread_gain : PySem.W.codeIn K cdspread_gain "spread_gain" = true)
    (kspread_gain : PySem.W.keepIn K (.ref fspread_gain) = true)
    (nspread_gain : PySem.W.nsIn K kdspread_gain "ties" = some (some (.int 0 tkkspread_gain)))
    (alaw : PySem.W.nsIn K mainGlobals "law" = some (some (.ref flaw)))
    (llaw : K.lookup flaw = some ⟨oclaw, odlaw, .func (PySem.W.fnOf "law" "law" (defArgs s_law) (defBody s_law) (defScope s_law) .none kVlaw dclaw pmlaw anlaw cdlaw ctlaw), sllaw⟩)
    (claw : PySem.W.codeIn K cdlaw "law" = true)
    (klaw : PySem.W.keepIn K (.ref flaw) = true) :
    ∃ fd : FuncData, (∀ (s : Shared) (v : Value), BindsTo s fd ⟨[v], []⟩ [("_law_script", v)]) ∧ ∀ base : Heap, K.In base → base.Ns mainGlobals mg → FnOk l.prog w K mg base CX0 8 fa fd ["_law_script"] (spLaw K) := by
  have e := hfa.symm.trans (PySem.W.mg_of X G alaw)
  cases e
  have B : Blt mg := ⟨PySem.W.mg_none_of X G zlen, PySem.W.mg_none_of X G zint, PySem.W.mg_none_of X G zabs, PySem.W.mg_none_of X G zrange, PySem.W.mg_none_of X G zisinstance, PySem.W.mg_none_of X G zmax, PySem.W.mg_none_of X G zmin, PySem.W.mg_none_of X G zsum, PySem.W.mg_none_of X G zstr, PySem.W.mg_none_of X G zbool, PySem.W.mg_none_of X G zlist, PySem.W.mg_none_of X G zValueError⟩
  have hZip := PySem.W.mg_none_of X G zzip
  have hAll := PySem.W.mg_none_of X G zall
  have hTup := PySem.W.mg_none_of X G ztuple
  have hSrt := PySem.W.mg_none_of X G zsorted
  have gRatio := PySem.W.mg_of X G aC
  have T : RatC K mg C := ⟨⟨pgC, hdC, poC, saC⟩, nTC, nUC, gRatio, haC, hnO, htO, hmC, kit_int hdC tyC siC⟩
  have FI : FunD K "__init__" "Ratio.__init__" (defArgs s_Ratio_init) (defBody s_Ratio_init) (defScope s_Ratio_init) [.int 1] [] fRatio_init _ := ⟨⟨_, _, _, _, _, _, _, _, _, _, rfl, lRatio_init, cRatio_init, .inr ⟨(by intro e; cases e), tD, _, [Value.int 1 tkD], nD, rfl, lD, rfl, .cons ⟨_, rfl⟩ .nil⟩, .inl rfl⟩, kRatio_init⟩
  have hgcd := PySem.W.mg_of X G aGcd
  have gLotError := PySem.W.mg_of X G aLE
  have gBadNumber := PySem.W.mg_of X G aBN
  have rBN : PySem.HandSPX.refsVE [.ref LE, .type "ValueError", .type "Exception", .type "BaseException", .type "object"] = true := (show PySem.HandSPX.refsVE [.type "ValueError", .type "Exception", .type "BaseException", .type "object"] = true by decide +kernel)
  have TB : BnC K mg BN := ⟨⟨⟨nmE, qE, NE, bsE, _, snE, subE, abE, colE, ddE, mE0, mE1, mE2, mE3, mE5, xBN, rBN⟩, saBN, beBN, teBN, keBN⟩, gBadNumber, fnBN, fvBN, ⟨geBN, ggBN, beBN, hdBN, hcBN, hnO, htO, hoBN⟩, seBN⟩
  have FB := fun_mk (st := s_BadNumber_init) lBadNumber_init cBadNumber_init kBadNumber_init
  have bB := FB.binds (ps := ["self", "name", "value"]) fun _ _ _ _ _ _ us hl => match us, hl with | [_, _, _], _ => rfl
  have gZeroUnder := PySem.W.mg_of X G aZU
  have TZU : ExC K mg "ZeroUnder" ZU := ⟨xZU, gZeroUnder, keZU, beZU, teZU, seZU, ⟨geZU, ggZU, beZU, hdZU, hcZU, hnO, htO, hoZU⟩⟩
  have gBadSpread := PySem.W.mg_of X G aBS
  have TBS : ExC K mg "BadSpread" BS := ⟨xBS, gBadSpread, keBS, beBS, teBS, seBS, ⟨geBS, ggBS, beBS, hdBS, hcBS, hnO, htO, hoBS⟩⟩
  have FRatio_add := fun_mk (st := s_Ratio_add) lRatio_add cRatio_add kRatio_add
  have bRatio_add := FRatio_add.binds (ps := ["self", "other"]) fun _ _ _ _ _ _ us hl => match us, hl with | [_, _], _ => rfl
  have FRatio_radd := fun_mk (st := s_Ratio_radd) lRatio_radd cRatio_radd kRatio_radd
  have bRatio_radd := FRatio_radd.binds (ps := ["self", "other"]) fun _ _ _ _ _ _ us hl => match us, hl with | [_, _], _ => rfl
  have gMC := PySem.W.mg_of X G aMC
  have gMW := PySem.W.mg_of X G aMW
  have gGround := PySem.W.mg_of X G aGR
  have TG : GrC K mg GR := ⟨⟨pgGR, hdGR, poGR, saGR⟩, n1GR, n2GR, gGround⟩
  have CRGR : ClX.CRead K GR (.type "type") := ⟨rdGR, gatGR⟩
  have CF12 : ClX.CVal K GR (.type "type") "MOST_FIELDS" (.int 12) (.int 12 tkF12) := ⟨qF12, ⟨_, rfl⟩⟩
  have CF40 : ClX.CVal K GR (.type "type") "MOST_FORCES" (.int 40) (.int 40 tkF40) := ⟨qF40, ⟨_, rfl⟩⟩
  have MKG : Mk K GR fGround_init := ⟨mkGR, aGround_init, iGround_init, kcGR⟩
  have FGround_total := fun_mk (st := s_Ground_total) lGround_total cGround_total kGround_total
  have bGround_total := FGround_total.binds (ps := ["self", "spread"]) fun _ _ _ _ _ _ us hl => match us, hl with | [_, _], _ => rfl
  have mGround_total : Meth K GR "total" fGround_total := ⟨aGround_total, iGround_total, kGround_total⟩
  have Fpool := fun_mk (st := s_pool) lpool cpool kpool
  have Dpool : Dfn K mg "_law_pool" "_law_pool" s_pool ["_law_script"] := ⟨fpool, _, Fpool, PySem.W.mg_of X G apool, Fpool.binds (ps := ["_law_script"]) fun _ _ _ _ _ _ us hl => match us, hl with | [_], _ => rfl⟩
  have Fmix := fun_mk (st := s_mix) lmix cmix kmix
  have Dmix : Dfn K mg "_law_mix" "_law_mix" s_mix ["_law_state", "_law_turn", "_law_many"] := ⟨fmix, _, Fmix, PySem.W.mg_of X G amix, Fmix.binds (ps := ["_law_state", "_law_turn", "_law_many"]) fun _ _ _ _ _ _ us hl => match us, hl with | [_, _, _], _ => rfl⟩
  have Fdraw := fun_mk (st := s_draw) ldraw cdraw kdraw
  have Ddraw : Dfn K mg "_law_draw" "_law_draw" s_draw ["_law_pool_here", "_law_many"] := ⟨fdraw, _, Fdraw, PySem.W.mg_of X G adraw, Fdraw.binds (ps := ["_law_pool_here", "_law_many"]) fun _ _ _ _ _ _ us hl => match us, hl with | [_, _], _ => rfl⟩
  have Fwide := fun_mk (st := s_wide) lwide cwide kwide
  have Dwide : Dfn K mg "_law_wide" "_law_wide" s_wide ["_law_pool_here"] := ⟨fwide, _, Fwide, PySem.W.mg_of X G awide, Fwide.binds (ps := ["_law_pool_here"]) fun _ _ _ _ _ _ us hl => match us, hl with | [_], _ => rfl⟩
  have Fwhole := fun_mk (st := s_whole) lwhole cwhole kwhole
  have Dwhole : Dfn K mg "_law_whole" "_law_whole" s_whole ["_law_actual"] := ⟨fwhole, _, Fwhole, PySem.W.mg_of X G awhole, Fwhole.binds (ps := ["_law_actual"]) fun _ _ _ _ _ _ us hl => match us, hl with | [_], _ => rfl⟩
  have Fgcd := fun_mk (st := s_gcd) lgcd cgcd kgcd
  have Dgcd : Dfn K mg "_law_gcd" "_law_gcd" s_gcd ["_law_one", "_law_other"] := ⟨fgcd, _, Fgcd, PySem.W.mg_of X G agcd, Fgcd.binds (ps := ["_law_one", "_law_other"]) fun _ _ _ _ _ _ us hl => match us, hl with | [_, _], _ => rfl⟩
  have Flow := fun_mk (st := s_low) llow clow klow
  have Dlow : Dfn K mg "_law_low" "_law_low" s_low ["_law_top", "_law_under"] := ⟨flow, _, Flow, PySem.W.mg_of X G alow, Flow.binds (ps := ["_law_top", "_law_under"]) fun _ _ _ _ _ _ us hl => match us, hl with | [_, _], _ => rfl⟩
  have Fplus := fun_mk (st := s_plus) lplus cplus kplus
  have Dplus : Dfn K mg "_law_plus" "_law_plus" s_plus ["_law_one", "_law_other"] := ⟨fplus, _, Fplus, PySem.W.mg_of X G aplus, Fplus.binds (ps := ["_law_one", "_law_other"]) fun _ _ _ _ _ _ us hl => match us, hl with | [_, _], _ => rfl⟩
  have Fratio := fun_mk (st := s_ratio) lratio cratio kratio
  have Dratio : Dfn K mg "_law_ratio" "_law_ratio" s_ratio ["_law_actual"] := ⟨fratio, _, Fratio, PySem.W.mg_of X G aratio, Fratio.binds (ps := ["_law_actual"]) fun _ _ _ _ _ _ us hl => match us, hl with | [_], _ => rfl⟩
  have Fsame := fun_mk (st := s_same) lsame csame ksame
  have Dsame : Dfn K mg "_law_same" "_law_same" s_same ["_law_actual", "_law_due"] := ⟨fsame, _, Fsame, PySem.W.mg_of X G asame, Fsame.binds (ps := ["_law_actual", "_law_due"]) fun _ _ _ _ _ _ us hl => match us, hl with | [_, _], _ => rfl⟩
  have Fclasses := fun_mk (st := s_classes) lclasses cclasses kclasses
  have Dclasses : Dfn K mg "_law_classes" "_law_classes" s_classes ["_law_pool_here", "_law_most"] := ⟨fclasses, _, Fclasses, PySem.W.mg_of X G aclasses, Fclasses.binds (ps := ["_law_pool_here", "_law_most"]) fun _ _ _ _ _ _ us hl => match us, hl with | [_, _], _ => rfl⟩
  have Fground := fun_mk (st := s_ground) lground cground kground
  have Dground : Dfn K mg "_law_ground" "_law_ground" s_ground ["_law_classes_here"] := ⟨fground, _, Fground, PySem.W.mg_of X G aground, Fground.binds (ps := ["_law_classes_here"]) fun _ _ _ _ _ _ us hl => match us, hl with | [_], _ => rfl⟩
  have Fcut := fun_mk (st := s_cut) lcut ccut kcut
  have Dcut : Dfn K mg "_law_cut" "_law_cut" s_cut ["_law_classes_here", "_law_strengths"] := ⟨fcut, _, Fcut, PySem.W.mg_of X G acut, Fcut.binds (ps := ["_law_classes_here", "_law_strengths"]) fun _ _ _ _ _ _ us hl => match us, hl with | [_, _], _ => rfl⟩
  have Fspread := fun_mk (st := s_spread) lspread cspread kspread
  have Dspread : Dfn K mg "_law_spread" "_law_spread" s_spread ["_law_pool_here", "_law_classes_here", "_law_total_here"] := ⟨fspread, _, Fspread, PySem.W.mg_of X G aspread, Fspread.binds (ps := ["_law_pool_here", "_law_classes_here", "_law_total_here"]) fun _ _ _ _ _ _ us hl => match us, hl with | [_, _, _], _ => rfl⟩
  have Foutcome := fun_mk (st := s_outcome) loutcome coutcome koutcome
  have Doutcome : Dfn K mg "_law_outcome" "_law_outcome" s_outcome ["_law_x", "_law_y", "_law_rule"] := ⟨foutcome, _, Foutcome, PySem.W.mg_of X G aoutcome, Foutcome.binds (ps := ["_law_x", "_law_y", "_law_rule"]) fun _ _ _ _ _ _ us hl => match us, hl with | [_, _, _], _ => rfl⟩
  have Fput_in := fun_mk (st := s_put_in) lput_in cput_in kput_in
  have Dput_in : Dfn K mg "_law_put_in" "_law_put_in" s_put_in ["_law_orders_here", "_law_strength"] := ⟨fput_in, _, Fput_in, PySem.W.mg_of X G aput_in, Fput_in.binds (ps := ["_law_orders_here", "_law_strength"]) fun _ _ _ _ _ _ us hl => match us, hl with | [_, _], _ => rfl⟩
  have Forders := fun_mk (st := s_orders) lorders corders korders
  have Dorders : Dfn K mg "_law_orders" "_law_orders" s_orders ["_law_row"] := ⟨forders, _, Forders, PySem.W.mg_of X G aorders, Forders.binds (ps := ["_law_row"]) fun _ _ _ _ _ _ us hl => match us, hl with | [_], _ => rfl⟩
  have Fdealt := fun_mk (st := s_dealt) ldealt cdealt kdealt
  have Ddealt : Dfn K mg "_law_dealt" "_law_dealt" s_dealt ["_law_classes_here", "_law_one", "_law_other", "_law_rule"] := ⟨fdealt, _, Fdealt, PySem.W.mg_of X G adealt, Fdealt.binds (ps := ["_law_classes_here", "_law_one", "_law_other", "_law_rule"]) fun _ _ _ _ _ _ us hl => match us, hl with | [_, _, _, _], _ => rfl⟩
  have Ffar := fun_mk (st := s_far) lfar cfar kfar
  have Dfar : Dfn K mg "_law_far" "_law_far" s_far ["_law_pool_here"] := ⟨ffar, _, Ffar, PySem.W.mg_of X G afar, Ffar.binds (ps := ["_law_pool_here"]) fun _ _ _ _ _ _ us hl => match us, hl with | [_], _ => rfl⟩
  have Ftotal := fun_mk (st := s_total) ltotal ctotal ktotal
  have Dtotal : Dfn K mg "_law_total" "_law_total" s_total ["_law_pool_here"] := ⟨ftotal, _, Ftotal, PySem.W.mg_of X G atotal, Ftotal.binds (ps := ["_law_pool_here"]) fun _ _ _ _ _ _ us hl => match us, hl with | [_], _ => rfl⟩
  have Fbeside := fun_mk (st := s_beside) lbeside cbeside kbeside
  have Dbeside : Dfn K mg "_law_beside" "_law_beside" s_beside ["_law_pool_here", "_law_classes_here", "_law_spread_here"] := ⟨fbeside, _, Fbeside, PySem.W.mg_of X G abeside, Fbeside.binds (ps := ["_law_pool_here", "_law_classes_here", "_law_spread_here"]) fun _ _ _ _ _ _ us hl => match us, hl with | [_, _, _], _ => rfl⟩
  have Fspoiled := fun_mk (st := s_spoiled) lspoiled cspoiled kspoiled
  have Dspoiled : Dfn K mg "_law_spoiled" "_law_spoiled" s_spoiled ["_law_pool_here", "_law_spread_here"] := ⟨fspoiled, _, Fspoiled, PySem.W.mg_of X G aspoiled, Fspoiled.binds (ps := ["_law_pool_here", "_law_spread_here"]) fun _ _ _ _ _ _ us hl => match us, hl with | [_, _], _ => rfl⟩
  have Frefused := fun_mk (st := s_refused) lrefused crefused krefused
  have Drefused : Dfn K mg "_law_refused" "_law_refused" s_refused ["_law_ground_here", "_law_one", "_law_other", "_law_rule"] := ⟨frefused, _, Frefused, PySem.W.mg_of X G arefused, Frefused.binds (ps := ["_law_ground_here", "_law_one", "_law_other", "_law_rule"]) fun _ _ _ _ _ _ us hl => match us, hl with | [_, _, _, _], _ => rfl⟩
  have Fis_number := fun_mk (st := s_is_number) lis_number cis_number kis_number
  have Dis_number : Dfn K mg "is_number" "is_number" s_is_number ["value"] := ⟨fis_number, _, Fis_number, PySem.W.mg_of X G ais_number, Fis_number.binds (ps := ["value"]) fun _ _ _ _ _ _ us hl => match us, hl with | [_], _ => rfl⟩
  have Fas_ratio := fun_mk (st := s_as_ratio) las_ratio cas_ratio kas_ratio
  have Das_ratio : Dfn K mg "as_ratio" "as_ratio" s_as_ratio ["number"] := ⟨fas_ratio, _, Fas_ratio, PySem.W.mg_of X G aas_ratio, Fas_ratio.binds (ps := ["number"]) fun _ _ _ _ _ _ us hl => match us, hl with | [_], _ => rfl⟩
  have Ftop_of := fun_mk (st := s_top_of) ltop_of ctop_of ktop_of
  have Dtop_of : Dfn K mg "_top_of" "_top_of" s_top_of ["number"] := ⟨ftop_of, _, Ftop_of, PySem.W.mg_of X G atop_of, Ftop_of.binds (ps := ["number"]) fun _ _ _ _ _ _ us hl => match us, hl with | [_], _ => rfl⟩
  have Funder_of := fun_mk (st := s_under_of) lunder_of cunder_of kunder_of
  have Dunder_of : Dfn K mg "_under_of" "_under_of" s_under_of ["number"] := ⟨funder_of, _, Funder_of, PySem.W.mg_of X G aunder_of, Funder_of.binds (ps := ["number"]) fun _ _ _ _ _ _ us hl => match us, hl with | [_], _ => rfl⟩
  have Fadded := fun_mk (st := s_added) ladded cadded kadded
  have Dadded : Dfn K mg "added" "added" s_added ["numbers"] := ⟨fadded, _, Fadded, PySem.W.mg_of X G aadded, Fadded.binds (ps := ["numbers"]) fun _ _ _ _ _ _ us hl => match us, hl with | [_], _ => rfl⟩
  have Fcheck_ties := fun_mk (st := s_check_ties) lcheck_ties ccheck_ties kcheck_ties
  have Dcheck_ties : Dfn K mg "check_ties" "check_ties" s_check_ties ["ties"] := ⟨fcheck_ties, _, Fcheck_ties, PySem.W.mg_of X G acheck_ties, Fcheck_ties.binds (ps := ["ties"]) fun _ _ _ _ _ _ us hl => match us, hl with | [_], _ => rfl⟩
  have Fcheck_worth := fun_mk (st := s_check_worth) lcheck_worth ccheck_worth kcheck_worth
  have Dcheck_worth : Dfn K mg "check_worth" "check_worth" s_check_worth ["worth"] := ⟨fcheck_worth, _, Fcheck_worth, PySem.W.mg_of X G acheck_worth, Fcheck_worth.binds (ps := ["worth"]) fun _ _ _ _ _ _ us hl => match us, hl with | [_], _ => rfl⟩
  have Fcheck_classes := fun_mk (st := s_check_classes) lcheck_classes ccheck_classes kcheck_classes
  have Dcheck_classes : Dfn K mg "_check_classes" "_check_classes" s_check_classes ["classes"] := ⟨fcheck_classes, _, Fcheck_classes, PySem.W.mg_of X G acheck_classes, Fcheck_classes.binds (ps := ["classes"]) fun _ _ _ _ _ _ us hl => match us, hl with | [_], _ => rfl⟩
  have Fis_row := fun_mk (st := s_is_row) lis_row cis_row kis_row
  have Dis_row : Dfn K mg "_is_row" "_is_row" s_is_row ["row", "many"] := ⟨fis_row, _, Fis_row, PySem.W.mg_of X G ais_row, Fis_row.binds (ps := ["row", "many"]) fun _ _ _ _ _ _ us hl => match us, hl with | [_, _], _ => rfl⟩
  have Fpairs_gain := fun_mk (st := s_pairs_gain) lpairs_gain cpairs_gain kpairs_gain
  have Dpairs_gain : Dfn K mg "_pairs_gain" "_pairs_gain" s_pairs_gain ["row", "facing", "ties"] := ⟨fpairs_gain, _, Fpairs_gain, PySem.W.mg_of X G apairs_gain, Fpairs_gain.binds (ps := ["row", "facing", "ties"]) fun _ _ _ _ _ _ us hl => match us, hl with | [_, _, _], _ => rfl⟩
  have Fspread_gain : FunD K "spread_gain" "spread_gain" (defArgs s_spread_gain) (defBody s_spread_gain) (defScope s_spread_gain) [] [("ties", .int 0)] fspread_gain _ := ⟨⟨_, _, _, _, _, _, _, _, _, _, rfl, lspread_gain, cspread_gain, .inl ⟨rfl, rfl⟩, .inr ⟨kdspread_gain, rfl, fun q hq => by cases (List.mem_singleton.mp hq); exact ⟨_, nspread_gain, ⟨_, rfl⟩⟩⟩⟩, kspread_gain⟩
  have ⟨dsspread_gain, rdsspread_gain, bdspread_gain⟩ := Fspread_gain.binds0 (ps := ["ground", "one", "other", "ties"]) 3 (by intro e; cases e) rfl (fun D doc pm an cdv ct us ks h1 h2 => match us, ks, h1, h2 with | [_, _, _], [_], _, _ => ⟨_, _, _, _, _, _, rfl, rfl, rfl⟩)
  have Flaw := fun_mk (st := s_law) llaw claw klaw
  refine ⟨PySem.W.fnOf "law" "law" (defArgs s_law) (defBody s_law) (defScope s_law) .none kVlaw dclaw pmlaw anlaw cdlaw ctlaw, fun s v => .of_eq rfl, fun base _ _ => ?_⟩
  have CE : CalE l.prog w K mg base 1 BN := ⟨_, _, aBadNumber_init, tBadNumber_init, ok_bn TB FB, bB⟩
  have ⟨M2, M1⟩ := mk_ratio (P := l.prog) (w := w) (base := base) B hgcd T TZU ⟨mkC, aRatio_init, iRatio_init, kcC⟩ FI
  have cties := ok_ties TB CE Dcheck_ties
  have cmix := ok_mix (P := l.prog) (w := w) (base := base) B Dmix
  have cdraw := ok_draw B Ddraw cmix
  have cdraw1 := ok_draw1 B Ddraw cmix
  have cwide := ok_wide B Dwide cdraw
  have cpool := ok_pool (P := l.prog) (w := w) (base := base) B Dpool
  have cwhole := ok_whole (P := l.prog) (w := w) (base := base) B Dwhole
  have cgcd := ok_gcd (P := l.prog) (w := w) (base := base) B Dgcd
  have cisn := ok_is_number (P := l.prog) (w := w) (base := base) B T (kit_type kmI scI) Dis_number
  have ctop := ok_top_of (P := l.prog) (w := w) (base := base) B T Dtop_of
  have cund := ok_under_of (P := l.prog) (w := w) (base := base) B T Dunder_of
  have casr := ok_as_ratio B T Das_ratio M1
  have OAdd : Bx.OpOwn l.prog w K mg base 3 C (PySem.dunder (Operator.info .Add).2) ["self", "other"] _ := ⟨_, _, (by rw [show PySem.dunder (Operator.info .Add).2 = ("__add__" : Str) from by decide +kernel]; exact aRatio_add), iRatio_add, ok_add T cisn ctop cund M2 FRatio_add, bRatio_add⟩
  have RAdd : Bx.OpOwn l.prog w K mg base 4 C (dunderR (Operator.info .Add).2) ["self", "other"] _ := ⟨_, _, (by rw [show dunderR (Operator.info .Add).2 = ("__radd__" : Str) from by decide +kernel]; exact aRatio_radd), iRatio_radd, ok_radd T hSF cisn casr OAdd FRatio_radd, bRatio_radd⟩
  have iAdd : PySem.W.findIn K (.type "int") (PySem.dunder (Operator.info .Add).2) = some (some (.builtin "int.__add__")) := (by rw [show PySem.dunder (Operator.info .Add).2 = ("__add__" : Str) from by decide +kernel]; exact ziAdd)
  have jAdd : PySem.W.findIn K (.type "int") (dunderR (Operator.info .Add).2) = some (some (.builtin "int.__radd__")) := (by rw [show dunderR (Operator.info .Add).2 = ("__radd__" : Str) from by decide +kernel]; exact zjAdd)
  have hRAdd : PySem.W.findIn K (.ref C) (dunderR (Operator.info .Add).2) = some (some (.ref fRatio_radd)) := (by rw [show dunderR (Operator.info .Add).2 = ("__radd__" : Str) from by decide +kernel]; exact aRatio_radd)
  have cadded := ok_added B M1 hSF OAdd hRAdd iAdd jAdd siC Dadded
  have cratio := ok_ratio B T Dratio cwhole
  have csame := ok_same B T Dsame cratio
  have ccw := ok_cw (P := l.prog) (w := w) (base := base) gMW Dcheck_worth
  have ccc := ok_cc B TG CRGR CF12 gMC ccw Dcheck_classes
  have FG := ok_gr_init B TG lGround_init cGround_init ccc
  have cir := ok_ir (P := l.prog) (w := w) (base := base) B hZip hAll Dis_row
  have TO : Bx.OwnX l.prog w K mg base 2 GR "total" ["self", "spread"] (spTo GR BS) := ⟨_, _, aGround_total, iGround_total, kGround_total, ok_to B hZip TG CRGR CF40 TBS cir FGround_total, bGround_total⟩
  have cpg := ok_pg (P := l.prog) (w := w) (base := base) Dpairs_gain
  have csg : CalSG l.prog w K mg base GR C BS BN := ⟨_, _, _, ok_sg B hZip TG M2 TO cties cadded cpg Fspread_gain, PySem.W.mg_of X G aspread_gain, kspread_gain, rdsspread_gain, bdspread_gain, ⟨fun s us ws _ h1 h2 => match us, ws, h1, h2 with | [_, _, _], [_], _, _ => .of_eq rfl, fun h1 h2 => h1.append h2⟩⟩
  have ccl := ok_cl B cdraw cdraw1 Dclasses
  have cgr := ok_gr B TG MKG FG Dground
  have ctot := ok_tot cdraw Dtotal
  have ccut := ok_cut (P := l.prog) (w := w) (base := base) B hTup hSrt Dcut
  have cspr := ok_spr B cdraw cdraw1 ccut Dspread
  have cfar := ok_far cdraw cwide Dfar
  have clow := ok_low cgcd Dlow
  have cpl := ok_pl clow Dplus
  have cou := ok_ou (P := l.prog) (w := w) (base := base) Doutcome
  have cpi := ok_pi (P := l.prog) (w := w) (base := base) B Dput_in
  have cor := ok_or B cpi Dorders
  have cde := ok_de B cor cou cpl Ddealt
  have cbe := ok_be B cdraw ccut Dbeside
  have cspo := ok_spo B cdraw cdraw1 Dspoiled
  have cre := ok_re B TB TBS gLotError gBadNumber gBadSpread (kit_own hdLE teLE sBNLE seBN) (kit_type kmV veBN) (kit_own hdBS teBS sBNBS seBN) (kit_own hdLE teLE sBSLE seBS) (kit_type kmV veBS) (kit_own hdBN teBN sBSBN seBS) (PySem.W.exm_ref beBS hdBS teBS sBNBS) csg cwhole Drefused
  exact ok_law B TG Flaw cpool cdraw ccl ctot cspr cbe cfar cspo cgr cde csame csg cre
end L

set_option Elab.async false

set_option pp.maxSteps 160
set_option pp.deepTerms false
open PySem PySem.W PyProof.Rows
set_option maxRecDepth 100000 in
set_option maxHeartbeats 0 in
theorem PySem.Challenge.cw_fieldlots_k43_dealt_gain_holds : PySem.Challenge.rw_fieldlots_k43_dealt_gain.Holds := by
  w_on; o_law; k_head; (case hw => w_witness2)
  k_fill
  refine L2.walk_of (l := PySem.Challenge.rw_fieldlots_k43_dealt_gain) (n := 63) (k := 8) (x := "_law_script") (CX := fun _ => L2.CX0) (sp := fun w => L.spLaw _) rfl (by decide) rfl ⟨rfl, by decide, by decide⟩ (fun w h Y => PySem.W.kIn_of Y) ?F (fun _ _ a ns hl _ hS => ⟨a, ns, rfl, hS, hl, fun _ => rfl⟩) (fun _ _ _ _ _ h => h)
  case F =>
    intro w mg fa h KX G hmg
    refine' L.all_mk KX G hmg ?zlen ?zint ?zabs ?zrange ?zisinstance ?zmax ?zmin ?zsum ?zstr ?zbool ?zlist ?zValueError ?zzip ?zall ?ztuple ?zsorted ?aC ?pgC ?hdC ?poC ?saC ?mkC ?kcC ?nTC ?nUC ?haC ?hnO ?htO ?hmC ?siC ?tyC ?aRatio_init ?iRatio_init ?lRatio_init ?cRatio_init ?kRatio_init ?lD ?aGcd ?aLE ?hdLE ?teLE ?aBN ?xBN ?saBN ?keBN ?beBN ?teBN ?seBN ?geBN ?ggBN ?hdBN ?hcBN ?hoBN ?veBN ?fnBN ?fvBN ?aBadNumber_init ?tBadNumber_init ?lBadNumber_init ?cBadNumber_init ?kBadNumber_init ?aZU ?xZU ?keZU ?beZU ?teZU ?seZU ?geZU ?ggZU ?hdZU ?hcZU ?hoZU ?veZU ?aBS ?xBS ?keBS ?beBS ?teBS ?seBS ?geBS ?ggBS ?hdBS ?hcBS ?hoBS ?veBS ?sBNLE ?sBSLE ?sBNBS ?sBSBN ?kmV ?ziAdd ?zjAdd ?ziSub ?zjSub ?ziMult ?zjMult ?hSF ?scI ?kmI ?aRatio_add ?iRatio_add ?lRatio_add ?cRatio_add ?kRatio_add ?aRatio_radd ?iRatio_radd ?lRatio_radd ?cRatio_radd ?kRatio_radd ?aMC ?aMW ?aGR ?pgGR ?hdGR ?poGR ?saGR ?mkGR ?kcGR ?n1GR ?n2GR ?rdGR ?gatGR ?qF12 ?qF40 ?aGround_init ?iGround_init ?lGround_init ?cGround_init ?kGround_init ?aGround_total ?iGround_total ?lGround_total ?cGround_total ?kGround_total ?apool ?lpool ?cpool ?kpool ?amix ?lmix ?cmix ?kmix ?adraw ?ldraw ?cdraw ?kdraw ?awide ?lwide ?cwide ?kwide ?awhole ?lwhole ?cwhole ?kwhole ?agcd ?lgcd ?cgcd ?kgcd ?alow ?llow ?clow ?klow ?aplus ?lplus ?cplus ?kplus ?aratio ?lratio ?cratio ?kratio ?asame ?lsame ?csame ?ksame ?aclasses ?lclasses ?cclasses ?kclasses ?aground ?lground ?cground ?kground ?acut ?lcut ?ccut ?kcut ?aspread ?lspread ?cspread ?kspread ?aoutcome ?loutcome ?coutcome ?koutcome ?aput_in ?lput_in ?cput_in ?kput_in ?aorders ?lorders ?corders ?korders ?adealt ?ldealt ?cdealt ?kdealt ?afar ?lfar ?cfar ?kfar ?atotal ?ltotal ?ctotal ?ktotal ?abeside ?lbeside ?cbeside ?kbeside ?aspoiled ?lspoiled ?cspoiled ?kspoiled ?arefused ?lrefused ?crefused ?krefused ?ais_number ?lis_number ?cis_number ?kis_number ?aas_ratio ?las_ratio ?cas_ratio ?kas_ratio ?atop_of ?ltop_of ?ctop_of ?ktop_of ?aunder_of ?lunder_of ?cunder_of ?kunder_of ?aadded ?ladded ?cadded ?kadded ?acheck_ties ?lcheck_ties ?ccheck_ties ?kcheck_ties ?acheck_worth ?lcheck_worth ?ccheck_worth ?kcheck_worth ?acheck_classes ?lcheck_classes ?ccheck_classes ?kcheck_classes ?ais_row ?lis_row ?cis_row ?kis_row ?apairs_gain ?lpairs_gain ?cpairs_gain ?kpairs_gain ?aspread_gain ?lspread_gain ?cspread_gain ?kspread_gain ?nspread_gain ?alaw ?llaw ?claw ?klaw
    (case zlen => k_is)
    (case zint => k_is)
    (case zabs => k_is)
    (case zrange => k_is)
    (case zisinstance => k_is)
    (case zmax => k_is)
    (case zmin => k_is)
    (case zsum => k_is)
    (case zstr => k_is)
    (case zbool => k_is)
    (case zlist => k_is)
    (case zValueError => k_is)
    (case zzip => k_is)
    (case zall => k_is)
    (case ztuple => k_is)
    (case zsorted => k_is)
    (case aC => k_is)
    (case pgC => k_is)
    (case hdC => k_is)
    (case poC => k_is)
    (case saC => k_is)
    (case mkC => k_is)
    (case kcC => k_is)
    (case nTC => k_is)
    (case nUC => k_is)
    (case haC => k_is)
    (case hnO => k_is)
    (case htO => k_is)
    (case hmC => k_is)
    (case siC => k_is)
    (case tyC => k_is)
    (case aRatio_init => k_is)
    (case iRatio_init => k_is)
    (case lRatio_init => k_is)
    (case cRatio_init => k_is)
    (case kRatio_init => k_is)
    (case lD => k_is)
    (case aGcd => k_is)
    (case aLE => k_is)
    (case hdLE => k_is)
    (case teLE => k_is)
    (case aBN => k_is)
    (case xBN => k_is)
    (case saBN => k_is)
    (case keBN => k_is)
    (case beBN => k_is)
    (case teBN => k_is)
    (case seBN => k_is)
    (case geBN => k_is)
    (case ggBN => k_is)
    (case hdBN => k_is)
    (case hcBN => k_is)
    (case hoBN => k_is)
    (case veBN => k_is)
    (case fnBN => k_is)
    (case fvBN => k_is)
    (case aBadNumber_init => k_is)
    (case tBadNumber_init => k_is)
    (case lBadNumber_init => k_is)
    (case cBadNumber_init => k_is)
    (case kBadNumber_init => k_is)
    (case aZU => k_is)
    (case xZU => k_exc)
    (case keZU => k_is)
    (case beZU => k_is)
    (case teZU => k_is)
    (case seZU => k_is)
    (case geZU => k_is)
    (case ggZU => k_is)
    (case hdZU => k_is)
    (case hcZU => k_is)
    (case hoZU => k_is)
    (case veZU => k_is)
    (case aBS => k_is)
    (case xBS => k_exc)
    (case keBS => k_is)
    (case beBS => k_is)
    (case teBS => k_is)
    (case seBS => k_is)
    (case geBS => k_is)
    (case ggBS => k_is)
    (case hdBS => k_is)
    (case hcBS => k_is)
    (case hoBS => k_is)
    (case veBS => k_is)
    (case sBNLE => k_is)
    (case sBSLE => k_is)
    (case sBNBS => k_is)
    (case sBSBN => k_is)
    (case kmV => decide +kernel)
    (case ziAdd => k_is)
    (case zjAdd => k_is)
    (case ziSub => k_is)
    (case zjSub => k_is)
    (case ziMult => k_is)
    (case zjMult => k_is)
    (case hSF => k_is)
    (case scI => k_is)
    (case kmI => decide +kernel)
    (case aRatio_add => k_is)
    (case iRatio_add => k_is)
    (case lRatio_add => k_is)
    (case cRatio_add => k_is)
    (case kRatio_add => k_is)
    (case aRatio_radd => k_is)
    (case iRatio_radd => k_is)
    (case lRatio_radd => k_is)
    (case cRatio_radd => k_is)
    (case kRatio_radd => k_is)
    (case aMC => k_is)
    (case aMW => k_is)
    (case aGR => k_is)
    (case pgGR => k_is)
    (case hdGR => k_is)
    (case poGR => k_is)
    (case saGR => k_is)
    (case mkGR => k_is)
    (case kcGR => k_is)
    (case n1GR => k_is)
    (case n2GR => k_is)
    (case rdGR => k_is)
    (case gatGR => k_is)
    (case qF12 => k_is)
    (case qF40 => k_is)
    (case aGround_init => k_is)
    (case iGround_init => k_is)
    (case lGround_init => k_is)
    (case cGround_init => k_is)
    (case kGround_init => k_is)
    (case aGround_total => k_is)
    (case iGround_total => k_is)
    (case lGround_total => k_is)
    (case cGround_total => k_is)
    (case kGround_total => k_is)
    (case apool => k_is)
    (case lpool => k_is)
    (case cpool => k_is)
    (case kpool => k_is)
    (case amix => k_is)
    (case lmix => k_is)
    (case cmix => k_is)
    (case kmix => k_is)
    (case adraw => k_is)
    (case ldraw => k_is)
    (case cdraw => k_is)
    (case kdraw => k_is)
    (case awide => k_is)
    (case lwide => k_is)
    (case cwide => k_is)
    (case kwide => k_is)
    (case awhole => k_is)
    (case lwhole => k_is)
    (case cwhole => k_is)
    (case kwhole => k_is)
    (case agcd => k_is)
    (case lgcd => k_is)
    (case cgcd => k_is)
    (case kgcd => k_is)
    (case alow => k_is)
    (case llow => k_is)
    (case clow => k_is)
    (case klow => k_is)
    (case aplus => k_is)
    (case lplus => k_is)
    (case cplus => k_is)
    (case kplus => k_is)
    (case aratio => k_is)
    (case lratio => k_is)
    (case cratio => k_is)
    (case kratio => k_is)
    (case asame => k_is)
    (case lsame => k_is)
    (case csame => k_is)
    (case ksame => k_is)
    (case aclasses => k_is)
    (case lclasses => k_is)
    (case cclasses => k_is)
    (case kclasses => k_is)
    (case aground => k_is)
    (case lground => k_is)
    (case cground => k_is)
    (case kground => k_is)
    (case acut => k_is)
    (case lcut => k_is)
    (case ccut => k_is)
    (case kcut => k_is)
    (case aspread => k_is)
    (case lspread => k_is)
    (case cspread => k_is)
    (case kspread => k_is)
    (case aoutcome => k_is)
    (case loutcome => k_is)
    (case coutcome => k_is)
    (case koutcome => k_is)
    (case aput_in => k_is)
    (case lput_in => k_is)
    (case cput_in => k_is)
    (case kput_in => k_is)
    (case aorders => k_is)
    (case lorders => k_is)
    (case corders => k_is)
    (case korders => k_is)
    (case adealt => k_is)
    (case ldealt => k_is)
    (case cdealt => k_is)
    (case kdealt => k_is)
    (case afar => k_is)
    (case lfar => k_is)
    (case cfar => k_is)
    (case kfar => k_is)
    (case atotal => k_is)
    (case ltotal => k_is)
    (case ctotal => k_is)
    (case ktotal => k_is)
    (case abeside => k_is)
    (case lbeside => k_is)
    (case cbeside => k_is)
    (case kbeside => k_is)
    (case aspoiled => k_is)
    (case lspoiled => k_is)
    (case cspoiled => k_is)
    (case kspoiled => k_is)
    (case arefused => k_is)
    (case lrefused => k_is)
    (case crefused => k_is)
    (case krefused => k_is)
    (case ais_number => k_is)
    (case lis_number => k_is)
    (case cis_number => k_is)
    (case kis_number => k_is)
    (case aas_ratio => k_is)
    (case las_ratio => k_is)
    (case cas_ratio => k_is)
    (case kas_ratio => k_is)
    (case atop_of => k_is)
    (case ltop_of => k_is)
    (case ctop_of => k_is)
    (case ktop_of => k_is)
    (case aunder_of => k_is)
    (case lunder_of => k_is)
    (case cunder_of => k_is)
    (case kunder_of => k_is)
    (case aadded => k_is)
    (case ladded => k_is)
    (case cadded => k_is)
    (case kadded => k_is)
    (case acheck_ties => k_is)
    (case lcheck_ties => k_is)
    (case ccheck_ties => k_is)
    (case kcheck_ties => k_is)
    (case acheck_worth => k_is)
    (case lcheck_worth => k_is)
    (case ccheck_worth => k_is)
    (case kcheck_worth => k_is)
    (case acheck_classes => k_is)
    (case lcheck_classes => k_is)
    (case ccheck_classes => k_is)
    (case kcheck_classes => k_is)
    (case ais_row => k_is)
    (case lis_row => k_is)
    (case cis_row => k_is)
    (case kis_row => k_is)
    (case apairs_gain => k_is)
    (case lpairs_gain => k_is)
    (case cpairs_gain => k_is)
    (case kpairs_gain => k_is)
    (case aspread_gain => k_is)
    (case lspread_gain => k_is)
    (case cspread_gain => k_is)
    (case kspread_gain => k_is)
    (case nspread_gain => k_is)
    (case alaw => k_is)
    (case llaw => k_is)
    (case claw => k_is)
    (case klaw => k_is)
