import PyProof.Rows.All
import Wide.All
import OpenK.AllK
import Wide.FinOn
import KE.KStateDown
import HandS.Base
import HandS.Call
import HandS.List
import HandS.Comp
import HandS.Ends
import HandS.More
import HandS.Words
import HandS.Defaults
import HandS.Exc
import HandS.ClsMeth
import HandS.Star
import HandS.SlotsOwn
import HandS.HeadHook1
import HandS.HeadHook2
import HandS.EndBits
import HandS.WordsList
import HandS.WordsExc
import HandS.IsInst
import HandS.Wide
import HandS.Conv
import HandS.ExcOwn
import HandS.RaiseMore
import HandS.FStr
import HandS.SortInts
import HandS.TupLe
import HandS.Dict
import HandS.HotCalls
import KE.KSortedM
import HandS.ExcIs
import HandS.ExcField
import KE.KExcIs
import HandS.Set
import KE.KIndexOf
import KE.KOpsOwn
import HandS.ExcCtx
import KE.KExcSuper
import KE.KMinKey
import PyProof.WalkInts
import HandS.SortKw
import HandS.Iter
import HandS.Head0
import HandS.Head1
import HandS.Head2
import HandS.Codes
import PySem.Challenge.RW_ownlabels_k08_rings_of_numberings
set_option Elab.async false
set_option linter.all false
set_option maxRecDepth 100000
set_option maxHeartbeats 2000000
/-! Ua: facts of the written part as tests, a hook over them, calls by promise, own operators -/
namespace Ux
open PySem PySem.Spec PyProof.Rows L2

abbrev KF := PySem.W.Frag
abbrev Fc := KF → Bool

/-! ### records -/
def rcG (K : KF) (p : Addr) (T : String) : Addr := match PySem.W.recIn K p T with
  | some (.ref g :: _) => g
  | _ => 0
def rcB (K : KF) (p : Addr) (T : String) : Bool := match PySem.W.recIn K p T with
  | some (.ref _ :: _) => true
  | _ => false
theorem rcB_ok {K : KF} {p : Addr} {T : String} (h : rcB K p T = true) : ∃ rest, PySem.W.recIn K p T = some (.ref (rcG K p T) :: rest) := by
  unfold rcB at h
  unfold rcG
  split at h
  · rename_i g r e
    exact ⟨r, by rw [e]⟩
  · cases h
/-- where a def of the text stands: a module's name; a method; a class method; a property -/
inductive At where
  | glo (x : Str) | mem (x m : Str) | cmem (x m : Str) | prop (x m : Str) | emem (x m : Str)
def At.ad (K : KF) : At → Addr
  | .glo x => He.ga K x
  | .mem x m => He.ma K (He.ga K x) m
  | .cmem x m => rcG K (He.ma K (He.ga K x) m) "classmethod"
  | .prop x m => rcG K (He.ma K (He.ga K x) m) "property"
  | .emem x m => He.ma K (He.ga K x) m
/-- a def that closes over its class -/
def At.isE : At → Bool
  | .emem _ _ => true
  | _ => false
def At.strip : At → List (Str × Addr) → List (Str × Addr)
  | .emem _ _, _ => []
  | _, l => l
/-- its cell holds the class, its code tells the file -/
def cellB (K : KF) (C : Addr) (fd : FuncData) : Bool := (match fd.closure with
  | [(n, cc)] => decide (n = "__class__") && (match K.lookup cc with
      | some ⟨_, _, .cell (some (.ref D)), _⟩ => decide (D = C)
      | _ => false)
  | _ => false) && (match fd.code with
  | .ref c => (match K.lookup c with
      | some ⟨_, _, .fields vs, _⟩ => (match (vs[2]? : Option Value) with
          | some (Value.str f _) => f == ("/claim/cut.py" : Str)
          | _ => false)
      | _ => false)
  | _ => false)
def At.more (K : KF) (fd : FuncData) : At → Bool
  | .emem x _ => cellB K (He.ga K x) fd
  | _ => true
structure DefU where
  at_ : At
  name : Str
  qual : Str
  params : Arguments
  body : List Stmt
  scope : Scope
  dfl : List He.Dv := []
  kwd : List (Str × He.Dv) := []
def fnU (K : KF) (p : At) : He.FnW := match K.lookup (p.ad K) with
  | some ⟨_, _, .func fd, _⟩ => some (fd.name, fd.qualname, fd.params, fd.body, fd.scope, fd.globals, p.strip fd.closure, fd.builtins)
  | _ => none
def DefU.val (d : DefU) : He.FnW := some (d.name, d.qual, d.params, .stmts d.body, d.scope, mainGlobals, [], builtinsNs)
def DefU.dvs (K : KF) (d : DefU) : List V := d.dfl.map (He.Dv.v K)
def DefU.kws (K : KF) (d : DefU) : List (Str × V) := d.kwd.map fun q => (q.1, q.2.v K)
def DefU.ok (K : KF) (d : DefU) : Bool := PySem.W.keepIn K (.ref (d.at_.ad K)) && (match K.lookup (d.at_.ad K) with
  | some ⟨_, _, .func fd, _⟩ => PySem.W.codeIn K fd.code d.qual && (He.dflB K fd.defaults (d.dvs K) && (He.kwdB K fd.kwdefaults (d.kws K) && d.at_.more K fd))
  | _ => false)
theorem strip_no {p : At} {l : List (Str × Addr)} (h : p.isE = false) : p.strip l = l := by
  cases p <;> first | rfl | cases h
theorem DefU.funD {K : KF} {d : DefU} (hE : d.at_.isE = false) (e : fnU K d.at_ = d.val) (c : d.ok K = true) : ∃ fd, FunD K d.name d.qual d.params d.body d.scope (d.dvs K) (d.kws K) (d.at_.ad K) fd := by
  obtain ⟨kp, c2⟩ := He.ba c
  unfold fnU at e
  split at e
  · rename_i oc od fd osl lk
    rw [lk] at c2
    rw [strip_no hE] at e
    obtain ⟨n1, n2, n3, n4, n5, n6, n7, n8, n9, n10, n11, n12, n13, n14, n15⟩ := fd
    have e2 := Option.some.inj e
    simp only [Prod.mk.injEq] at e2
    obtain ⟨rfl, rfl, rfl, rfl, rfl, rfl, rfl, rfl⟩ := e2
    obtain ⟨k1, k2⟩ := He.ba c2
    obtain ⟨k3, k4⟩ := He.ba k2
    exact ⟨_, ⟨oc, od, n8, n9, n10, n11, n12, n13, n14, osl, rfl, lk, k1, He.dflB_ok k3, He.kwdB_ok (He.ba k4).1⟩, kp⟩
  · cases e

/-! ### the hook -/
abbrev AlU : Type := Bool × List He.FnW
def obsU (fa : List Fc) (fn : List DefU) (K : KF) : AlU := ((fa.all fun f => f K) && fn.all fun d => d.ok K, fn.map fun d => fnU K d.at_)
def valU (fn : List DefU) : AlU := (true, fn.map DefU.val)
def SaysU (fa : List Fc) (fn : List DefU) (K : KF) : Prop := obsU fa fn K = valU fn
/-- what the module's names reach in n steps, and the table of statics -/
def asU (g : Addr → Option Obj) : Nat → List Addr
  | 0 => [mainGlobals, cStatics]
  | n + 1 => He.growD g (asU g n)
def obsUG (n : Nat) (fa : List Fc) (fn : List DefU) (g : Addr → Option Obj) : AlU := obsU fa fn (He.frG g (asU g n))
def hookU (n : Nat) (fa : List Fc) (fn : List DefU) : PySem.W.Hook where
  α := AlU
  obs := fun s => obsUG n fa fn s.heap.get?
  val := fun _ => valU fn
  says := fun _ h => ∃ K : KF, K.In h ∧ SaysU fa fn K
  of := fun _ _ e => ⟨_, He.frG_in, e⟩
  keeps := fun _ _ _ ⟨K, hK, c⟩ k => ⟨K, PySem.W.Frag.In.keeps hK k, c⟩
theorem obsUG_eq {n : Nat} {fa : List Fc} {fn : List DefU} {g : Addr → Option Obj} {s : Shared} (h : ∀ a, g a = s.heap.get? a) : obsUG n fa fn g = (hookU n fa fn).obs s := by
  have e : g = s.heap.get? := funext h
  rw [e]
  rfl
/-- what a proof knows of the top -/
structure Tx (fa : List Fc) (fn : List DefU) (K : KF) (mg : Str → Option Value) : Prop where
  says : SaysU fa fn K
  yes : ∀ (x : Str) (v : Value), PySem.W.nsIn K mainGlobals x = some (some v) → mg x = some v
  no : ∀ x : Str, PySem.W.nsIn K mainGlobals x = some none → mg x = none
section
variable {fa : List Fc} {fn : List DefU} {K : KF} {mg : Str → Option Value}
theorem Tx.mk' {h : Heap} (X : K.In h) (G : h.Ns mainGlobals mg) (c : SaysU fa fn K) : Tx fa fn K mg := ⟨c, fun _ _ e => PySem.W.mg_of X G e, fun _ e => PySem.W.mg_none_of X G e⟩
theorem Tx.fact (T : Tx fa fn K mg) (i : Nat) {f : Fc} (h : fa[i]? = some f := by rfl) : f K = true := by
  have c1 := (He.ba (congrArg (fun z : AlU => z.1) T.says)).1
  exact List.all_eq_true.mp c1 f (List.mem_of_getElem? h)
theorem Tx.def_ (T : Tx fa fn K mg) (i : Nat) {d : DefU} (h : fn[i]? = some d := by rfl) (hE : d.at_.isE = false := by rfl) : ∃ fd, FunD K d.name d.qual d.params d.body d.scope (d.dvs K) (d.kws K) (d.at_.ad K) fd := by
  have c2 := (He.ba (congrArg (fun z : AlU => z.1) T.says)).2
  have e : fn.map (fun d => fnU K d.at_) = fn.map DefU.val := congrArg (fun z : AlU => z.2) T.says
  have e2 : (fn.map fun d => fnU K d.at_)[i]? = (fn.map DefU.val)[i]? := by rw [e]
  rw [List.getElem?_map, List.getElem?_map, h] at e2
  exact DefU.funD hE (Option.some.inj e2) (List.all_eq_true.mp c2 d (List.mem_of_getElem? h))
/-- a def that closes over its class -/
theorem Tx.defE (T : Tx fa fn K mg) (i : Nat) {d : DefU} {x m : Str} (h : fn[i]? = some d := by rfl) (hE : d.at_ = .emem x m := by rfl) (hD : d.dfl = [] := by rfl) :
    ∃ (oc : Value) (od : Option Addr) (kV doc pm : Value) (an : Option Addr) (cda cc : Addr) (ct : Value) (osl : Array (Option Value)),
      K.lookup (He.ma K (He.ga K x) m) = some ⟨oc, od, .func ({ name := d.name, qualname := d.qual, params := d.params, body := .stmts d.body, scope := d.scope, globals := mainGlobals, closure := [("__class__", cc)], defaults := .none, kwdefaults := kV, doc, pyModule := pm, annotations := an, code := .ref cda, closureTuple := ct, builtins := builtinsNs }), osl⟩ ∧ PySem.W.codeIn K (.ref cda) d.qual = true ∧
      (∃ (ccl : Value) (cdd : Option Addr) (vs : Array Value) (ccs : Array (Option Value)) (tf : Tok) (file : Str), K.lookup cda = some ⟨ccl, cdd, .fields vs, ccs⟩ ∧ vs[2]? = some (.str file tf) ∧ file = "/claim/cut.py") ∧
      (∃ (cl : Value) (cld : Option Addr) (csl : Array (Option Value)), K.lookup cc = some ⟨cl, cld, .cell (some (.ref (He.ga K x))), csl⟩) := by
  have c2 := (He.ba (congrArg (fun z : AlU => z.1) T.says)).2
  have e : fn.map (fun d => fnU K d.at_) = fn.map DefU.val := congrArg (fun z : AlU => z.2) T.says
  have e2 : (fn.map fun d => fnU K d.at_)[i]? = (fn.map DefU.val)[i]? := by rw [e]
  rw [List.getElem?_map, List.getElem?_map, h] at e2
  have e2 : fnU K d.at_ = d.val := Option.some.inj e2
  have c := List.all_eq_true.mp c2 d (List.mem_of_getElem? h)
  obtain ⟨kp, c2⟩ := He.ba c
  unfold fnU at e2
  rw [hE] at e2 c2
  split at e2
  · rename_i oc od fd osl lk
    rw [lk] at c2
    obtain ⟨n1, n2, n3, n4, n5, n6, n7, n8, n9, n10, n11, n12, n13, n14, n15⟩ := fd
    have e2 := Option.some.inj e2
    simp only [Prod.mk.injEq, At.strip] at e2
    obtain ⟨rfl, rfl, rfl, rfl, rfl, rfl, -, rfl⟩ := e2
    obtain ⟨k1, k2⟩ := He.ba c2
    obtain ⟨k3, k4⟩ := He.ba k2
    obtain ⟨k5, k6⟩ := He.ba k4
    have k3 : n8 = .none := by
      rcases He.dflB_ok k3 with ⟨_, e⟩ | ⟨e, _⟩
      · exact e
      · exact absurd (by show d.dfl.map _ = []; rw [hD]; rfl) e
    subst k3
    have k7 : cellB K (He.ga K x) _ = true := k6
    unfold cellB at k7
    obtain ⟨k8, k9⟩ := He.ba k7
    dsimp only at k8 k9
    split at k8
    · rename_i n cc
      obtain ⟨k10, k11⟩ := He.ba k8
      have k10 := of_decide_eq_true k10
      subst k10
      split at k11
      · rename_i cl cld D csl hcc
        have k11 := of_decide_eq_true k11
        subst k11
        split at k9
        · rename_i cda hcda
          split at k9
          · rename_i ccl cdd vs ccs hvs
            split at k9
            · rename_i f tf hf
              exact ⟨oc, od, _, _, _, _, _, cc, _, osl, lk, k1, ⟨ccl, cdd, vs, ccs, tf, f, hvs, hf, beq_iff_eq.mp k9⟩, cl, cld, csl, hcc⟩
            · cases k9
          · cases k9
        · cases k9
      · cases k11
    · cases k8
  · cases e2
end

/-! ### kinds of facts -/
def fFree (x : Str) : Fc := fun K => He.eqO (PySem.W.nsIn K mainGlobals x) (some none)
def fGlo (x : Str) : Fc := fun K => He.eqO (PySem.W.nsIn K mainGlobals x) (some (some (.ref (He.ga K x)))) && PySem.W.keepIn K (.ref (He.ga K x))
def fVal (x : Str) (v : V) : Fc := fun K => match PySem.W.nsIn K mainGlobals x with
  | some (some u) => He.relB v u
  | _ => false
def fCls (x : Str) : Fc := fun K => (He.Fa.cls x).ok K
def fNoat (x f : Str) : Fc := fun K => (He.Fa.noat x f).ok K
def fMeth (x m : Str) : Fc := fun K => (He.Fa.meth x m).ok K
def fMk (x : Str) : Fc := fun K => (He.Fa.mkr x).ok K
def fExc (x : Str) : Fc := fun K => (He.Fa.exc x).ok K
def fExm (x y : Str) (b : Bool) : Fc := fun K => (He.Fa.exm x y b).ok K
def fRead (x : Str) : Fc := fun K => PySem.W.readsIn K (He.ga K x) (.type "type") && He.eqO (PySem.W.specialIn K (.ref (He.ga K x)) "__getattribute__") (some (some (.builtin "type.__getattribute__")))
def fCval (x f : Str) (v : V) : Fc := fun K => match PySem.W.findCls K (.ref (He.ga K x)) (.type "type") f with
  | some (.val u) => He.relB v u
  | _ => false
def fCmet (x m : Str) : Fc := fun K => (match PySem.W.findCls K (.ref (He.ga K x)) (.type "type") m with
  | some (.get (.builtin i) (.ref q) .none (.ref D)) => decide (i = "classmethod.__get__") && (decide (q = He.ma K (He.ga K x) m) && decide (D = He.ga K x))
  | _ => false) && (rcB K (He.ma K (He.ga K x) m) "classmethod" && PySem.W.fnIn K (rcG K (He.ma K (He.ga K x) m) "classmethod"))
/-- a special method of the class of that name, a def of the text; the class stands first in its own order -/
def fOp (x m : Str) : Fc := fun K => He.eqO (PySem.W.findIn K (.ref (He.ga K x)) m) (some (some (.ref (He.ma K (He.ga K x) m)))) && (PySem.W.isFn K (.ref (He.ma K (He.ga K x) m)) && (PySem.W.fnIn K (He.ma K (He.ga K x) m) && PySem.W.selfFirst K (He.ga K x)))
def fProp (x m : Str) : Fc := fun K => He.eqO (PySem.W.findIn K (.ref (He.ga K x)) m) (some (some (.ref (He.ma K (He.ga K x) m)))) && (He.eqO (PySem.W.specialIn K (.ref (He.ma K (He.ga K x) m)) "__get__") (some (some (.builtin "property.__get__"))) &&
  (decide (PySem.W.takesIn K (.ref (He.ma K (He.ga K x) m)) = some true) && rcB K (He.ma K (He.ga K x) m) "property"))
/-- what isinstance asks of a class -/
def fIsi (x : Str) : Fc := fun K => PySem.W.isClsIn K (He.ga K x) && (He.eqO (PySem.W.findIn K (.ref (He.ga K x)) "__class__") (some (some (.builtin "object.__class__"))) && (He.eqO (PySem.W.specialIn K (.builtin "object.__class__") "__get__") (some (some (.builtin "getset_descriptor.__get__"))) &&
  (decide (PySem.W.takesIn K (.builtin "object.__class__") = some true) && decide (PySem.W.mroIn K (He.ga K x) (.type "object") = some true))))
def fKit (x y : Str) (b : Bool) : Fc := fun K => decide (PySem.W.kitOne K (.ref (He.ga K x)) (.ref (He.ga K y)) = some b)
def fTup (x : Str) (vs : List He.Dv) : Fc := fun K => He.tupB K x vs
def fLst (x : Str) (vs : List He.Dv) : Fc := fun K => He.lstB K x vs
section
variable {fa : List Fc} {fn : List DefU} {K : KF} {mg : Str → Option Value}
theorem Tx.free (T : Tx fa fn K mg) {x : Str} (c : fFree x K = true) : mg x = none := T.no x (He.eqO_ok c)
theorem Tx.glo (T : Tx fa fn K mg) {x : Str} (c : fGlo x K = true) : mg x = some (.ref (He.ga K x)) := T.yes x _ (He.eqO_ok (He.ba c).1)
theorem kp_ok {x : Str} (c : fGlo x K = true) : PySem.W.keepIn K (.ref (He.ga K x)) = true := (He.ba c).2
theorem Tx.val (T : Tx fa fn K mg) {x : Str} {v : V} (c : fVal x v K = true) : ∃ u, mg x = some u ∧ RelV v u := by
  unfold fVal at c
  split at c
  · rename_i u e
    exact ⟨u, T.yes x u e, He.relB_ok c⟩
  · cases c
theorem read_ok {x : Str} (c : fRead x K = true) : ClX.CRead K (He.ga K x) (.type "type") := ⟨(He.ba c).1, He.eqO_ok (He.ba c).2⟩
theorem cval_ok {x f : Str} {v : V} (c : fCval x f v K = true) : ∃ u, ClX.CVal K (He.ga K x) (.type "type") f v u := by
  unfold fCval at c
  split at c
  · rename_i u e
    exact ⟨u, e, He.relB_ok c⟩
  · cases c
theorem cmet_ok {x m : Str} (c : fCmet x m K = true) : ClX.CMet K (He.ga K x) (.type "type") m (He.ma K (He.ga K x) m) (rcG K (He.ma K (He.ga K x) m) "classmethod") := by
  obtain ⟨c1, c⟩ := He.ba c
  obtain ⟨c2, c3⟩ := He.ba c
  refine ⟨?_, rcB_ok c2, c3⟩
  split at c1
  · rename_i i q D e
    obtain ⟨h1, h⟩ := He.ba c1
    obtain ⟨h2, h3⟩ := He.ba h
    rw [e, of_decide_eq_true h1, of_decide_eq_true h2, of_decide_eq_true h3]
  · cases c1
structure OpT (K : KF) (C g : Addr) (m : Str) : Prop where
  at_ : PySem.W.findIn K (.ref C) m = some (some (.ref g))
  fn : PySem.W.isFn K (.ref g) = true
  fi : PySem.W.fnIn K g = true
  sf : PySem.W.selfFirst K C = true
theorem op_ok {x m : Str} (c : fOp x m K = true) : OpT K (He.ga K x) (He.ma K (He.ga K x) m) m := by
  obtain ⟨c1, c⟩ := He.ba c
  obtain ⟨c2, c⟩ := He.ba c
  obtain ⟨c3, c4⟩ := He.ba c
  exact ⟨He.eqO_ok c1, c2, c3, c4⟩
theorem OpT.callO {C g : Addr} (h : OpT K C g "__call__") : StX.CallO K C g := ⟨h.at_, h.fn, h.fi⟩
theorem isi_ok {x : Str} (c : fIsi x K = true) : PySem.W.isClsIn K (He.ga K x) = true ∧ SlX.SIsi K (He.ga K x) := by
  obtain ⟨c1, c⟩ := He.ba c
  obtain ⟨c2, c⟩ := He.ba c
  obtain ⟨c3, c⟩ := He.ba c
  obtain ⟨c4, c5⟩ := He.ba c
  exact ⟨c1, He.eqO_ok c2, He.eqO_ok c3, of_decide_eq_true c4, of_decide_eq_true c5⟩
theorem kit_ok {x y : Str} {b : Bool} (c : fKit x y b K = true) : PySem.W.kitOne K (.ref (He.ga K x)) (.ref (He.ga K y)) = some b := of_decide_eq_true c
end

/-! ### a def's promise by its values -/
section
variable {P : Program} {w : World} {K : KF} {mg : Str → Option Value} {base : Heap} {x qual : Str} {params : Arguments} {body : List Stmt} {scope : Scope} {kws : List (Str × V)} {f : Addr} {fd : FuncData}
theorem fnr_of {CX : CXT} {N ps : List Str} {k : Nat} {sp : Sp} (F : FunD K x qual params body scope [] kws f fd) (S : FnScope N ps scope)
    (hb : ∀ (kV doc pm : Value) (an : Option Addr) (cdv ct : Value) (us : List Value), us.length = ps.length → bindArgs (PySem.W.fnOf x qual params body scope .none kV doc pm an cdv ct) ⟨us, []⟩ = pure (ps.zip us))
    (len : ∀ vs H Q E, sp vs H Q E → vs.length = ps.length)
    (hbody : ∀ (cdv : Value) (A : Around) (outer : List Env) (s : Shared) (H : Hp) (vs : List V) (Q : VK) (E : XK), Room k (A.deeper (envOfC qual scope s.heap.objs.size f cdv)) → sp vs H Q E →
      ∃ t, PSs (cxOf CX P w K mg base N qual scope f cdv A outer s H E) body t ∧ t { nx := fun _ H' => Q .non H', rt := Q } (start N vs) H) : FnR P w K mg base CX (k + 1) f sp := by
  have G : FnOk P w K mg base CX (k + 1) f fd ps sp := F.ok S len hbody
  refine (G.raw (F.bindsN hb) .nil).imp fun vs H Q E h => ?_
  rw [List.append_nil]
  exact h
/-- .. of a def that lets no exception out -/
theorem fnr0_of {CX : CXT} {N ps : List Str} {k : Nat} {sp : Sp} (F : FunD K x qual params body scope [] kws f fd) (S : FnScope N ps scope)
    (hb : ∀ (kV doc pm : Value) (an : Option Addr) (cdv ct : Value) (us : List Value), us.length = ps.length → bindArgs (PySem.W.fnOf x qual params body scope .none kV doc pm an cdv ct) ⟨us, []⟩ = pure (ps.zip us))
    (len : ∀ vs H Q E, sp vs H Q E → vs.length = ps.length)
    (hbody : ∀ (cdv : Value) (A : Around) (outer : List Env) (s : Shared) (H : Hp) (vs : List V) (Q : VK) (E : XK), Room k (A.deeper (envOfC qual scope s.heap.objs.size f cdv)) → sp vs H Q E →
      ∃ t, PSs (cxOf CX P w K mg base N qual scope f cdv A outer s H E).nox body t ∧ t { nx := fun _ H' => Q .non H', rt := Q } (start N vs) H) : FnR P w K mg base CX (k + 1) f sp :=
  fnr_of F S hb len fun cdv A outer s H vs Q E hr h => let ⟨t, ht, hq⟩ := hbody cdv A outer s H vs Q E hr h; ⟨t, ht.nox, hq⟩
theorem fn_false {CX : CXT} {k : Nat} : FnR P w K mg base CX k f (fun _ _ _ _ => False) := fun _ _ _ _ _ _ _ _ _ _ _ h => h.elim
end

/-! ### plain calls by such a promise -/
section
variable {X : Cx} {CX : CXT} {k : Nat} {f C p g : Addr} {sp : Sp} {E : XK} {x m : Str} {e o : Expr} {es : List Expr} {te ta tf : TE} {t : TA} {q pos apos : Pos} {mc : Value} {pl : Sem Bool}
def tCallR (sp : Sp) (E : XK) (t : TA) : TE := fun σ H Q => t σ H fun vs H1 => sp vs H1 Q E
theorem pe_callR (F : FnR X.prog X.w X.K X.mg X.base CX k f sp) (hr : Room k X.A) (hg : Gl X x) (hm : X.mg x = some (.ref f)) (hk : PySem.W.keepIn X.K (.ref f) = true) (hx : Passes CX X E) (ha : PA X (e :: es) t)
    (hdb : (x == ("__debug__" : Str)) = false := by decide) (he : starEach (e :: es) X.env = (false, eval e X.env) :: starEach es X.env := by rfl) (hpl : (backTo pos (starEach es X.env)).any (·.1) = false := by rfl) :
    PE X (.Call (.Name x q) (e :: es) [] pos) (tCallR sp E t) :=
  ⟨fun pins s σ H Q I h => wpAny_Call_Name_kw (ld_glob I hg hm (PySem.W.callWith_K (h₀ := X.base) I.ok.mod.kin hk (thn (ha.run pos pins s σ H _ I h) fun us s1 ⟨vs, H1, I1, r, z⟩ =>
    ⟨I1.kIn, wpAny_call (run_fnR F hr hx I1 r z)⟩) he hpl) hdb)⟩
theorem pe_callR0 (F : FnR X.prog X.w X.K X.mg X.base CX k f sp) (hr : Room k X.A) (hg : Gl X x) (hm : X.mg x = some (.ref f)) (hk : PySem.W.keepIn X.K (.ref f) = true) (hx : Passes CX X E)
    (hdb : (x == ("__debug__" : Str)) = false := by decide) : PE X (.Call (.Name x q) [] [] pos) (tCallR sp E tNil) :=
  ⟨fun pins s σ H Q I h => wpAny_Call_Name_kw (ld_glob I hg hm (PySem.W.callWith_K0 I.kIn hk (wpAny_call (run_fnR F hr hx I .nil h))) hdb)⟩
end

/-! ### own operators -/
/-- both operands instances of the class at C with an own dict -/
def rOp2 (C : Addr) (sp : Sp) (E : XK) : R2 := fun x y H Q => ∃ a dx fs b dy gs, x = .ref a ∧ y = .ref b ∧ H a = some (.ins C dx fs) ∧ H b = some (.ins C dy gs) ∧ sp [x, y] H Q E
section
variable {X : Cx} {CX : CXT} {k : Nat} {C g : Addr} {sp : Sp} {E : XK} {pins : List (Addr × Obj)} {σ : L2.St} {H : Hp} {s : Shared}
theorem ins_at {a dx : Addr} {fs : List (Str × V)} (I : Inv X pins σ H s) (h : H a = some (.ins C dx fs)) : ∃ ox od, PySem.W.InstAt s.heap a ox C od ∧ ox.data = .plain := StX.insC_at I (.inr ⟨dx, fs, h⟩)
theorem call_ref2 {Q : VK} {u : Value} {a : Addr} {v : V} (F : FnR X.prog X.w X.K X.mg X.base CX k g sp) (hr : Room k X.A) (hx : Passes CX X E) (I : Inv X pins σ H s) (rv : RelV v u) (h : sp [.ref a, v] H Q E) :
    wpAny (model X.prog X.w) X.A (call (.ref g) [.ref a, u]) (PySem.W.CmpBack (EP X pins σ Q)) X.xe s :=
  wpAny_mono (wpAny_call (run_fnR (us := [.ref a, u]) (vs := [.ref a, v]) F hr hx I (.cons rfl (.cons rv .nil)) h)) (fun _ _ ⟨z, H', I', rz, qz⟩ => SlX.cmpback rz ⟨z, H', I', rz, qz⟩) fun _ _ z => z
/-- a binary operator between two of them -/
theorem op_bin {op : Operator} (o : OpT X.K C g (PySem.dunder op.info.2)) (F : FnR X.prog X.w X.K X.mg X.base CX k g sp) (hr : Room k X.A) (hx : Passes CX X E) : OpR X (binaryOp op) (rOp2 C sp E) := by
  intro pins s σ H x y v u Q I rx ry ⟨a, dx, fs, b, dy, gs, ex, ey, ha, hb, q⟩
  subst ex
  subst ey
  cases rx
  cases ry
  obtain ⟨ox, od, J, _⟩ := ins_at I ha
  obtain ⟨oy, oe, J2, _⟩ := ins_at I hb
  obtain ⟨m, hF⟩ := I.fr
  exact PySem.W.binop_K hF I.ok.mod.kin J J2.type o.sf o.at_ o.fn (call_ref2 (v := .ref b) F hr hx I rfl q)
/-- a comparison between two of them -/
theorem op_cmp {op : CmpOp} (hop : ∀ a b, compareOp op a b = richCompare op a b) (o : OpT X.K C g (cmpInfo op).2.1) (F : FnR X.prog X.w X.K X.mg X.base CX k g sp) (hr : Room k X.A) (hx : Passes CX X E) : OpR X (compareOp op) (rOp2 C sp E) := by
  intro pins s σ H x y v u Q I rx ry ⟨a, dx, fs, b, dy, gs, ex, ey, ha, hb, q⟩
  subst ex
  subst ey
  cases rx
  cases ry
  obtain ⟨ox, od, J, _⟩ := ins_at I ha
  obtain ⟨oy, oe, J2, _⟩ := ins_at I hb
  obtain ⟨m, hF⟩ := I.fr
  rw [hop]
  exact PySem.W.cmp_K (op := op) (tb := .ref C) hr.units0 hF I.ok.mod.kin J J2.type (by unfold PySem.W.notFirst; rw [beq_self_eq_true, Bool.true_or]) o.at_ o.fn (call_ref2 (v := .ref b) F hr hx I rfl q)
theorem op_eqO (o : OpT X.K C g "__eq__") (F : FnR X.prog X.w X.K X.mg X.base CX k g sp) (hr : Room k X.A) (hx : Passes CX X E) : OpR X (compareOp .Eq) (rOp2 C sp E) := op_cmp (fun _ _ => rfl) o F hr hx
theorem op_ltO (o : OpT X.K C g "__lt__") (F : FnR X.prog X.w X.K X.mg X.base CX k g sp) (hr : Room k X.A) (hx : Passes CX X E) : OpR X (compareOp .Lt) (rOp2 C sp E) := op_cmp (fun _ _ => rfl) o F hr hx
/-- ~x -/
theorem un_invO (o : OpT X.K C g "__invert__") (F : FnR X.prog X.w X.K X.mg X.base CX k g sp) (hr : Room k X.A) (hx : Passes CX X E) : UnR X (unaryOp .Invert) (fun x H Q => ∃ a dx fs, x = .ref a ∧ H a = some (.ins C dx fs) ∧ sp [x] H Q E) := by
  intro pins s σ H x v Q I rx ⟨a, dx, fs, ex, ha, q⟩
  subst ex
  cases rx
  obtain ⟨ox, od, J, _⟩ := ins_at I ha
  obtain ⟨m, hF⟩ := I.fr
  exact PySem.W.ksp_inv hF I.ok.mod.kin J o.at_ o.fn (wpAny_call (run_fnR (us := [.ref a]) (vs := [.ref a]) F hr hx I (.cons rfl .nil) q))
/-- len(x), x an instance whose class has an own __len__ -/
theorem call_lenO (o : OpT X.K C g "__len__") (F : FnR X.prog X.w X.K X.mg X.base CX k g sp) (hr : Room (k + 1) X.A) (hx : Passes CX X E) :
    CallR X (.builtin "len") (fun xs H Q => ∃ a dx fs, xs = [.ref a] ∧ H a = some (.ins C dx fs) ∧ sp [.ref a] H (fun v H' => ∃ n : Int, v = .int n ∧ 0 ≤ n ∧ n < 2 ^ 63 ∧ Q v H') E) := by
  intro pins s σ H xs us Q I r ⟨a, dx, fs, ex, ha, q⟩
  subst ex
  obtain ⟨u, rfl, ru⟩ := r.one
  cases ru
  obtain ⟨ox, od, J, _⟩ := ins_at I ha
  obtain ⟨m, hF⟩ := I.fr
  refine PySem.W.len_K hF I.ok.mod.kin J o.at_ o.fn (wpAny_mono (wpAny_call (SlX.run_at (us := [.ref a]) (ws := [.ref a]) F hr.in1 I.env0.in1 hx I (.cons rfl .nil) q)) (fun v s' z => ?_) fun _ _ z => z)
  obtain ⟨z, H', I', rz, n, en, h0, h1, qz⟩ := z
  subst en
  obtain ⟨t, rfl⟩ := rz
  exact ⟨⟨h0, h1⟩, .int n, H', I'.tok _, ⟨_, rfl⟩, qz⟩
end
end Ux
set_option Elab.async false
set_option linter.all false
set_option maxRecDepth 100000
set_option maxHeartbeats 2000000
/-! Ub: the end of a law over the facts; the tape; what is alike -/
namespace Ux
open PySem PySem.Spec PyProof.Rows L2

theorem walk_ofU {l : PySem.W.OpenLaw} {n k m : Nat} {q : Program} {loose : List Str} {XP : (Str → Option Value) → Heap → Prop} {d : DefRec} {CX : World → CXT} {fa : List Fc} {fn : List DefU} {sp : KF → Sp} {x : Str}
    (hn : l.most = some n) (hn2 : n ≤ sizeLine) (hdf : d.params.defaults = []) (hr : Room k callerA)
    (F : ∀ (w : World) (K : KF) (mg : Str → Option Value) (f : Addr), Tx fa fn K mg → mg d.name = some (.ref f) →
      ∃ fd : FuncData, (∀ (s : Shared) (u : Value), BindsTo s fd ⟨[u], []⟩ [(x, u)]) ∧ ∀ base : Heap, FnOk l.prog w K mg base (CX w) k f fd [x] (sp K))
    (hsp : ∀ (K : KF) (H : Hp) (a : Addr) (ns : List Int), ns.length ≤ n → SqL K H a (ns.map V.int) → sp K [.ref a] H (fun v _ => v = .bl true) fun _ _ _ => False)
    (hCX : ∀ (w : World) (H : Hp) (s : Shared) (e : Value) (s' : Shared), CX w [] H s (fun _ _ _ => False) e s' → False) :
    PySem.W.WalkO q loose XP (hookU m fa fn).says l.row.toRowW d [] (fun f vs => PySem.call f vs) := by
  refine Att.attach_call hn hdf fun w s₀ s₁ mg mb f o pm cd doc a vs ns G Y _ _ _ hmg hobj hints hlen hg => ?_
  obtain ⟨K, KX, c⟩ := Y
  obtain ⟨fd, hb, hF⟩ := F w K mg f (Tx.mk' KX G.T.g c) hmg
  exact law_call KX G.T.g G.T.b G.T.builtins G.T.nolimit hg hobj hints (Nat.le_trans hlen hn2) hr (fun base _ _ => hF base) hb (fun H _ hS => hsp K H a ns hlen hS) fun H e s' => hCX w H s₁ e s'

/-! ### rules that name the written part (for the blocks of comprehensions) -/
section
variable {X : Cx} {CX : CXT} {k : Nat} {C g : Addr} {sp : Sp} {E : XK} {e o fe : Expr} {es : List Expr} {te ta tf : TE} {t : TA} {f : Str} {pos : Pos}
theorem ix_tupK (K : KF) (hK : X.K = K := by rfl) : IxR X (rIxT K) := hK ▸ ix_tup
theorem ix_listK (K : KF) (hK : X.K = K := by rfl) : IxR X (rIxL K) := hK ▸ ix_list
theorem ix_seqK (K : KF) (hK : X.K = K := by rfl) : IxR X (rIx K) := hK ▸ ix_seq
theorem pe_fldK (K : KF) (he : PE X e ta) (hb : attributeBase e f X.env (eval e X.env) = eval e X.env) (hK : X.K = K := by rfl) : PE X (.Attribute e f pos) (tFld K ta f) := hK ▸ pe_fld he hb
theorem pe_cvalK (K : KF) (he : PE X e ta) (hb : attributeBase e f X.env (eval e X.env) = eval e X.env := by rfl) (hK : X.K = K := by rfl) : PE X (.Attribute e f pos) (ClX.tCVal K ta f) := hK ▸ ClX.pe_cval he hb
theorem call_len_seqK (K : KF) (hK : X.K = K := by rfl) : CallR X (.builtin "len") (fun xs H Q => ∃ p ys, xs = [.ref p] ∧ (SqL K H p ys ∨ SqT K H p ys) ∧ Q (.int ys.length) H) := hK ▸ call_len_seq
theorem call_isiK1 (K : KF) (hK : X.K = K := by rfl) : CallR X (.builtin "isinstance") (rIsi K) := hK ▸ call_isi
theorem op_in_seqK (K : KF) (hK : X.K = K := by rfl) : OpR X (compareOp .In) (rIn K false) := hK ▸ op_in_seq
theorem op_notIn_seqK (K : KF) (hK : X.K = K := by rfl) : OpR X (compareOp .NotIn) (rIn K true) := hK ▸ op_notIn_seq
/-- f(e, ..), f an expression that gives an instance of C -/
def tCallP (C : Addr) (sp : Sp) (E : XK) (tf : TE) (t : TA) : TE := fun σ H Q => tf σ H fun y H1 => ∃ a, y = V.ref a ∧ t σ H1 fun vs H2 => (∃ dx fs, H2 a = some (.ins C dx fs)) ∧ sp (V.ref a :: vs) H2 Q E
theorem pe_callP (hf : PE X fe tf) (c : StX.CallO X.K C g) (F : FnR X.prog X.w X.K X.mg X.base CX k g sp) (hr : Room k X.A) (hx : Passes CX X E) (ha : PA X (e :: es) t)
    (ht : eval (.Call fe (e :: es) [] pos) X.env = (do callWith pos (← eval fe X.env) [] (backTo pos (starEach (e :: es) X.env)) (backToKw pos (keywordEach [] X.env))) := by rfl)
    (he : starEach (e :: es) X.env = (false, eval e X.env) :: starEach es X.env := by rfl) (hpl : (backTo pos (starEach es X.env)).any (·.1) = false := by rfl) : PE X (.Call fe (e :: es) [] pos) (tCallP C sp E tf t) := by
  refine ⟨fun pins s σ H Q I h => Call_ (thn (hf.run pins s σ H _ I h) fun u s1 ⟨y, H1, I1, ry, a, ey, q⟩ => ?_) ht⟩
  subst ey
  cases ry
  refine StX.callO_with (thn (ha.run pos pins s1 σ H1 _ I1 q) fun us s2 ⟨vs, H2, I2, r, hi, q2⟩ => ?_) he hpl
  obtain ⟨ox, od, J, hd⟩ := StX.insC_at I2 (.inr hi)
  exact ⟨⟨C, ox, od, J, hd⟩, StX.run_callO c F hr hx I2 (.inr hi) r q2⟩
end
/-! ### tests whose answer is known -/
theorem ifT {c : Bool} {A B : Prop} (h : c = true) (a : A) : if c = true then A else B := by
  rw [if_pos h]
  exact a
theorem ifF {c : Bool} {A B : Prop} (h : c = false) (b : B) : if c = true then A else B := by
  rw [if_neg (by rw [h]; exact Bool.false_ne_true)]
  exact b
theorem ifD {p : Prop} [Decidable p] {A B : Prop} (h : p) (a : A) : if decide p = true then A else B := ifT (decide_eq_true h) a
theorem ifN {p : Prop} [Decidable p] {A B : Prop} (h : ¬ p) (b : B) : if decide p = true then A else B := ifF (decide_eq_false h) b
theorem ifC {p : Prop} [Decidable p] {A B : Prop} (h1 : p → A) (h2 : ¬ p → B) : if decide p = true then A else B := by
  by_cases h : p
  · exact ifD h (h1 h)
  · exact ifN h (h2 h)
/-! ### heaps: all but t is kept -/
def Keep (t : Addr) (H H' : Hp) : Prop := ∀ b o, b ≠ t → H b = some o → H' b = some o
theorem Keep.refl {t : Addr} {H : Hp} : Keep t H H := fun _ _ _ h => h
theorem Keep.trans {t : Addr} {H H1 H2 : Hp} (a : Keep t H H1) (b : Keep t H1 H2) : Keep t H H2 := fun c o n h => b c o n (a c o n h)
theorem Keep.of {t : Addr} {H H' : Hp} (h : Same H H') : Keep t H H' := fun b o _ e => h b o e
theorem Keep.new {t p : Addr} {H : Hp} {o : HO} (h : H p = none) : Keep t H (upd H p o) := fun b u _ e => by rw [upd_ne (ne_of_none e h)]; exact e
theorem Same.new {p : Addr} {H : Hp} {o : HO} (h : H p = none) : Same H (upd H p o) := fun b u e => by rw [upd_ne (ne_of_none e h)]; exact e
theorem Keep.set {t : Addr} {H : Hp} {o : HO} : Keep t H (upd H t o) := fun b u n e => by rw [upd_ne n]; exact e
theorem Keep.none {t p : Addr} {H H' : Hp} (k : Keep t H H') (n : p ≠ t) (h : H' p = none) : H p = none := by
  cases e : H p with
  | none => rfl
  | some o => rw [k p o n e] at h; cases h
theorem Keep.seq {K : KF} {t a : Addr} {H H' : Hp} {xs : List V} (k : Keep t H H') (n : a ≠ t) (h : SqL K H a xs) : SqL K H' a xs := by
  rcases h with (h | ⟨o, h⟩) | h
  · exact .inl (.inl (k a _ n h))
  · exact .inl (.inr ⟨o, k a _ n h⟩)
  · exact .inr h
theorem Keep.tup {K : KF} {t a : Addr} {H H' : Hp} {xs : List V} (k : Keep t H H') (n : a ≠ t) (h : SqT K H a xs) : SqT K H' a xs := by
  rcases h with (h | ⟨o, h⟩) | h
  · exact .inl (.inl (k a _ n h))
  · exact .inl (.inr ⟨o, k a _ n h⟩)
  · exact .inr h
theorem Same.tup {K : KF} {a : Addr} {H H' : Hp} {xs : List V} (k : Same H H') (h : SqT K H a xs) : SqT K H' a xs := by
  rcases h with (h | ⟨o, h⟩) | h
  · exact .inl (.inl (k a _ h))
  · exact .inl (.inr ⟨o, k a _ h⟩)
  · exact .inr h
theorem SqT.of' {K : KF} {H : Hp} {a : Addr} {xs : List V} (h : H a = some (.tup xs)) : SqT K H a xs := .inl (.inl h)
theorem SqL.of' {K : KF} {H : Hp} {a : Addr} {xs : List V} (h : H a = some (.lst xs)) : SqL K H a xs := .inl (.inl h)

/-! ### the tape -/
def TapeL (H : Hp) (t L : Addr) (n : Nat) : Prop := ∃ (ns : List Int) (i cur cnt : Int), H t = some (.lst [.ref L, .int i, .int cur, .int cnt]) ∧ H L = some (.lst (ns.map V.int)) ∧ L ≠ t ∧ ns.length ≤ 63 ∧ 0 ≤ i ∧ 0 ≤ cur ∧ 0 ≤ cnt ∧ cnt ≤ n
theorem TapeL.some {H : Hp} {t L : Addr} {n : Nat} (h : TapeL H t L n) : ∃ o, H t = some o := let ⟨_, _, _, _, e, _⟩ := h; ⟨_, e⟩
theorem TapeL.ne {H : Hp} {t L p : Addr} {n : Nat} (h : TapeL H t L n) (hp : H p = none) : p ≠ t := by
  obtain ⟨o, e⟩ := h.some
  exact (ne_of_none e hp).symm
theorem TapeL.neL {H : Hp} {t L p : Addr} {n : Nat} (h : TapeL H t L n) (hp : H p = none) : p ≠ L := by
  obtain ⟨_, _, _, _, _, e, _⟩ := h
  exact (ne_of_none e hp).symm
theorem TapeL.same {H H' : Hp} {t L : Addr} {n : Nat} (h : TapeL H t L n) (k : Same H H') : TapeL H' t L n := by
  obtain ⟨ns, i, cur, cnt, h1, h2, r⟩ := h
  exact ⟨ns, i, cur, cnt, k _ _ h1, k _ _ h2, r⟩
theorem TapeL.new {H : Hp} {t L p : Addr} {n : Nat} {o : HO} (h : TapeL H t L n) (hp : H p = none) : TapeL (upd H p o) t L n := h.same (Same.new hp)
theorem TapeL.mono {H : Hp} {t L : Addr} {n m : Nat} (h : TapeL H t L n) (hm : n ≤ m) : TapeL H t L m := by
  obtain ⟨ns, i, cur, cnt, h1, h2, h3, h4, h5, h6, h7, h8⟩ := h
  exact ⟨ns, i, cur, cnt, h1, h2, h3, h4, h5, h6, h7, by omega⟩
/-- .. when a list beside it is written -/
theorem TapeL.upd {H : Hp} {t L p : Addr} {o : HO} {n : Nat} (h : TapeL H t L n) (hp : p ≠ t) (hL : p ≠ L) : TapeL (L2.upd H p o) t L n := by
  obtain ⟨ns, i, cur, cnt, h1, h2, h3⟩ := h
  refine ⟨ns, i, cur, cnt, ?_, ?_, h3⟩
  · rw [upd_ne hp.symm]
    exact h1
  · rw [upd_ne hL.symm]
    exact h2
/-- begin(script): a new tape -/
def spBegin (K : KF) : Sp := fun vs H Q _ => ∃ (a : Addr) (ns : List Int), vs = [.ref a] ∧ SqL K H a (ns.map V.int) ∧ ns.length ≤ 63 ∧ ∀ t L H', Same H H' → H t = none → TapeL H' t L 0 → Q (.ref t) H'
/-- draw(tape, many): a number below many; all but the tape stands -/
def spDraw : Sp := fun vs H Q _ => ∃ (t L : Addr) (many : Int) (n : Nat), vs = [.ref t, .int many] ∧ TapeL H t L n ∧ n < 2 ^ 60 ∧ 0 < many ∧ many.natAbs.log2 < 9000 ∧
  ∀ (r : Int) (H' : Hp), 0 ≤ r → r < many → TapeL H' t L (n + 1) → Keep t H H' → Q (.int r) H'
/-! ### alike -/
def flatP : V → Prop
  | .non => True
  | .bl _ => True
  | .int _ => True
  | .str _ => True
  | _ => False
def EqS (K : KF) (H : Hp) : Nat → V → V → Prop
  | 0, x, y => flatP y ∧ x = y
  | d + 1, x, y => (flatP y ∧ x = y) ∨ ∃ (a b : Addr) (xs ys : List V), x = .ref a ∧ y = .ref b ∧ ((SqT K H a xs ∧ SqT K H b ys) ∨ (SqL K H a xs ∧ SqL K H b ys)) ∧ xs.length = ys.length ∧ xs.length ≤ sizeLine ∧
      ∀ (i : Nat) (u v : V), xs[i]? = some u → ys[i]? = some v → EqS K H d u v
def spSame (K : KF) (d : Nat) : Sp := fun vs H Q _ => ∃ x y, vs = [x, y] ∧ EqS K H d x y ∧ Q (.bl true) H
theorem eqS_flat {K : KF} {H : Hp} {d : Nat} {x : V} (h : flatP x) : EqS K H d x x := by
  cases d with
  | zero => exact ⟨h, rfl⟩
  | succ d => exact .inl ⟨h, rfl⟩
theorem eqS_ints {K : KF} {H : Hp} {d : Nat} {ns : List Int} (i : Nat) (u v : V) (h1 : (ns.map V.int)[i]? = some u) (h2 : (ns.map V.int)[i]? = some v) : EqS K H d u v := by
  rw [h1] at h2
  cases h2
  rw [List.getElem?_map] at h1
  cases e : ns[i]? with
  | none => rw [e] at h1; cases h1
  | some z => rw [e] at h1; cases h1; exact eqS_flat trivial
theorem eqS_tupI {K : KF} {H : Hp} {a b : Addr} {ns : List Int} (ha : SqT K H a (ns.map V.int)) (hb : SqT K H b (ns.map V.int)) (hl : ns.length ≤ sizeLine) {d : Nat} : EqS K H (d + 1) (.ref a) (.ref b) :=
  .inr ⟨a, b, _, _, rfl, rfl, .inl ⟨ha, hb⟩, rfl, by rw [List.length_map]; exact hl, fun i u v => eqS_ints i u v⟩
theorem eqS_lstI {K : KF} {H : Hp} {a b : Addr} {ns : List Int} (ha : SqL K H a (ns.map V.int)) (hb : SqL K H b (ns.map V.int)) (hl : ns.length ≤ sizeLine) {d : Nat} : EqS K H (d + 1) (.ref a) (.ref b) :=
  .inr ⟨a, b, _, _, rfl, rfl, .inr ⟨ha, hb⟩, rfl, by rw [List.length_map]; exact hl, fun i u v => eqS_ints i u v⟩
/-! ### data of ints -/
theorem dpAll_ints {K : KF} {H : Hp} : ∀ ns : List Int, DpAll K H (ns.map V.int) (ns.map PyData.int)
  | [] => .nil
  | n :: r => .cons (.int n) (dpAll_ints r)
theorem dp_lstI {K : KF} {H : Hp} {a : Addr} {ns : List Int} (h : SqL K H a (ns.map V.int)) : Dp K H (.ref a) (.list (ns.map PyData.int)) := .lst h (dpAll_ints ns)
theorem dp_tupI {K : KF} {H : Hp} {a : Addr} {ns : List Int} (h : SqT K H a (ns.map V.int)) : Dp K H (.ref a) (.tuple (ns.map PyData.int)) := .tup h (dpAll_ints ns)
theorem shaped_lstI (ns : List Int) : SeqAt.shaped (.list (ns.map PyData.int)) = true := PySem.W.shaped_ints ns
theorem shaped_tupI (ns : List Int) : SeqAt.shaped (.tuple (ns.map PyData.int)) = true := shaped_lstI ns
theorem eqvAll_ints : ∀ a b : List Int, PyData.eqvAll (a.map PyData.int) (b.map PyData.int) = decide (a = b)
  | [], [] => rfl
  | [], _ :: _ => rfl
  | _ :: _, [] => rfl
  | x :: xs, y :: ys => by
    show (x == y && PyData.eqvAll (xs.map PyData.int) (ys.map PyData.int)) = _
    rw [eqvAll_ints xs ys]
    by_cases h : x = y
    · subst h
      by_cases h2 : xs = ys
      · subst h2
        simp
      · simp [h2]
    · simp [h]
theorem eqv_lstI (a b : List Int) : PyData.eqv (.list (a.map PyData.int)) (.list (b.map PyData.int)) = decide (a = b) := eqvAll_ints a b
theorem eqv_tupI (a b : List Int) : PyData.eqv (.tuple (a.map PyData.int)) (.tuple (b.map PyData.int)) = decide (a = b) := eqvAll_ints a b
/-! ### isinstance with the built-in types -/
theorem tyx_lst {K : KF} {H : Hp} {a : Addr} {xs : List V} (h : SqL K H a xs) : TyX K H (.ref a) (.type "list") := by
  rcases h with (h | ⟨o, h⟩) | ⟨o, its, n, h, hc, _⟩
  · exact .base (.lst h)
  · exact .base (.frz h)
  · exact .kList h hc
theorem tyx_tup {K : KF} {H : Hp} {a : Addr} {xs : List V} (h : SqT K H a xs) : TyX K H (.ref a) (.type "tuple") := by
  rcases h with (h | ⟨o, h⟩) | ⟨o, its, n, h, hc, _⟩
  · exact .base (.tup h)
  · exact .fTuple h
  · exact .kTuple h hc
theorem isi_rd {K : KF} {H : Hp} {x : V} {t n : String} {b : Bool} {Q : VK} (ty : TyX K H x (.type t)) (e : kitB t n = some b) (q : Q (.bl b) H) : rIsi K [x, .ty n] H Q :=
  ⟨x, .ty n, _, _, b, rfl, .ty n, ty, kit_ty e, q⟩
theorem kit_tt : kitB "tuple" "tuple" = some true := by decide +kernel
theorem kit_tl : kitB "tuple" "list" = some false := by decide +kernel
theorem kit_ll : kitB "list" "list" = some true := by decide +kernel
theorem kit_lt : kitB "list" "tuple" = some false := by decide +kernel
theorem kit_nt : kitB "NoneType" "tuple" = some false := by decide +kernel
theorem kit_nl : kitB "NoneType" "list" = some false := by decide +kernel
theorem kit_nb : kitB "NoneType" "bool" = some false := by decide +kernel
theorem kit_ni : kitB "NoneType" "int" = some false := by decide +kernel
theorem kit_ns : kitB "NoneType" "str" = some false := by decide +kernel
theorem kit_bt : kitB "bool" "tuple" = some false := by decide +kernel
theorem kit_bl : kitB "bool" "list" = some false := by decide +kernel
theorem kit_bb : kitB "bool" "bool" = some true := by decide +kernel
theorem kit_it : kitB "int" "tuple" = some false := by decide +kernel
theorem kit_il : kitB "int" "list" = some false := by decide +kernel
theorem kit_ib : kitB "int" "bool" = some false := by decide +kernel
theorem kit_ii : kitB "int" "int" = some true := by decide +kernel
theorem kit_st : kitB "str" "tuple" = some false := by decide +kernel
theorem kit_sl : kitB "str" "list" = some false := by decide +kernel
theorem kit_sb : kitB "str" "bool" = some false := by decide +kernel
theorem kit_si : kitB "str" "int" = some false := by decide +kernel
theorem kit_ss : kitB "str" "str" = some true := by decide +kernel
/-- one level of being alike -/
def SeqS (K : KF) (R : Hp → V → V → Prop) (H : Hp) (x y : V) : Prop := (flatP y ∧ x = y) ∨ ∃ (a b : Addr) (xs ys : List V), x = .ref a ∧ y = .ref b ∧ ((SqT K H a xs ∧ SqT K H b ys) ∨ (SqL K H a xs ∧ SqL K H b ys)) ∧ xs.length = ys.length ∧ xs.length ≤ sizeLine ∧
      ∀ (i : Nat) (u v : V), xs[i]? = some u → ys[i]? = some v → R H u v
def spR (R : Hp → V → V → Prop) : Sp := fun vs H Q _ => ∃ x y, vs = [x, y] ∧ R H x y ∧ Q (.bl true) H
end Ux
set_option Elab.async false
set_option linter.all false
set_option maxRecDepth 100000
set_option maxHeartbeats 2000000
/-! Uc: numberings -/
namespace Ux
open PySem PySem.Spec PyProof.Rows L2

/-! ### making an instance of a class that an expression gives -/
def tMakeE (C : Addr) (sp : Sp) (E : XK) (tf : TE) (t : TA) : TE := fun σ H Q => tf σ H fun y H1 => y = .ref C ∧ t σ H1 fun vs H2 => ∀ x dx, H2 x = Option.none → H2 dx = Option.none → dx ≠ x →
  sp (V.ref x :: vs) (upd (upd H2 dx (.own x)) x (.ins C dx [])) (fun v H3 => v = .non ∧ Q (.ref x) H3) E
section
variable {X : Cx} {CX : CXT} {k : Nat} {f C : Addr} {sp : Sp} {E : XK} {fe e : Expr} {es : List Expr} {tf : TE} {t : TA} {pos : Pos}
theorem pe_makeE (hf : PE X fe tf) (M : Mk X.K C f) (F : FnR X.prog X.w X.K X.mg X.base CX k f sp) (hr : Room (k + 1) X.A) (hx : Passes CX X E) (ha : PA X (e :: es) t)
    (ht : eval (.Call fe (e :: es) [] pos) X.env = (do callWith pos (← eval fe X.env) [] (backTo pos (starEach (e :: es) X.env)) (backToKw pos (keywordEach [] X.env))) := by rfl)
    (he : starEach (e :: es) X.env = (false, eval e X.env) :: starEach es X.env := by rfl) (hpl : (backTo pos (starEach es X.env)).any (·.1) = false := by rfl) : PE X (.Call fe (e :: es) [] pos) (tMakeE C sp E tf t) := by
  refine ⟨fun pins s σ H Q I h => Call_ (thn (hf.run pins s σ H _ I h) fun u s1 ⟨y, H1, I1, ry, ey, q⟩ => ?_) ht⟩
  subst ey
  cases ry
  exact PySem.W.callWith_K (h₀ := X.base) I1.ok.mod.kin M.kp (thn (ha.run pos pins s1 σ H1 _ I1 q) fun us s2 ⟨vs, H2, I2, r, q2⟩ => ⟨I2.kIn, StX.run_makeR M F hr hx I2 r q2⟩) he hpl
end

/-! ### lists of places -/
def iota (n : Nat) : List Int := (List.range n).map fun i : Nat => (i : Int)
theorem iota_len (n : Nat) : (iota n).length = n := by unfold iota; rw [List.length_map, List.length_range]
theorem iota_get {n i : Nat} (h : i < n) : (iota n)[i]? = some (i : Int) := by
  unfold iota
  rw [List.getElem?_map, List.getElem?_range h]
  rfl
theorem iota_mem {n : Nat} {z : Int} : z ∈ iota n ↔ 0 ≤ z ∧ z < n := by
  unfold iota
  rw [List.mem_map]
  constructor
  · rintro ⟨i, hi, rfl⟩
    rw [List.mem_range] at hi
    omega
  · rintro ⟨h0, h1⟩
    exact ⟨z.toNat, List.mem_range.mpr (by omega), by omega⟩
theorem iota_sorted (n : Nat) : (iota n).Pairwise (· ≤ ·) := by
  unfold iota
  rw [List.pairwise_map]
  exact List.pairwise_lt_range.imp fun h => by omega
theorem iota_nodup (n : Nat) : (iota n).Nodup := by
  unfold iota
  exact List.pairwise_map.mpr (List.Pairwise.imp (fun h e => h (Int.ofNat.inj e)) List.nodup_range)
theorem rgV_iota (n : Nat) : rgV 0 (n : Int) = (iota n).map V.int := by
  unfold rgV iota
  rw [List.map_map]
  have e : ((n : Int) - 0).toNat = n := by omega
  rw [e]
  refine List.map_congr_left fun i _ => ?_
  show V.int (0 + (i : Int)) = V.int (i : Int)
  rw [Int.zero_add]
/-- a numbering's list of places -/
def IsNb (ns : List Int) : Prop := 1 ≤ ns.length ∧ ns.length ≤ 12 ∧ ns.Perm (iota ns.length)
theorem sorted_iota {ns ns' : List Int} (p : ns'.Perm ns) (s : ns'.Pairwise (· ≤ ·)) : ns' = iota ns.length ↔ ns.Perm (iota ns.length) :=
  ⟨fun e => e ▸ p.symm, fun q => PySem.W.ksm_same (p.trans q) s (iota_sorted _)⟩
theorem IsNb.iota {n : Nat} (h1 : 1 ≤ n) (h2 : n ≤ 12) : IsNb (iota n) := ⟨by rw [iota_len]; exact h1, by rw [iota_len]; exact h2, by rw [iota_len]⟩
theorem IsNb.get {ns : List Int} (h : IsNb ns) {i : Nat} {z : Int} (e : ns[i]? = some z) : 0 ≤ z ∧ z < ns.length := iota_mem.mp (h.2.2.mem_iff.mp (List.mem_of_getElem? e))
theorem IsNb.nodup {ns : List Int} (h : IsNb ns) : ns.Nodup := h.2.2.nodup_iff.mpr (iota_nodup _)
theorem IsNb.small {ns : List Int} (h : IsNb ns) : ns.length ≤ sizeLine := by have e := sizeLine_eq; have := h.2.1; omega
/-! ### the objects -/
def numF (t : Addr) : List (Str × V) := putF "places" (.ref t) []
theorem numF_places (t : Addr) : (numF t).lookup ("places" : Str) = some (.ref t) := by
  unfold numF
  rw [lookup_putF, if_pos rfl]
theorem numF_no (t : Addr) {m : Str} (h : ¬ m = "places") : (numF t).lookup m = none := by
  unfold numF
  rw [lookup_putF, if_neg h]
  rfl
/-- a tuple whose object has no dict -/
def TupD (H : Hp) (a : Addr) (xs : List V) : Prop := ∃ o : Obj, H a = some (.frz o (.tup xs)) ∧ o.dict = none
theorem TupD.sq {K : KF} {H : Hp} {a : Addr} {xs : List V} (h : TupD H a xs) : SqT K H a xs := let ⟨o, h, _⟩ := h; .inl (.inr ⟨o, h⟩)
theorem TupD.same {H H' : Hp} {a : Addr} {xs : List V} (h : TupD H a xs) (k : Same H H') : TupD H' a xs := let ⟨o, h, d⟩ := h; ⟨o, k _ _ h, d⟩
theorem TupD.keep {t : Addr} {H H' : Hp} {a : Addr} {xs : List V} (h : TupD H a xs) (k : Keep t H H') (n : a ≠ t) : TupD H' a xs := let ⟨o, h, d⟩ := h; ⟨o, k _ _ n h, d⟩
theorem call_tupleD {X : Cx} : CallR X (.type "tuple") (fun xs H Q => ∃ p ys, xs = [.ref p] ∧ ((SqL X.K H p ys ∧ ∀ l o, H l = none → o.dict = none → Q (.ref l) (upd H l (.frz o (.tup ys)))) ∨ (SqT X.K H p ys ∧ Q (.ref p) H))) := by
  intro pins s σ H xs us Q I r h
  obtain ⟨p, ys, rfl, h⟩ := h
  obtain ⟨u, rfl, rx⟩ := vals1 r
  cases rx
  rcases h with ⟨hq, q⟩ | ⟨hq, q⟩
  · obtain ⟨its, r', pl, hz⟩ := I.list hq
    have hlen := r'.length
    refine PySem.call_tuple_list pl.isList (fun h' kp => ?_) (by rw [List.size_toArray]; omega)
    have J : Inv X pins σ H { s with heap := h' } := I.kept (t' := s.toks) kp
    have J2 : Inv X pins σ (upd H h'.objs.size (.frz { cls := .type "tuple", data := .seq its.toArray } (.tup ys))) { s with heap := h'.push { cls := .type "tuple", data := .seq its.toArray } } :=
      J.laid (t' := s.toks) (fun b o e => Heap.get?_push_of_some _ e) (Nat.le_refl _) (show ObjOk X.prog X.w _ _ _ (.frz _ (.tup ys)) from ⟨Heap.get?_push_size _ rfl, hz, its, r', IsTup.new _ _⟩)
    exact ⟨.ref h'.objs.size, _, J2, rfl, q _ _ (J.hok.fresh (Nat.le_refl _)) rfl⟩
  · obtain ⟨its, r', pl, hz⟩ := I.tuple hq
    exact PySem.call_tuple_same pl ⟨.ref p, H, I, rfl, q⟩
def Numb (K : KF) (C : Addr) (H : Hp) (a : Addr) (ns : List Int) : Prop := ∃ dx t, H a = some (.ins C dx (numF t)) ∧ SqT K H t (ns.map V.int) ∧ TupD H t (ns.map V.int)
theorem Numb.same {K : KF} {C a : Addr} {H H' : Hp} {ns : List Int} (h : Numb K C H a ns) (k : Same H H') : Numb K C H' a ns := let ⟨dx, t, h1, h2, h3⟩ := h; ⟨dx, t, k _ _ h1, Same.tup k h2, h3.same k⟩
/-! ### promises -/
/-- check(what, number, most) -/
def spCheck (BS : Addr) : Sp := fun vs H Q E => ∃ (z : Str) (c m : Int), vs = [.str z, .int c, .int m] ∧ z.length ≤ 2000 ∧ c.natAbs.log2 < 1920 ∧ m.natAbs.log2 < 1920 ∧ (1 ≤ c → c ≤ m → Q .non H) ∧ (¬ (1 ≤ c ∧ c ≤ m) → E (.ref BS) none H)
/-- the class's __init__: of a list -/
def spInit (K : KF) (C BN : Addr) : Sp := fun vs H Q E => ∃ (x dx l : Addr) (ns : List Int), vs = [.ref x, .ref l] ∧ H x = some (.ins C dx []) ∧ SqL K H l (ns.map V.int) ∧ ns.length ≤ 1000 ∧
  (IsNb ns → ∀ H', Keep x H H' → Numb K C H' x ns → Q .non H') ∧ (¬ IsNb ns → ∀ H', Same H H' → E (.ref BN) none H')
/-- a numbering made of a list -/
theorem mk_num {K : KF} {C BN l : Addr} {ns : List Int} {H : Hp} {Q : Addr → Hp → Prop} {E : XK} (hS : SqL K H l (ns.map V.int)) (hnb : IsNb ns) (q : ∀ a H', H a = none → Same H H' → Numb K C H' a ns → Q a H') :
    ∀ x dx, H x = Option.none → H dx = Option.none → dx ≠ x → spInit K C BN [V.ref x, V.ref l] (upd (upd H dx (.own x)) x (.ins C dx [])) (fun v H3 => v = .non ∧ Q x H3) E := fun x dx hx hd hdx => by
  have s0 : Same H (upd (upd H dx (.own x)) x (.ins C dx [])) := fun b o e => by
    rw [upd_ne (ne_of_none e hx), upd_ne (ne_of_none e hd)]
    exact e
  have len : ns.length ≤ 1000 := by have := hnb.2.1; omega
  exact ⟨x, dx, l, ns, rfl, upd_same, s0.seq hS, len, fun _ H' k n => ⟨rfl, q x H' hx (fun b o e => k b o (ne_of_none e hx) (s0 b o e)) n⟩, fun h => absurd hnb h⟩
theorem mk_bad {K : KF} {C BN l : Addr} {ns : List Int} {H : Hp} {Q : Addr → Hp → Prop} {E : XK} (hS : SqL K H l (ns.map V.int)) (hl : ns.length ≤ 1000) (hnb : ¬ IsNb ns) (q : ∀ H', Same H H' → E (.ref BN) none H') :
    ∀ x dx, H x = Option.none → H dx = Option.none → dx ≠ x → spInit K C BN [V.ref x, V.ref l] (upd (upd H dx (.own x)) x (.ins C dx [])) (fun v H3 => v = .non ∧ Q x H3) E := fun x dx hx hd hdx => by
  have s0 : Same H (upd (upd H dx (.own x)) x (.ins C dx [])) := fun b o e => by
    rw [upd_ne (ne_of_none e hx), upd_ne (ne_of_none e hd)]
    exact e
  exact ⟨x, dx, l, ns, rfl, upd_same, s0.seq hS, hl, fun h => absurd h hnb, fun _ H' k => q H' (s0.trans k)⟩
def spPlain (K : KF) (C BS : Addr) : Sp := fun vs H Q E => ∃ n : Int, vs = [.ref C, .int n] ∧ n.natAbs.log2 < 1920 ∧
  (1 ≤ n → n ≤ 12 → ∀ a H', H a = none → Same H H' → Numb K C H' a (iota n.toNat) → Q (.ref a) H') ∧ (¬ (1 ≤ n ∧ n ≤ 12) → E (.ref BS) none H)
def turnL (n : Nat) (d : Int) : List Int := (iota n).map fun k => (k + d) % (n : Int)
def spTurn (K : KF) (C BS : Addr) : Sp := fun vs H Q E => ∃ n d : Int, vs = [.ref C, .int n, .int d] ∧ n.natAbs.log2 < 1920 ∧
  (1 ≤ n → n ≤ 12 → ∀ a H', H a = none → Same H H' → Numb K C H' a (turnL n.toNat d) → Q (.ref a) H') ∧ (¬ (1 ≤ n ∧ n ≤ 12) → E (.ref BS) none H)
def mulL (ns ms : List Int) : List Int := ms.map fun m => ns.getD m.toNat 0
def spMul (K : KF) (C BN : Addr) : Sp := fun vs H Q E => ∃ (a b : Addr) (ns ms : List Int), vs = [.ref a, .ref b] ∧ Numb K C H a ns ∧ Numb K C H b ms ∧ IsNb ns ∧ IsNb ms ∧
  (ns.length = ms.length → ∀ c H', H c = none → Same H H' → Numb K C H' c (mulL ns ms) → Q (.ref c) H') ∧ (ns.length ≠ ms.length → E (.ref BN) none H)
def spEqN (K : KF) (C : Addr) : Sp := fun vs H Q _ => ∃ (a b : Addr) (ns ms : List Int), vs = [.ref a, .ref b] ∧ Numb K C H a ns ∧ Numb K C H b ms ∧ Q (.bl (decide (ns = ms))) H
/-! ### what turns and products are -/
theorem turnL_len (n : Nat) (d : Int) : (turnL n d).length = n := by unfold turnL; rw [List.length_map, iota_len]
theorem turnL_get {n i : Nat} (d : Int) (h : i < n) : (turnL n d)[i]? = some (((i : Int) + d) % (n : Int)) := by
  unfold turnL
  rw [List.getElem?_map, iota_get h]
  rfl
theorem erase_facts {ns : List Int} {z : Int} (nd : ns.Nodup) (h : z ∈ ns) : ns.Perm (z :: ns.erase z) ∧ (ns.erase z).Nodup ∧ ¬ z ∈ ns.erase z ∧ (ns.erase z).length + 1 = ns.length := by
  have p := List.perm_cons_erase h
  have nd2 := p.nodup_iff.mp nd
  exact ⟨p, (List.nodup_cons.mp nd2).2, (List.nodup_cons.mp nd2).1, by rw [p.length_eq, List.length_cons]⟩
theorem range_bound : ∀ (n : Nat) (ns : List Int), ns.Nodup → (∀ z ∈ ns, 0 ≤ z ∧ z < n) → ns.length ≤ n
  | 0, ns, _, hm => by
    cases ns with
    | nil => exact Nat.le_refl _
    | cons z r => have := hm z (List.mem_cons_self); omega
  | n + 1, ns, nd, hm => by
    by_cases h : (n : Int) ∈ ns
    · obtain ⟨p, nd2, hn, hl⟩ := erase_facts nd h
      have := range_bound n (ns.erase n) nd2 fun z hz => by
        have hz2 := hm z (List.mem_of_mem_erase hz)
        have : z ≠ n := fun e => hn (e ▸ hz)
        omega
      omega
    · have := range_bound n ns nd fun z hz => by
        have hz2 := hm z hz
        have : z ≠ n := fun e => h (e ▸ hz)
        omega
      omega
theorem iota_succ (n : Nat) : iota (n + 1) = iota n ++ [(n : Int)] := by
  unfold iota
  rw [List.range_succ, List.map_append]
  rfl
theorem range_perm : ∀ (n : Nat) (ns : List Int), ns.Nodup → (∀ z ∈ ns, 0 ≤ z ∧ z < n) → ns.length = n → ns.Perm (iota n)
  | 0, ns, _, _, hl => by
    cases ns with
    | nil => exact List.Perm.refl _
    | cons z r => cases hl
  | n + 1, ns, nd, hm, hl => by
    have h : (n : Int) ∈ ns := by
      by_cases h : (n : Int) ∈ ns
      · exact h
      · have := range_bound n ns nd fun z hz => by
          have hz2 := hm z hz
          have : z ≠ n := fun e => h (e ▸ hz)
          omega
        omega
    obtain ⟨p, nd2, hn, hl2⟩ := erase_facts nd h
    have q := range_perm n (ns.erase n) nd2 (fun z hz => by
      have hz2 := hm z (List.mem_of_mem_erase hz)
      have : z ≠ n := fun e => hn (e ▸ hz)
      omega) (by omega)
    rw [iota_succ]
    exact (p.trans (q.cons _)).trans (List.perm_append_comm (l₁ := [(n : Int)]) (l₂ := iota n))
/-- a list of that length with all of its entries in range and no entry twice -/
theorem nb_of_nodup {ns : List Int} (h1 : 1 ≤ ns.length) (h2 : ns.length ≤ 12) (hm : ∀ z ∈ ns, 0 ≤ z ∧ z < ns.length) (nd : ns.Nodup) : IsNb ns := ⟨h1, h2, range_perm _ ns nd hm rfl⟩
theorem nodup_of_get : ∀ {ns : List Int}, (∀ (i j : Nat) (z : Int), ns[i]? = some z → ns[j]? = some z → i = j) → ns.Nodup
  | [], _ => List.nodup_nil
  | x :: r, h => List.nodup_cons.mpr ⟨fun hx => by
      obtain ⟨j, hj⟩ := List.getElem?_of_mem hx
      have := h 0 (j + 1) x rfl hj
      omega, nodup_of_get fun i j z hi hj => by
      have := h (i + 1) (j + 1) z hi hj
      omega⟩
theorem emod_shift {n i j d : Int} (hn : 0 < n) (hi : 0 ≤ i) (hi2 : i < n) (hj : 0 ≤ j) (hj2 : j < n) (e : (i + d) % n = (j + d) % n) : i = j := by
  have h3 : n ∣ (i + d) - (j + d) := Int.dvd_of_emod_eq_zero (Int.emod_eq_emod_iff_emod_sub_eq_zero.mp e)
  obtain ⟨q, hq⟩ := h3
  have : q = 0 := by
    rcases Int.lt_trichotomy q 0 with z | z | z
    · have : n * q ≤ n * (-1) := Int.mul_le_mul_of_nonneg_left (by omega) (by omega)
      omega
    · exact z
    · have : n * 1 ≤ n * q := Int.mul_le_mul_of_nonneg_left (by omega) (by omega)
      omega
  subst this
  omega
theorem turnL_nb {n : Nat} (d : Int) (h1 : 1 ≤ n) (h2 : n ≤ 12) : IsNb (turnL n d) := by
  refine nb_of_nodup (by rw [turnL_len]; exact h1) (by rw [turnL_len]; exact h2) (fun z hz => ?_) (nodup_of_get fun i j z hi hj => ?_)
  · rw [turnL_len]
    unfold turnL at hz
    obtain ⟨k, _, rfl⟩ := List.mem_map.mp hz
    exact ⟨Int.emod_nonneg _ (by omega), Int.emod_lt_of_pos _ (by omega)⟩
  · have li : i < n := by have := (List.getElem?_eq_some_iff.mp hi).1; rw [turnL_len] at this; exact this
    have lj : j < n := by have := (List.getElem?_eq_some_iff.mp hj).1; rw [turnL_len] at this; exact this
    rw [turnL_get d li] at hi
    rw [turnL_get d lj] at hj
    have e := Option.some.inj (hi.trans hj.symm)
    have := emod_shift (by omega) (by omega) (by omega) (by omega) (by omega) e
    omega
theorem getD_of {ns : List Int} {z y : Int} {i : Nat} (h : ns[i]? = some y) (e : z = (i : Int)) : ns.getD z.toNat 0 = y := by
  subst e
  rw [Int.toNat_natCast, List.getD_eq_getElem?_getD, h]
  rfl
theorem mulL_len (ns ms : List Int) : (mulL ns ms).length = ms.length := List.length_map _
theorem IsNb.at {ns : List Int} {z : Int} (h0 : 0 ≤ z) (h1 : z < ns.length) : ns[z.toNat]? = some (ns.getD z.toNat 0) := by
  have h : z.toNat < ns.length := by omega
  rw [List.getD_eq_getElem?_getD, List.getElem?_eq_getElem h]
  rfl
theorem mulL_nb {ns ms : List Int} (hn : IsNb ns) (hm : IsNb ms) (e : ns.length = ms.length) : IsNb (mulL ns ms) := by
  refine nb_of_nodup (by rw [mulL_len]; exact hm.1) (by rw [mulL_len]; exact hm.2.1) (fun z hz => ?_) (nodup_of_get fun i j z hi hj => ?_)
  · rw [mulL_len, ← e]
    unfold mulL at hz
    obtain ⟨m, hmm, rfl⟩ := List.mem_map.mp hz
    obtain ⟨i, hi⟩ := List.getElem?_of_mem hmm
    have := hm.get hi
    exact hn.get (IsNb.at this.1 (by omega))
  · unfold mulL at hi hj
    rw [List.getElem?_map] at hi hj
    cases ei : ms[i]? with
    | none => rw [ei] at hi; cases hi
    | some a =>
      cases ej : ms[j]? with
      | none => rw [ej] at hj; cases hj
      | some b =>
        rw [ei] at hi
        rw [ej] at hj
        have za := hm.get ei
        have zb := hm.get ej
        have ha := IsNb.at (ns := ns) za.1 (by omega)
        have hb := IsNb.at (ns := ns) zb.1 (by omega)
        rw [show ns.getD a.toNat 0 = z from Option.some.inj hi] at ha
        rw [show ns.getD b.toNat 0 = z from Option.some.inj hj] at hb
        have e1 : a.toNat = b.toNat := nd_ix hn.nodup ha hb
        have e2 : a = b := by omega
        exact nd_ix hm.nodup ei (by rw [ej, e2])
theorem text_len {i : Int} (h : i.natAbs.log2 < 1920) : (Str.ofString (toString i)).length ≤ 2000 := Nat.le_trans (int_text_len_1921 h) (by decide)
theorem app_len (a b : Str) : (a ++ b).length = a.length + b.length := Str.length_append a b
/-- a text of at most n pieces of at most 2000 signs -/
inductive Jn : Str → Nat → Prop where
  | nil : Jn Str.empty 0
  | app {a b : Str} {n : Nat} (h : Jn a n) (hb : b.length ≤ 2000) : Jn (a ++ b) (n + 1)
theorem Jn.len {a : Str} {n : Nat} (h : Jn a n) : a.length ≤ 2000 * n := by
  induction h with
  | nil => exact Nat.le_refl _
  | app h hb ih =>
    rw [app_len]
    omega
theorem Jn.le {a : Str} {n : Nat} (h : Jn a n) (hn : n ≤ 100 := by decide) : a.length ≤ sizeLine := by
  have := h.len
  have e : sizeLine = 16777216 := sizeLine_eq
  omega
theorem log_small {n : Nat} (h : n ≤ 1000) : ((n : Int)).natAbs.log2 < 1920 := by
  rw [Int.natAbs_natCast]
  by_cases h0 : n = 0
  · subst h0; decide
  · have := (Nat.log2_lt h0 (k := 10)).mpr (Nat.lt_of_le_of_lt h (by decide))
    omega
end Ux
set_option Elab.async false
set_option linter.all false
set_option maxRecDepth 100000
set_option maxHeartbeats 2000000
/-! Ud: try with handlers of both kinds; calls within a try; what a suite asks of its exception -/
namespace Ux
open PySem PySem.Spec PyProof.Rows L2

/-! ### handlers -/
abbrev Hd := Value × Option Nat × (Addr → Value → Option Addr → TS)
inductive HdG (X : Cx) : List ExceptHandler → List Hd → Prop
  | nil : HdG X [] []
  | anon {x : Str} {c : Value} {ts : Addr → Value → Option Addr → TS} {b : Stmt} {bs : List Stmt} {p q : Pos} {more : List ExceptHandler} {l : List Hd} (hc : Names X x c)
      (hs : ∀ (a : Addr) (oe : Obj) (cls : Value) (d : Option Addr) (pn : List (Addr × Obj)), Zc cls d oe → (∃ vs, oe.data = .fields vs) → PSs (X.suite a ((a, oe) :: pn)) (b :: bs) (ts a cls d)) (r : HdG X more l) :
      HdG X (.ExceptHandler (some (.Name x p)) none (b :: bs) q :: more) ((c, none, ts) :: l)
  | named {x n : Str} {i : Nat} {c : Value} {ts : Addr → Value → Option Addr → TS} {b : Stmt} {bs : List Stmt} {p q : Pos} {more : List ExceptHandler} {l : List Hd} (hc : Names X x c) (hN : X.N.Nodup) (hi : X.N[i]? = some n) (hl : X.env.kindOf n = some .local)
      (hs : ∀ (a : Addr) (oe : Obj) (cls : Value) (d : Option Addr) (pn : List (Addr × Obj)), Zc cls d oe → (∃ vs, oe.data = .fields vs) → PSs (X.suite a ((a, oe) :: pn)) (b :: bs) (ts a cls d)) (r : HdG X more l) :
      HdG X (.ExceptHandler (some (.Name x p)) (some n) (b :: bs) q :: more) ((c, some i, ts) :: l)
def endsG : Option Nat → Ends → Ends
  | none, D => D
  | some i, D => { nx := fun σ H => D.nx (σ.set i none) H, rt := D.rt, bk := fun σ H => D.bk (σ.set i none) H, ct := fun σ H => D.ct (σ.set i none) H }
def slotG : Option Nat → Addr → L2.St → L2.St
  | none, _, σ => σ
  | some i, a, σ => σ.set i (some (.ref a))
/-- what the handlers wish of an exception of the body -/
def wG (K : KF) (Wout : WX) (D : Ends) : List Hd → WX
  | [] => Wout
  | (c, i, ts) :: r => fun cls d σ H => ∃ b, PySem.W.exmOne K cls c = some b ∧ (b = true → ∀ a, H a = none → ts a cls d (endsG i D) (slotG i a σ) H) ∧ (b = false → wG K Wout D r cls d σ H)
section
variable {X : Cx} {body : List Stmt} {h1 : ExceptHandler} {hds : List ExceptHandler} {l : List Hd} {pos : Pos} {tb : WX → TS} {Wout : WX}
theorem ps_tryG (hst : X.stack = X.env :: X.outer) (hfr : X.env.frame = some X.env.locals) (tk : Takes X Wout)
    (hbody : ∀ (W : WX) (pn : List (Addr × Obj)) (xe : Value → Shared → Prop), Takes (X.tr pn xe) W → PassesOwn (model X.prog X.w) X.A X.env xe → PSs (X.tr pn xe) body (tb W))
    (hh : HdG X (h1 :: hds) l) : PS X (.Try body (h1 :: hds) [] [] pos) (fun D σ H => tb (wG X.K Wout D l) D σ H) := by
  refine ⟨fun pins s σ H D I h => wpAny_Try_except (wpAny_mono ((hbody (wG X.K Wout D l) (X.pn ++ pins) (fun e z => wpAny (model X.prog X.w) X.A (noteFrame e X.env) (fun _ z2 => wpAny (model X.prog X.w) X.A (setFlight e none) (fun _ z3 =>
    wpAny (model X.prog X.w) X.A (handleBy e X.env (h1 :: hds)) (SP X pins D) X.xe z3) X.xe z2) X.xe z) (fun u z xx => ?caught) PassesOwn.looking).run [] s σ H D (I.toTry _) h) (fun f z hf => ?through) (fun _ _ he => he))⟩
  case through =>
    cases f with
    | next => obtain ⟨σz, Hz, J, q⟩ := hf; exact wpAny_execs_nil ⟨σz, Hz, J.ofTry I.ok, q⟩
    | brk => obtain ⟨σz, Hz, J, q⟩ := hf; exact ⟨σz, Hz, J.ofTry I.ok, q⟩
    | cont => obtain ⟨σz, Hz, J, q⟩ := hf; exact ⟨σz, Hz, J.ofTry I.ok, q⟩
    | ret u => obtain ⟨v, σz, Hz, J, rv, q⟩ := hf; exact ⟨v, σz, Hz, J.ofTry I.ok, rv, q⟩
  case caught =>
    have okX := I.ok
    obtain ⟨a, B, sI, pins2, σ2, H2, cls, d, eu, J0, nb, up, sky, na, eos, ag, w⟩ := xx
    subst eu
    have J : Inv X pins σ2 H2 sI := J0.ofTry okX
    have frs_ : X.A.frames = some (X.env :: X.outer) := by rw [okX.frames, hst]
    have sky2 : Sky B (X.env :: X.outer) a (Zc cls d) X.env.locals z.heap := hst ▸ sky
    refine Sky.land Zc.steady frs_ hfr sky2 fun g3 fl3 up3 => ?_
    have J3 : Inv X pins σ2 H2 { z with heap := g3 } := J.landed nb fl3.1 (up.trans up3) eos ag
    obtain ⟨oe, vs, he, hz, hd⟩ := fl3.there
    have away : a ∉ frs (X.env :: X.outer) := fun hm => by
      obtain ⟨_, o2, e2, hn⟩ := fl3.2.2.1.mem hm
      rw [he] at e2
      cases e2
      exact hn _ hd
    have aL : a ≠ X.env.locals := fun y => away (List.mem_filterMap.mpr ⟨X.env, List.mem_cons_self, by rw [hfr, y]⟩)
    have aF : a ∉ X.fs := fun hm => by
      obtain ⟨e, he2, q⟩ := List.mem_filterMap.mp hm
      exact away (List.mem_filterMap.mpr ⟨e, List.mem_cons_of_mem _ he2, q⟩)
    have Su := J3.suite he hd na aL aF
    have named_ : ∀ {x : Str} {c : Value} {p : Pos} {Q E : Value → Shared → Prop}, Names X x c → Q c { z with heap := g3 } → wpAny (model X.prog X.w) (X.A.mark (some (.ref a))) (eval (.Name x p) X.env) Q E { z with heap := g3 } := fun {x c p Q E} hc q => by
      obtain ⟨hg, hdb, hm | ⟨hm, hv, hnn⟩⟩ := hc
      · exact ld_glob (X := X.suite a ((a, oe) :: (X.pn ++ pins))) Su hg hm q hdb
      · exact ld_blt (X := X.suite a ((a, oe) :: (X.pn ++ pins))) Su hg hm hv q hnn hdb
    have LT : PySem.W.Looks (model X.prog X.w) g3 (typeOf (.ref a)) cls := fun A Q E s k q => wpAny_typeOf_ref (k _ _ he) (by rw [hz.1]; exact q)
    have run : ∀ {hs : List ExceptHandler} {ls : List Hd}, HdG X hs ls → wG X.K Wout D ls cls d σ2 H2 → wpAny (model X.prog X.w) X.A (handleBy (.ref a) X.env hs) (SP X pins D) X.xe { z with heap := g3 } := by
      intro hs ls hk
      induction hk with
      | nil =>
        intro w
        obtain ⟨f1, f2, f3, o4, vs4, T4, oT4, ts4, he4, hz4, hd4, hv4, hr4⟩ := id fl3
        have fin : wpAny (model X.prog X.w) X.A (setFlight (.ref a) X.env.frame) (fun _ z4 => wpAny (model X.prog X.w) X.A (throw (.ref a) : Sem Flow) (SP X pins D) X.xe z4) X.xe { z with heap := g3 } := by
          rw [hfr]
          exact HandSPX.setFlight_upZ fl3 fun g4 hh4 up4 => wpAny_throw (tk _ _ ⟨a, B, sI, pins, σ2, H2, cls, d, rfl, J, nb, (up.trans up3).trans up4, .inr (.inr (hst ▸ hh4)), na, eos, ag, w⟩)
        refine wpAny_handleBy_nil ?_
        unfold PySem.passOn
        refine wpAny_bind (wpAny_field he4 hd4 hv4 ?_)
        rw [if_neg (show ¬ ((Value.ref T4 == Value.none) = true) by simp)]
        first
          | exact wpAny_bind (wpAny_pure (wpAny_bind fin))
          | exact wpAny_bind fin
      | @anon x c ts b bs p q more l hc hs r ih =>
        intro w
        obtain ⟨t, ht, yes, no⟩ := w
        refine wpAny_handleBy_cons (codeAny_handlers_test (named_ hc ((PySem.W.exm_one (M := model X.prog X.w) J3.kIn LT ht).here ?_))) (by intro y; cases y)
        cases t with
        | false => exact ih (no rfl)
        | true =>
          refine codeAny_handlers_suite (HandSPX.lands_againZ fl3 fun g4 fl4 up4 => ?_)
          have J4 : Inv X pins σ2 H2 { z with heap := g4 } := J.landed nb fl4.1 ((up.trans up3).trans up4) eos ag
          obtain ⟨o4, vs4, he4, hz4, hd4⟩ := fl4.there
          refine wpAny_mono ((hs a o4 cls d (X.pn ++ pins) hz4 ⟨_, hd4⟩).run [] _ _ H2 _ (J4.suite he4 hd4 na aL aF) (yes rfl a na)) (fun f z6 hf => ?_) (fun _ _ y => False.elim y)
          cases f with
          | next => obtain ⟨σ6, H6, S6, q6⟩ := hf; exact ⟨σ6, H6, S6.unsuite okX, q6⟩
          | brk => obtain ⟨σ6, H6, S6, q6⟩ := hf; exact ⟨σ6, H6, S6.unsuite okX, q6⟩
          | cont => obtain ⟨σ6, H6, S6, q6⟩ := hf; exact ⟨σ6, H6, S6.unsuite okX, q6⟩
          | ret u => obtain ⟨v6, σ6, H6, S6, r6, q6⟩ := hf; exact ⟨v6, σ6, H6, S6.unsuite okX, r6, q6⟩
      | @named x n i c ts b bs p q more l hc hN hi hl hs r ih =>
        intro w
        obtain ⟨t, ht, yes, no⟩ := w
        refine wpAny_handleBy_cons (codeAny_handlers_test (named_ hc ((PySem.W.exm_one (M := model X.prog X.w) J3.kIn LT ht).here ?_))) (by intro y; cases y)
        cases t with
        | false => exact ih (no rfl)
        | true =>
          refine codeAny_handlers_suite_as (HandSPX.lands_againZ fl3 fun g4 fl4 up4 => ?_)
          have J4 : Inv X pins σ2 H2 { z with heap := g4 } := J.landed nb fl4.1 ((up.trans up3).trans up4) eos ag
          obtain ⟨o4, vs4, he4, hz4, hd4⟩ := fl4.there
          refine store_ok (X := X.suite a ((a, o4) :: (X.pn ++ pins))) (v := .ref a) (J4.suite he4 hd4 na aL aF) hN hi (.inl hl) rfl (fun z5 S5 => ?_) (.inr hl)
          refine wpAny_mono ((hs a o4 cls d (X.pn ++ pins) hz4 ⟨_, hd4⟩).run [] z5 _ H2 _ S5 (yes rfl a na)) (fun f z6 hf => ?_) (fun _ _ y => False.elim y)
          have gone : ∀ {σ6 : L2.St} {H6 : Hp} {Q : Shared → Prop}, Inv (X.suite a ((a, o4) :: (X.pn ++ pins))) [] σ6 H6 z6 → (∀ z7, Inv X pins (σ6.set i none) H6 z7 → Q z7) →
              wpAny (model X.prog X.w) X.A (do bindName X.env n .none; unbindBehindTheSuite X.env n q) (fun _ z7 => Q z7) X.xe z6 := fun {σ6 H6 Q} S6 hq => gone_ok (S6.unsuite okX) hN hi hl hq
          cases f with
          | next => obtain ⟨σ6, H6, S6, q6⟩ := hf; exact gone S6 fun z7 J7 => ⟨_, _, J7, q6⟩
          | brk => obtain ⟨σ6, H6, S6, q6⟩ := hf; exact gone S6 fun z7 J7 => ⟨_, _, J7, q6⟩
          | cont => obtain ⟨σ6, H6, S6, q6⟩ := hf; exact gone S6 fun z7 J7 => ⟨_, _, J7, q6⟩
          | ret u => obtain ⟨v6, σ6, H6, S6, r6, q6⟩ := hf; exact gone S6 fun z7 J7 => ⟨_, _, _, J7, r6, q6⟩
    exact run hh w
end

/-! ### calls whose exceptions are wished for at the slots -/
abbrev PassS (CX : CXT) (X : Cx) (E : L2.St → XK) : Prop := ∀ σ, PassesAt CX X σ (E σ)
section
variable {X : Cx} {CX : CXT} {k : Nat} {f C p g : Addr} {sp : Sp} {E : L2.St → XK} {x m : Str} {e o fe : Expr} {es : List Expr} {te ta tb tf : TE} {t : TA} {q pos apos : Pos} {mc : Value} {pl : Sem Bool}
theorem run_fnRS {pins : List (Addr × Obj)} {σ : L2.St} {H : Hp} {s : Shared} {Q : VK} {us : List Value} {vs : List V} (F : FnR X.prog X.w X.K X.mg X.base CX k f sp) (hr : Room k X.A) (hx : PassS CX X E) (I : Inv X pins σ H s) (r : Vals vs us) (h : sp vs H Q (E σ)) :
    codeAny (model X.prog X.w) X.A (.call (.ref f) ⟨us, []⟩) (fun r s' => match r with | .ok (.ret v) => EP X pins σ Q v s' | .ok _ => False | .error e => X.xe e s') s :=
  codeAny_mono (F X.A X.stack s H us vs Q (E σ) hr I.env0 r h) fun r s' hq => match r with
    | .error e => hx σ pins H s e s' I hq
    | .ok (.ret _) => I.after hq
    | .ok .next => False.elim hq
    | .ok .brk => False.elim hq
    | .ok .cont => False.elim hq
def tCallRS (sp : Sp) (E : L2.St → XK) (t : TA) : TE := fun σ H Q => t σ H fun vs H1 => sp vs H1 Q (E σ)
theorem pe_callRS (F : FnR X.prog X.w X.K X.mg X.base CX k f sp) (hr : Room k X.A) (hg : Gl X x) (hm : X.mg x = some (.ref f)) (hk : PySem.W.keepIn X.K (.ref f) = true) (hx : PassS CX X E) (ha : PA X (e :: es) t)
    (hdb : (x == ("__debug__" : Str)) = false := by decide) (he : starEach (e :: es) X.env = (false, eval e X.env) :: starEach es X.env := by rfl) (hpl : (backTo pos (starEach es X.env)).any (·.1) = false := by rfl) :
    PE X (.Call (.Name x q) (e :: es) [] pos) (tCallRS sp E t) :=
  ⟨fun pins s σ H Q I h => wpAny_Call_Name_kw (ld_glob I hg hm (PySem.W.callWith_K (h₀ := X.base) I.ok.mod.kin hk (thn (ha.run pos pins s σ H _ I h) fun us s1 ⟨vs, H1, I1, r, z⟩ =>
    ⟨I1.kIn, wpAny_call (run_fnRS F hr hx I1 r z)⟩) he hpl) hdb)⟩
def tCMethS (C : Addr) (sp : Sp) (E : L2.St → XK) (ta : TE) (t : TA) : TE := fun σ H Q => ta σ H fun x H1 => x = .ref C ∧ t σ H1 fun vs H2 => sp (.ref C :: vs) H2 Q (E σ)
theorem pe_cmethS (he : PE X o ta) (r : ClX.CRead X.K C mc) (c : ClX.CMet X.K C mc m p g) (F : FnR X.prog X.w X.K X.mg X.base CX k g sp) (hr : Room k X.A) (hx : PassS CX X E) (ha : PA X (e :: es) t)
    (hst : starEach (e :: es) X.env = (false, eval e X.env) :: starEach es X.env := by rfl) (hpl : (backTo pos (starEach es X.env)).any (·.1) = false := by rfl)
    (ht : eval (.Call (.Attribute o m apos) (e :: es) [] pos) X.env = (do
      let ov ← eval o X.env
      standAt apos.atName
      let (f, first) ← holding [ov] (getMethod ov m pl)
      callWith pos f first (backTo pos (starEach (e :: es) X.env)) (backToKw pos (keywordEach [] X.env))) := by rfl) :
    PE X (.Call (.Attribute o m apos) (e :: es) [] pos) (tCMethS C sp E ta t) := by
  refine ⟨fun pins s σ H Q I h => PySem.W.methodCall_KW (pl := pl) (thn (he.run pins s σ H _ I h) fun u s1 ⟨y, H1, I1, ry, ey, w⟩ => ?_) ht⟩
  subst ey
  cases ry
  refine ClX.getmethcm_ok I1 r c fun s2 I2 => ClX.callwith_cm I2 (ClX.base_none I1 (Nat.le_refl _)) c.fi (thn (ha.run pos _ s2 σ H1 _ I2 w) fun us s3 ⟨vs, H2, I3, rv, w2⟩ => ⟨⟨ClX.pin_at I3, I3.kIn⟩, ?_⟩) hst hpl
  have y := wpAny_call (PySem.W.method_call (ClX.pin_at I3) (run_fnRS (us := .ref C :: us) (vs := .ref C :: vs) F hr hx I3 (.cons rfl rv) w2))
  exact thn y fun _ _ z => ClX.unpinE z
def tMakeRS (C : Addr) (sp : Sp) (E : L2.St → XK) (t : TA) : TE := fun σ H Q => t σ H fun vs H1 => ∀ x dx, H1 x = Option.none → H1 dx = Option.none → dx ≠ x →
  sp (V.ref x :: vs) (upd (upd H1 dx (.own x)) x (.ins C dx [])) (fun v H2 => v = .non ∧ Q (.ref x) H2) (E σ)
theorem pe_makeRS (M : Mk X.K C f) (F : FnR X.prog X.w X.K X.mg X.base CX k f sp) (hr : Room (k + 1) X.A) (hg : Gl X x) (hm : X.mg x = some (.ref C)) (hx : PassS CX X E) (ha : PA X (e :: es) t) (hdb : (x == ("__debug__" : Str)) = false := by decide)
    (he : starEach (e :: es) X.env = (false, eval e X.env) :: starEach es X.env := by rfl) (hpl : (backTo pos (starEach es X.env)).any (·.1) = false := by rfl) : PE X (.Call (.Name x q) (e :: es) [] pos) (tMakeRS C sp E t) := by
  refine ⟨fun pins s σ H Q I h => wpAny_Call_Name_kw (ld_glob I hg hm (PySem.W.callWith_K (h₀ := X.base) I.ok.mod.kin M.kp (thn (ha.run pos pins s σ H _ I h) fun us s1 ⟨vs, H1, I1, r, z⟩ => ⟨I1.kIn, ?_⟩) he hpl) hdb)⟩
  have z2 := z (s1.heap.objs.size + 1) s1.heap.objs.size (I1.hok.fresh (Nat.le_succ _)) (I1.hok.fresh (Nat.le_refl _)) (Nat.ne_of_lt (Nat.lt_succ_self _))
  have I2 := Inv.made (C := C) I1
  refine wpAny_call (make_map (f := f) I1.kIn M.makes M.init (beq_iff_eq.mp M.fn) (codeAny_mono (F _ X.stack _ _ (Value.ref (s1.heap.objs.size + 1) :: us) _ _ (E σ) (hr.make C us []) (I2.env0.make C us []) (Paired.cons (a := V.ref (s1.heap.objs.size + 1)) rfl r) z2) fun r s' hq => ?_))
  match r with
  | .error e => exact hx σ pins _ _ e s' I2 hq
  | .ok (.ret u) =>
    obtain ⟨v, H', I3, rv, ev, q3⟩ := I2.after hq
    subst ev
    exact ⟨rv, ⟨V.ref (s1.heap.objs.size + 1), H', I3, rfl, q3⟩⟩
  | .ok .next => exact False.elim hq
  | .ok .brk => exact False.elim hq
  | .ok .cont => exact False.elim hq
def tCallPS (C : Addr) (sp : Sp) (E : L2.St → XK) (tf : TE) (t : TA) : TE := fun σ H Q => tf σ H fun y H1 => ∃ a, y = V.ref a ∧ t σ H1 fun vs H2 => (∃ dx fs, H2 a = some (.ins C dx fs)) ∧ sp (V.ref a :: vs) H2 Q (E σ)
theorem pe_callPS (hf : PE X fe tf) (c : StX.CallO X.K C g) (F : FnR X.prog X.w X.K X.mg X.base CX k g sp) (hr : Room k X.A) (hx : PassS CX X E) (ha : PA X (e :: es) t)
    (ht : eval (.Call fe (e :: es) [] pos) X.env = (do callWith pos (← eval fe X.env) [] (backTo pos (starEach (e :: es) X.env)) (backToKw pos (keywordEach [] X.env))) := by rfl)
    (he : starEach (e :: es) X.env = (false, eval e X.env) :: starEach es X.env := by rfl) (hpl : (backTo pos (starEach es X.env)).any (·.1) = false := by rfl) : PE X (.Call fe (e :: es) [] pos) (tCallPS C sp E tf t) := by
  refine ⟨fun pins s σ H Q I h => Call_ (thn (hf.run pins s σ H _ I h) fun u s1 ⟨y, H1, I1, ry, a, ey, w⟩ => ?_) ht⟩
  subst ey
  cases ry
  refine StX.callO_with (thn (ha.run pos pins s1 σ H1 _ I1 w) fun us s2 ⟨vs, H2, I2, r, hi, w2⟩ => ?_) he hpl
  obtain ⟨ox, od, J, hd⟩ := StX.insC_at I2 (.inr hi)
  exact ⟨⟨C, ox, od, J, hd⟩, wpAny_call (PySem.W.kco_code I2.kIn J hd c.at_ c.fn c.fi (run_fnRS (us := .ref a :: us) (vs := .ref a :: vs) F hr hx I2 (.cons rfl r) w2))⟩
/-- a binary operator of an own class within a try -/
def tBinS (C : Addr) (sp : Sp) (E : L2.St → XK) (ta tb : TE) : TE := fun σ H Q => ta σ H fun x H1 => tb σ H1 fun y H2 => ∃ a dx fs b dy gs, x = .ref a ∧ y = .ref b ∧ H2 a = some (.ins C dx fs) ∧ H2 b = some (.ins C dy gs) ∧ sp [x, y] H2 Q (E σ)
theorem pe_binS {op : Operator} {l r : Expr} (op_ : OpT X.K C g (PySem.dunder op.info.2)) (F : FnR X.prog X.w X.K X.mg X.base CX k g sp) (hr : Room k X.A) (hx : PassS CX X E) (ha : PE X l ta) (hb : PE X r tb) : PE X (.BinOp l op r pos) (tBinS C sp E ta tb) := by
  refine ⟨fun pins s σ H Q I h => wpAny_BinOp (binT ha hb I h fun v u s2 x y H2 I2 rx ry w => ?_)⟩
  obtain ⟨a, dx, fs, b, dy, gs, ex, ey, ha2, hb2, w⟩ := w
  subst ex
  subst ey
  cases rx
  cases ry
  obtain ⟨ox, od, J, _⟩ := ins_at I2 ha2
  obtain ⟨oy, oe, J2, _⟩ := ins_at I2 hb2
  obtain ⟨m, hF⟩ := I2.fr
  refine PySem.W.binop_K hF I2.ok.mod.kin J J2.type op_.sf op_.at_ op_.fn ?_
  exact wpAny_mono (wpAny_call (run_fnRS (us := [.ref a, .ref b]) (vs := [.ref a, .ref b]) F hr hx I2 (.cons rfl (.cons rfl .nil)) w)) (fun _ _ ⟨z, H', I', rz, qz⟩ => SlX.cmpback rz ⟨z, H', I', rz, qz⟩) fun _ _ y => y
end

/-! ### what a suite asks of its exception -/
def dictG (H : Hp) (d : Option Addr) : Prop := d = none ∨ ∃ dd fs, d = some dd ∧ H dd = some (.xd fs)
/-- isinstance(e, c) -/
def rIsG (K : KF) (cls : Value) (d : Option Addr) (a : Addr) : List V → Hp → VK → Prop := fun xs H Q => ∃ (D : Addr) (c : V) (cv : Value) (b : Bool), cls = .ref D ∧ ExcC K D ∧ dictG H d ∧ xs = [.ref a, c] ∧ (∀ u, RelV c u → u = cv) ∧ PySem.W.kitOne K (.ref D) cv = some b ∧ Q (.bl b) H
theorem call_isG {X : Cx} {a : Addr} {oe : Obj} {cls : Value} {d : Option Addr} {pn : List (Addr × Obj)} (K : KF) (hz : Zc cls d oe) (hf : ∃ vs, oe.data = .fields vs) (hK : X.K = K := by rfl) : CallR (X.suite a ((a, oe) :: pn)) (.builtin "isinstance") (rIsG K cls d a) := by
  subst hK
  intro pins s σ H xs us Q I r h
  obtain ⟨D, c, cv, b, ec, C, hd, exs, hcv, hk, q⟩ := h
  subst ec
  subst exs
  obtain ⟨u1, u2, rfl, r1, r2⟩ := r.two
  cases r1
  cases hcv _ r2
  obtain ⟨hget, _⟩ := I.pin (a, oe) (List.mem_append.mpr (.inl List.mem_cons_self))
  obtain ⟨vs, hv⟩ := hf
  obtain ⟨oc, od, oda, osl⟩ := oe
  obtain ⟨z1, z2⟩ := hz
  dsimp only at z1 z2 hv
  subst z1 z2 hv
  have J : ∃ o, PySem.W.InstAt s.heap a ⟨.ref D, od, .fields vs, osl⟩ D o := by
    rcases hd with e | ⟨dd, fs, e, hdd⟩
    · subst e
      exact ⟨none, hget, rfl, rfl, trivial⟩
    · subst e
      obtain ⟨o, ho⟩ := objOk_get (I.hok dd _ hdd)
      exact ⟨some o, hget, rfl, rfl, ho⟩
  obtain ⟨o, J⟩ := J
  obtain ⟨cd, hcd, _⟩ := PySem.W.any_some C.hd
  exact PySem.W.kia_one (PySem.W.kitx_exc (by rw [hcd]; rfl) C.hg C.hk C.hs C.ha C.hn C.ht C.hm) I.kIn J hk (fun y => nomatch y) fun tk => ⟨.bl b, H, I.kept (t' := tk) fun _ _ y => y, rfl, q⟩
def fExcC (x : Str) : Fc := fun K => He.eqO (PySem.W.findIn K (.ref (He.ga K x)) "__getattribute__") (some (some (.builtin "BaseException.__getattribute__"))) && (He.eqO (PySem.W.findIn K (.ref (He.ga K x)) "__getattr__") (some none) && (decide (PySem.W.subIn K (.ref (He.ga K x)) (.type "BaseException") = some true) &&
  (PySem.W.hasDictIn K (He.ga K x) && (He.eqO (PySem.W.findIn K (.ref (He.ga K x)) "__class__") (some (some (.builtin "object.__class__"))) && (He.eqO (PySem.W.specialIn K (.builtin "object.__class__") "__get__") (some (some (.builtin "getset_descriptor.__get__"))) &&
  (decide (PySem.W.takesIn K (.builtin "object.__class__") = some true) && decide (PySem.W.mroIn K (He.ga K x) (.type "object") = some true)))))))
theorem excC_ok {K : KF} {x : Str} (c : fExcC x K = true) : ExcC K (He.ga K x) := by
  obtain ⟨c1, c⟩ := He.ba c
  obtain ⟨c2, c⟩ := He.ba c
  obtain ⟨c3, c⟩ := He.ba c
  obtain ⟨c4, c⟩ := He.ba c
  obtain ⟨c5, c⟩ := He.ba c
  obtain ⟨c6, c⟩ := He.ba c
  obtain ⟨c7, c8⟩ := He.ba c
  exact ⟨He.eqO_ok c1, He.eqO_ok c2, of_decide_eq_true c3, c4, He.eqO_ok c5, He.eqO_ok c6, of_decide_eq_true c7, of_decide_eq_true c8⟩
end Ux
set_option Elab.async false
set_option linter.all false
set_option maxRecDepth 100000
set_option maxHeartbeats 2000000
/-! Ue: methods of tuples made at run time; index; inverses, products of products -/
namespace Ux
open PySem PySem.Spec PyProof.Rows L2
section
variable {X : Cx} {o e : Expr} {es : List Expr} {to : TE} {t : TA} {name : Str} {apos cpos : Pos} {T id : String} {r : V → List V → Hp → VK → Prop}
def tTupM (K : KF) (r : V → List V → Hp → VK → Prop) (to : TE) (t : TA) : TE := fun σ H Q => to σ H fun x H1 => (∃ a xs, x = V.ref a ∧ TupD H1 a xs) ∧ t σ H1 fun xs H2 => r x xs H2 Q
theorem pe_tupM (K : KF) (slot : Slot "tuple" name id) (hty : typeOf (.builtin id) = pure (.type "method_descriptor")) (hm : MtR X id r) (ho : PE X o to) (ha : PA X (e :: es) t)
    (hbase : attributeBase o name X.env (eval o X.env) = eval o X.env := by rfl)
    (hfew : ((backTo cpos (starEach (e :: es) X.env)).all (fun x => !x.1) && (backToKw cpos (keywordEach [] X.env)).all (fun x => x.1.isSome)
      && decide ((e :: es).length + ([] : List Keyword).length + (if ([] : List Keyword).isEmpty then 0 else 1) < 30)) = true := by rfl)
    (hline : (apos.endLine == cpos.line) = true := by rfl) (hs : starEach (e :: es) X.env = (false, eval e X.env) :: starEach es X.env := by rfl) (hplain : (backTo cpos (starEach es X.env)).any (·.1) = false := by rfl)
    (hK : X.K = K := by rfl) : PE X (.Call (.Attribute o name apos) (e :: es) [] cpos) (tTupM K r to t) := by
  subst hK
  refine ⟨fun pins s σ H Q I h => ?_⟩
  refine wpAny_Call_method_late hbase hfew hline rfl (thn (ho.run pins s σ H _ I h) fun v s1 ⟨x, H1, I1, r1, ⟨a, xs, ex, hq⟩, q1⟩ => ?_)
  subst ex
  cases r1
  obtain ⟨o2, he2, hd2⟩ := hq
  obtain ⟨ho2, _, _, _, o3, ho3, hc3, _⟩ := I1.hok a _ he2
  rw [ho2] at ho3
  have hc2 : o2.cls = .type "tuple" := by cases ho3; exact hc3
  refine ⟨"tuple", id, PySem.F.plainAttrs_tuple, slot, hty, ⟨o2, ho2, hc2⟩, fun b e => (by cases e; exact ⟨o2, ho2, hd2⟩), ?_⟩
  have hA := ha.run cpos pins s1 σ H1 _ I1 q1
  rw [hs] at hA ⊢
  refine Calls.callWith_builtin (by show (false || (backTo cpos (starEach es X.env)).any (·.1)) = false; rw [hplain] <;> rfl) (Calls.evalArgs_plain ?_)
  exact thn hA fun us s2 ⟨vs, H2, I2, r2, q2⟩ => hm pins s2 σ H2 (.ref a) vs (.ref a) us Q I2 rfl r2 q2
theorem pe_bmK (K : KF) (pa : PlainAttrs T) (slot : Slot T name id) (hty : typeOf (.builtin id) = pure (.type "method_descriptor")) (hm : MtR X id r) (ho : PE X o to) (ha : PA X (e :: es) t)
    (hbase : attributeBase o name X.env (eval o X.env) = eval o X.env := by rfl)
    (hfew : ((backTo cpos (starEach (e :: es) X.env)).all (fun x => !x.1) && (backToKw cpos (keywordEach [] X.env)).all (fun x => x.1.isSome)
      && decide ((e :: es).length + ([] : List Keyword).length + (if ([] : List Keyword).isEmpty then 0 else 1) < 30)) = true := by rfl)
    (hline : (apos.endLine == cpos.line) = true := by rfl) (hs : starEach (e :: es) X.env = (false, eval e X.env) :: starEach es X.env := by rfl) (hplain : (backTo cpos (starEach es X.env)).any (·.1) = false := by rfl)
    (hK : X.K = K := by rfl) : PE X (.Call (.Attribute o name apos) (e :: es) [] cpos) (tBM K T r to t) := hK ▸ pe_bm pa slot hty hm ho ha hbase hfew hline hs hplain
def rIndexTI (K : KF) : V → List V → Hp → VK → Prop := fun x xs H Q => ∃ (a : Addr) (ns : List Int) (k : Int), x = V.ref a ∧ xs = [.int k] ∧ SqT K H a (ns.map V.int) ∧ k ∈ ns ∧ Q (.int (ns.idxOf k : Nat)) H
def rIndexLI (K : KF) : V → List V → Hp → VK → Prop := fun x xs H Q => ∃ (a : Addr) (ns : List Int) (k : Int), x = V.ref a ∧ xs = [.int k] ∧ SqL K H a (ns.map V.int) ∧ ns.length ≤ sizeLine ∧ k ∈ ns ∧ Q (.int (ns.idxOf k : Nat)) H
theorem mt_indexTI (K : KF) (hK : X.K = K := by rfl) : MtR X "tuple.index" (rIndexTI K) := by
  subst hK
  intro pins s σ H x xs v us Q I rx rs h
  obtain ⟨a, ns, k, rfl, rfl, hS, hk, q⟩ := h
  cases rx
  obtain ⟨u, rfl, t, rfl⟩ := vals1 rs
  obtain ⟨its, rv, pl, _⟩ := I.tuple hS
  exact SeqAt.tuple_index_ints pl rv.ints hk ⟨.int _, H, I.tok _, ⟨_, rfl⟩, q⟩
theorem mt_indexLI (K : KF) (hK : X.K = K := by rfl) : MtR X "list.index" (rIndexLI K) := by
  subst hK
  intro pins s σ H x xs v us Q I rx rs h
  obtain ⟨a, ns, k, rfl, rfl, hS, hl, hk, q⟩ := h
  cases rx
  obtain ⟨u, rfl, t, rfl⟩ := vals1 rs
  obtain ⟨its, rv, pl, _⟩ := I.list hS
  exact SeqAt.list_index_ints pl.isList rv.ints hl hk ⟨.int _, H, I.tok _, ⟨_, rfl⟩, q⟩
end
/-! ### inverses -/
theorem idx_get {ns : List Int} {k : Int} (h : k ∈ ns) : ns[ns.idxOf k]? = some k := by
  have l := List.idxOf_lt_length_iff.mpr h
  rw [List.getElem?_eq_getElem l, List.getElem_idxOf]
theorem idx_of {ns : List Int} {k : Int} {j : Nat} (nd : ns.Nodup) (h : ns[j]? = some k) : ns.idxOf k = j := nd_ix nd (idx_get (List.mem_of_getElem? h)) h
def invL (ns : List Int) : List Int := (iota ns.length).map fun k => ((ns.idxOf k : Nat) : Int)
theorem invL_len (ns : List Int) : (invL ns).length = ns.length := by unfold invL; rw [List.length_map, iota_len]
theorem invL_get {ns : List Int} {i : Nat} (h : i < ns.length) : (invL ns)[i]? = some ((ns.idxOf (i : Int) : Nat) : Int) := by
  unfold invL
  rw [List.getElem?_map, iota_get h]
  rfl
theorem IsNb.mem {ns : List Int} (h : IsNb ns) {z : Int} (h0 : 0 ≤ z) (h1 : z < ns.length) : z ∈ ns := h.2.2.mem_iff.mpr (iota_mem.mpr ⟨h0, h1⟩)
theorem idx_lt {ns : List Int} {z : Int} (h : z ∈ ns) : ns.idxOf z < ns.length := List.idxOf_lt_length_iff.mpr h
theorem invL_nb {ns : List Int} (h : IsNb ns) : IsNb (invL ns) := by
  refine nb_of_nodup (by rw [invL_len]; exact h.1) (by rw [invL_len]; exact h.2.1) (fun z hz => ?_) (nodup_of_get fun i j z hi hj => ?_)
  · rw [invL_len]
    unfold invL at hz
    obtain ⟨k, hk, rfl⟩ := List.mem_map.mp hz
    have := idx_lt (h.2.2.mem_iff.mpr hk)
    exact ⟨by omega, by omega⟩
  · have li : i < ns.length := by have := (List.getElem?_eq_some_iff.mp hi).1; rw [invL_len] at this; exact this
    have lj : j < ns.length := by have := (List.getElem?_eq_some_iff.mp hj).1; rw [invL_len] at this; exact this
    rw [invL_get li] at hi
    rw [invL_get lj] at hj
    have e := Option.some.inj (hi.trans hj.symm)
    have e2 : ns.idxOf (i : Int) = ns.idxOf (j : Int) := by omega
    have a := idx_get (h.mem (z := (i : Int)) (by omega) (by omega))
    have b := idx_get (h.mem (z := (j : Int)) (by omega) (by omega))
    rw [e2, b] at a
    have := Option.some.inj a
    omega
theorem mulL_get {ns ms : List Int} {i : Nat} {z : Int} (h : ms[i]? = some z) : (mulL ns ms)[i]? = some (ns.getD z.toNat 0) := by
  unfold mulL
  rw [List.getElem?_map, h]
  rfl
theorem mul_assoc' {a b c : List Int} (hb : IsNb b) (hc : IsNb c) (e : b.length = c.length) : mulL (mulL a b) c = mulL a (mulL b c) := by
  unfold mulL
  rw [List.map_map]
  refine List.map_congr_left fun z hz => ?_
  obtain ⟨i, hi⟩ := List.getElem?_of_mem hz
  have hz2 := hc.get hi
  have hg := IsNb.at (ns := b) hz2.1 (by omega)
  have := mulL_get (ns := a) hg
  unfold mulL at this
  exact getD_of this (Int.toNat_of_nonneg hz2.1).symm
theorem inv_mul {ns : List Int} (h : IsNb ns) : mulL (invL ns) ns = iota ns.length := by
  refine List.ext_getElem? fun i => ?_
  by_cases hi : i < ns.length
  · have g := List.getElem?_eq_getElem hi
    have hz := h.get g
    rw [mulL_get g, iota_get hi, getD_of (invL_get (i := (ns[i]).toNat) (by omega)) (Int.toNat_of_nonneg hz.1).symm, Int.toNat_of_nonneg hz.1, idx_of h.nodup g]
  · rw [List.getElem?_eq_none (by rw [mulL_len]; omega), List.getElem?_eq_none (by rw [iota_len]; omega)]
theorem mul_inv {ns : List Int} (h : IsNb ns) : mulL ns (invL ns) = iota ns.length := by
  refine List.ext_getElem? fun i => ?_
  by_cases hi : i < ns.length
  · rw [mulL_get (invL_get hi), iota_get hi, getD_of (idx_get (h.mem (z := (i : Int)) (by omega) (by omega))) rfl]
  · rw [List.getElem?_eq_none (by rw [mulL_len, invL_len]; omega), List.getElem?_eq_none (by rw [iota_len]; omega)]
theorem inv_of_mul {a b : List Int} (ha : IsNb a) (hb : IsNb b) (e : a.length = b.length) : invL (mulL a b) = mulL (invL b) (invL a) := by
  refine List.ext_getElem? fun i => ?_
  by_cases hi : i < a.length
  · have m1 := ha.mem (z := (i : Int)) (by omega) (by omega)
    have l1 := idx_lt m1
    have m2 := hb.mem (z := ((a.idxOf (i : Int) : Nat) : Int)) (by omega) (by omega)
    rw [invL_get (by rw [mulL_len]; omega), mulL_get (invL_get hi), getD_of (invL_get (i := a.idxOf (i : Int)) (by omega)) rfl]
    have g := mulL_get (ns := a) (idx_get m2)
    rw [getD_of (idx_get m1) rfl] at g
    rw [idx_of (mulL_nb ha hb e).nodup g]
  · rw [List.getElem?_eq_none (by rw [invL_len, mulL_len]; omega), List.getElem?_eq_none (by rw [mulL_len, invL_len]; omega)]
def spInv (K : KF) (C : Addr) : Sp := fun vs H Q _ => ∃ (a : Addr) (ns : List Int), vs = [.ref a] ∧ Numb K C H a ns ∧ IsNb ns ∧ (∀ c H', H c = none → Same H H' → Numb K C H' c (invL ns) → Q (.ref c) H')
/-- a list of drawn places -/
def spShuf : Sp := fun vs H Q _ => ∃ (t L : Addr) (c : Int) (n : Nat), vs = [.ref t, .int c] ∧ TapeL H t L n ∧ 1 ≤ c ∧ c ≤ 42 ∧ n < 2 ^ 50 ∧
  ∀ (l : Addr) (ns : List Int) (H' : Hp), H l = none → Keep t H H' → TapeL H' t L (n + 42) → H' l = some (.lst (ns.map V.int)) → ns.Perm (iota c.toNat) → Q (.ref l) H'
theorem nb_of_perm {ns : List Int} {n : Nat} (p : ns.Perm (iota n)) (h1 : 1 ≤ n) (h2 : n ≤ 12) : IsNb ns ∧ ns.length = n := by
  have l := p.length_eq
  rw [iota_len] at l
  exact ⟨⟨by omega, by omega, by rw [l]; exact p⟩, l⟩
theorem rOp2_num {K : KF} {C a b : Addr} {sp : Sp} {E : XK} {H : Hp} {Q : VK} {ns ms : List Int} (ha : Numb K C H a ns) (hb : Numb K C H b ms) (h : sp [.ref a, .ref b] H Q E) : rOp2 C sp E (.ref a) (.ref b) H Q :=
  let ⟨_, _, h1, _⟩ := ha
  let ⟨_, _, h2, _⟩ := hb
  ⟨a, _, _, b, _, _, rfl, rfl, h1, h2, h⟩
theorem era_map : ∀ (l : List Int) (j : Nat), (l.map V.int).eraseIdx j = (l.eraseIdx j).map V.int
  | [], _ => rfl
  | _ :: _, 0 => rfl
  | a :: l, j + 1 => by
    show V.int a :: (l.map V.int).eraseIdx j = V.int a :: (l.eraseIdx j).map V.int
    rw [era_map l j]
/-! ### comprehensions whose element changes nothing -/
def LcOk (J : It) (g : TG) (te : TE) (vs : List Nat) (σ : L2.St) (H1 : Hp) (D : Addr) (Qd : Hp → Prop) : Prop :=
  ∃ W : Nat → Nat → Hp → Prop, (∃ m, W 0 m (upd H1 D (.lst []))) ∧ ∀ i m H, W i m H → (J.stop i H ∧ Qd H) ∨ (J.go i H ∧
    ∃ Nx : Hp → Prop, (∀ H', Nx H' → ∃ m', m' < m ∧ W (i + 1) m' H') ∧ ∀ x H', J.yld i H x H' →
      g x (wipe σ vs) H' fun σ2 H2 => wipe σ2 vs = wipe σ vs ∧ tYes σ2 H2 fun b H3 => if b = true then te σ2 H3 fun y H4 => ∃ acc, H4 D = some (.lst acc) ∧ acc.length < sizeLine ∧ Nx (upd H4 D (.lst (acc ++ [y]))) else Nx H3)
theorem lcI_range {n : Nat} {g : TG} {te : TE} {vs : List Nat} {σ : L2.St} {H1 : Hp} {D : Addr} {Qd : Hp → Prop} (L : List V) (hL : L.length = n) (nD : H1 D = none) (hz : n ≤ sizeLine)
    (hs : ∀ (i : Nat) (z : V), i < n → L[i]? = some z → ∀ H', Same H1 H' → ∀ Q' : VK, Q' z H' → g (.int (0 + (i : Int))) (wipe σ vs) H' fun σ2 H2 => wipe σ2 vs = wipe σ vs ∧ te σ2 H2 Q')
    (hd : ∀ H', Same H1 H' → H' D = some (.lst L) → Qd H') : LcOk (Itr 0 n) g te vs σ H1 D Qd :=
  lc_range (lo := 0) (n := n) (g := g) (tt := tYes) (te := te) (vs := vs) (σ := σ) (H1 := H1) (D := D) (Qd := Qd) (fun i H' => H' D = some (.lst (L.take i)) ∧ Same H1 H') ⟨upd_same, Same.new nD⟩
    (fun i H' hi ⟨hD, s1⟩ => hs i _ hi (List.getElem?_eq_getElem (by omega)) H' s1 _ ⟨_, hD, by rw [List.length_take]; omega, by rw [upd_same, List.take_add_one, List.getElem?_eq_getElem (by omega)]; rfl, fun b o e => by
      have hb : b ≠ D := ne_of_none e nD
      rw [upd_ne hb]
      exact s1 b o e⟩)
    (fun H' ⟨hD, s1⟩ => hd H' s1 (by rw [List.take_of_length_le (by omega)] at hD; exact hD))
theorem lcI_list {K : KF} {a : Addr} {xs : List V} {g : TG} {te : TE} {vs : List Nat} {σ : L2.St} {H1 : Hp} {D : Addr} {Qd : Hp → Prop} (L : List V) (hL : L.length = xs.length) (hS : SqL K H1 a xs) (nD : H1 D = none) (hz : xs.length ≤ sizeLine)
    (hs : ∀ (i : Nat) (x z : V), xs[i]? = some x → L[i]? = some z → ∀ H', Same H1 H' → ∀ Q' : VK, Q' z H' → g x (wipe σ vs) H' fun σ2 H2 => wipe σ2 vs = wipe σ vs ∧ te σ2 H2 Q')
    (hd : ∀ H', Same H1 H' → H' D = some (.lst L) → Qd H') : LcOk (Itl K a) g te vs σ H1 D Qd :=
  lc_list (K := K) (a := a) (xs := xs) (g := g) (tt := tYes) (te := te) (vs := vs) (σ := σ) (H1 := H1) (D := D) (Qd := Qd) (fun i H' => H' D = some (.lst (L.take i)) ∧ Same H1 H') ⟨upd_same, Same.new nD⟩ (fun _ H' _ h => h.2.seq hS)
    (fun i x H' hx ⟨hD, s1⟩ => by
      have hi : i < L.length := by rw [hL]; exact (List.getElem?_eq_some_iff.mp hx).1
      exact hs i x _ hx (List.getElem?_eq_getElem hi) H' s1 _ ⟨_, hD, by rw [List.length_take]; omega, by rw [upd_same, List.take_add_one, List.getElem?_eq_getElem hi]; rfl, fun b o e => by
        have hb : b ≠ D := ne_of_none e nD
        rw [upd_ne hb]
        exact s1 b o e⟩)
    (fun H' ⟨hD, s1⟩ => hd H' s1 (by rw [List.take_of_length_le (by omega)] at hD; exact hD))
theorem lcI_tup {K : KF} {a : Addr} {xs : List V} {g : TG} {te : TE} {vs : List Nat} {σ : L2.St} {H1 : Hp} {D : Addr} {Qd : Hp → Prop} (L : List V) (hL : L.length = xs.length) (hS : SqT K H1 a xs) (nD : H1 D = none) (hz : xs.length ≤ sizeLine)
    (hs : ∀ (i : Nat) (x z : V), xs[i]? = some x → L[i]? = some z → ∀ H', Same H1 H' → ∀ Q' : VK, Q' z H' → g x (wipe σ vs) H' fun σ2 H2 => wipe σ2 vs = wipe σ vs ∧ te σ2 H2 Q')
    (hd : ∀ H', Same H1 H' → H' D = some (.lst L) → Qd H') : LcOk (Itt K a) g te vs σ H1 D Qd :=
  lc_tup (K := K) (a := a) (xs := xs) (g := g) (tt := tYes) (te := te) (vs := vs) (σ := σ) (H1 := H1) (D := D) (Qd := Qd) (fun i H' => H' D = some (.lst (L.take i)) ∧ Same H1 H') ⟨upd_same, Same.new nD⟩ (fun _ H' _ h => Same.tup h.2 hS)
    (fun i x H' hx ⟨hD, s1⟩ => by
      have hi : i < L.length := by rw [hL]; exact (List.getElem?_eq_some_iff.mp hx).1
      exact hs i x _ hx (List.getElem?_eq_getElem hi) H' s1 _ ⟨_, hD, by rw [List.length_take]; omega, by rw [upd_same, List.take_add_one, List.getElem?_eq_getElem hi]; rfl, fun b o e => by
        have hb : b ≠ D := ne_of_none e nD
        rw [upd_ne hb]
        exact s1 b o e⟩)
    (fun H' ⟨hD, s1⟩ => hd H' s1 (by rw [List.take_of_length_le (by omega)] at hD; exact hD))
theorem mapI_get {ns : List Int} {i : Nat} {x : V} (h : (ns.map V.int)[i]? = some x) : ∃ z, ns[i]? = some z ∧ x = .int z := by
  rw [List.getElem?_map] at h
  cases e : ns[i]? with
  | none => rw [e] at h; cases h
  | some z => rw [e] at h; cases h; exact ⟨z, rfl, rfl⟩
theorem Keep.num {K : KF} {t C a : Addr} {H H' : Hp} {ns : List Int} (k : Keep t H H') (ht : ∃ o, H t = some (HO.lst o)) (h : Numb K C H a ns) : Numb K C H' a ns := by
  obtain ⟨xs, ht⟩ := ht
  obtain ⟨dx, tt, h1, h2, o, h3, h4⟩ := h
  have n1 : a ≠ t := fun e => by rw [e, ht] at h1; cases h1
  have n2 : tt ≠ t := fun e => by rw [e, ht] at h3; cases h3
  have d : TupD H' tt (ns.map V.int) := ⟨o, k _ _ n2 h3, h4⟩
  exact ⟨dx, tt, k _ _ n1 h1, d.sq, d⟩
theorem tape_lst {H : Hp} {t L : Addr} {n : Nat} (h : TapeL H t L n) : ∃ xs, H t = some (HO.lst xs) := let ⟨_, _, _, _, e, _⟩ := h; ⟨_, e⟩
theorem eqS_lst {K : KF} {H : Hp} {a b : Addr} {xs ys : List V} {d : Nat} (ha : SqL K H a xs) (hb : SqL K H b ys) (hl : xs.length = ys.length) (hz : xs.length ≤ sizeLine) (h : ∀ (i : Nat) (u v : V), xs[i]? = some u → ys[i]? = some v → EqS K H d u v) : EqS K H (d + 1) (.ref a) (.ref b) :=
  .inr ⟨a, b, _, _, rfl, rfl, .inr ⟨ha, hb⟩, hl, hz, h⟩
theorem eqS_tup {K : KF} {H : Hp} {a b : Addr} {xs ys : List V} {d : Nat} (ha : SqT K H a xs) (hb : SqT K H b ys) (hl : xs.length = ys.length) (hz : xs.length ≤ sizeLine) (h : ∀ (i : Nat) (u v : V), xs[i]? = some u → ys[i]? = some v → EqS K H d u v) : EqS K H (d + 1) (.ref a) (.ref b) :=
  .inr ⟨a, b, _, _, rfl, rfl, .inl ⟨ha, hb⟩, hl, hz, h⟩
theorem at_nil {P : V → V → Prop} : ∀ (i : Nat) (u v : V), ([] : List V)[i]? = some u → ([] : List V)[i]? = some v → P u v := fun _ _ _ h => nomatch h
theorem at_cons {P : V → V → Prop} {x y : V} {xs ys : List V} (h : P x y) (t : ∀ (i : Nat) (u v : V), xs[i]? = some u → ys[i]? = some v → P u v) : ∀ (i : Nat) (u v : V), (x :: xs)[i]? = some u → (y :: ys)[i]? = some v → P u v
  | 0, _, _, e1, e2 => by
    cases (show some x = some _ from e1)
    cases (show some y = some _ from e2)
    exact h
  | i + 1, u, v, e1, e2 => t i u v e1 e2
theorem atI_getD {ns : List Int} {z : Int} (h0 : 0 ≤ z) (h1 : z < ns.length) : atI (ns.map V.int) z = some (.int (ns.getD z.toNat 0)) := by
  obtain ⟨j, rfl⟩ : ∃ j : Nat, z = (j : Int) := ⟨z.toNat, by omega⟩
  refine atI_nat ?_
  have := IsNb.at (ns := ns) (z := (j : Int)) (by omega) h1
  rw [Int.toNat_natCast] at this
  rw [List.getElem?_map, this]
  rfl
section
variable {K : KF} {C BN a b : Addr} {E : XK} {H : Hp} {Q : VK} {ns ms : List Int}
theorem rMul (ha : Numb K C H a ns) (hb : Numb K C H b ms) (hn : IsNb ns) (hm : IsNb ms) (e : ns.length = ms.length) (q : ∀ c H', H c = none → Same H H' → Numb K C H' c (mulL ns ms) → Q (.ref c) H') :
    rOp2 C (spMul K C BN) E (.ref a) (.ref b) H Q := rOp2_num ha hb ⟨a, b, ns, ms, rfl, ha, hb, hn, hm, fun _ => q, fun z => absurd e z⟩
theorem rEqN (ha : Numb K C H a ns) (hb : Numb K C H b ms) (q : Q (.bl (decide (ns = ms))) H) : rOp2 C (spEqN K C) E (.ref a) (.ref b) H Q := rOp2_num ha hb ⟨a, b, ns, ms, rfl, ha, hb, q⟩
theorem rInv (ha : Numb K C H a ns) (hn : IsNb ns) (q : ∀ c H', H c = none → Same H H' → Numb K C H' c (invL ns) → Q (.ref c) H') :
    ∃ a1 dx fs, V.ref a = .ref a1 ∧ H a1 = some (.ins C dx fs) ∧ spInv K C [V.ref a] H Q E := by
  have ha' := ha
  obtain ⟨dx, t, h1, _⟩ := ha'
  exact ⟨a, dx, _, rfl, h1, a, ns, rfl, ha, hn, q⟩
theorem rPl (ha : Numb K C H a ns) (hC : Cls K C) (hA : NoAttr K C "places") (q : ∀ t, SqT K H t (ns.map V.int) → TupD H t (ns.map V.int) → Q (.ref t) H) :
    ∃ a1 C1 dx fs v, V.ref a = .ref a1 ∧ H a1 = some (.ins C1 dx fs) ∧ Cls K C1 ∧ NoAttr K C1 "places" ∧ fs.lookup ("places" : Str) = some v ∧ Q v H := by
  obtain ⟨dx, t, h1, h2, h3⟩ := ha
  exact ⟨a, C, dx, _, _, rfl, h1, hC, hA, numF_places t, q t h2 h3⟩
end
theorem log_big {z : Int} (h : z.natAbs ≤ 10 ^ 60) : z.natAbs.log2 < 1920 := by
  by_cases h0 : z.natAbs = 0
  · rw [h0]
    decide
  · refine (Nat.log2_lt h0).mpr (Nat.lt_of_le_of_lt h (Nat.lt_of_lt_of_le (by decide : 10 ^ 60 < 2 ^ 200) (Nat.pow_le_pow_right (by decide) (by decide))))
end Ux
set_option Elab.async false
set_option linter.all false
set_option maxRecDepth 100000
set_option maxHeartbeats 2000000
/-! Uf: powers -/
namespace Ux
open PySem PySem.Spec PyProof.Rows L2
/-- an own operator beside a whole number -/
def fOpI (x m r : Str) : Fc := fun K => fOp x m K && (He.eqO (PySem.W.findIn K (.ref (He.ga K x)) r) (some none) && ((PySem.W.findIn K (.type "int") m).isSome && ((PySem.W.findIn K (.type "int") r).isSome && decide (PySem.W.subIn K (.type "int") (.ref (He.ga K x)) = some false))))
structure OpI (K : KF) (C g : Addr) (m r : Str) : Prop extends OpT K C g m where
  no : PySem.W.findIn K (.ref C) r = some none
  i1 : ∃ v, PySem.W.findIn K (.type "int") m = some v
  i2 : ∃ v, PySem.W.findIn K (.type "int") r = some v
  sb : PySem.W.subIn K (.type "int") (.ref C) = some false
theorem opI_ok {K : KF} {x m r : Str} (c : fOpI x m r K = true) : OpI K (He.ga K x) (He.ma K (He.ga K x) m) m r := by
  obtain ⟨c1, c⟩ := He.ba c
  obtain ⟨c2, c⟩ := He.ba c
  obtain ⟨c3, c⟩ := He.ba c
  obtain ⟨c4, c5⟩ := He.ba c
  exact ⟨op_ok c1, He.eqO_ok c2, Option.isSome_iff_exists.mp c3, Option.isSome_iff_exists.mp c4, of_decide_eq_true c5⟩
def rOpI (C : Addr) (sp : Sp) (E : XK) : R2 := fun x y H Q => ∃ a dx fs n, x = .ref a ∧ y = .int n ∧ H a = some (.ins C dx fs) ∧ sp [x, y] H Q E
section
variable {X : Cx} {CX : CXT} {k : Nat} {C g : Addr} {sp : Sp} {E : XK}
theorem op_powI (o : OpI X.K C g "__pow__" "__rpow__") (F : FnR X.prog X.w X.K X.mg X.base CX k g sp) (hr : Room k X.A) (hx : Passes CX X E) : OpR X (binaryOp .Pow) (rOpI C sp E) := by
  intro pins s σ H x y v u Q I rx ry ⟨a, dx, fs, n, ex, ey, ha, q⟩
  subst ex
  subst ey
  cases rx
  obtain ⟨t, rfl⟩ := ry
  obtain ⟨ox, od, J, _⟩ := ins_at I ha
  obtain ⟨m, hF⟩ := I.fr
  obtain ⟨v1, h1⟩ := o.i1
  obtain ⟨v2, h2⟩ := o.i2
  exact PySem.W.ksp_binT (op := .Pow) hF I.ok.mod.kin J rfl o.sf o.at_ o.fn o.no (.inl rfl) h1 h2 o.sb (call_ref2 (v := .int n) F hr hx I ⟨t, rfl⟩ q)
end
/-! ### powers -/
def pw (ns : List Int) : Nat → List Int
  | 0 => iota ns.length
  | m + 1 => mulL (pw ns m) ns
theorem pw_len (ns : List Int) : ∀ m, (pw ns m).length = ns.length
  | 0 => iota_len _
  | m + 1 => mulL_len _ _
theorem pw_nb {ns : List Int} (h : IsNb ns) : ∀ m, IsNb (pw ns m)
  | 0 => IsNb.iota h.1 h.2.1
  | m + 1 => mulL_nb (pw_nb h m) h (pw_len ns m)
theorem mul_iota (ns : List Int) : mulL ns (iota ns.length) = ns := by
  refine List.ext_getElem? fun i => ?_
  by_cases hi : i < ns.length
  · rw [mulL_get (iota_get hi), getD_of (List.getElem?_eq_getElem hi) rfl, List.getElem?_eq_getElem hi]
  · rw [List.getElem?_eq_none (by rw [mulL_len, iota_len]; omega), List.getElem?_eq_none (by omega)]
theorem iota_mul {ns : List Int} (h : IsNb ns) : mulL (iota ns.length) ns = ns := by
  refine List.ext_getElem? fun i => ?_
  by_cases hi : i < ns.length
  · have g := List.getElem?_eq_getElem hi
    have z := h.get g
    rw [mulL_get g, getD_of (iota_get (i := (ns[i]).toNat) (by omega)) (Int.toNat_of_nonneg z.1).symm, Int.toNat_of_nonneg z.1, g]
  · rw [List.getElem?_eq_none (by rw [mulL_len]; omega), List.getElem?_eq_none (by omega)]
theorem pw_one {ns : List Int} (h : IsNb ns) : pw ns 1 = ns := iota_mul h
theorem pw_add {ns : List Int} (h : IsNb ns) (a : Nat) : ∀ b, pw ns (a + b) = mulL (pw ns a) (pw ns b)
  | 0 => by
    show pw ns a = mulL (pw ns a) (iota ns.length)
    rw [← pw_len ns a, mul_iota]
  | b + 1 => by
    show mulL (pw ns (a + b)) ns = mulL (pw ns a) (mulL (pw ns b) ns)
    rw [pw_add h a b, mul_assoc' (pw_nb h b) h (pw_len ns b)]
def bs (ns : List Int) (n : Int) : List Int := if n < 0 then invL ns else ns
theorem bs_len (ns : List Int) (n : Int) : (bs ns n).length = ns.length := by unfold bs; split <;> simp only [invL_len]
theorem bs_nb {ns : List Int} (h : IsNb ns) (n : Int) : IsNb (bs ns n) := by
  unfold bs
  split
  · exact invL_nb h
  · exact h
def powN (ns : List Int) (n : Int) : List Int := pw (bs ns n) n.natAbs
theorem powN_len (ns : List Int) (n : Int) : (powN ns n).length = ns.length := (pw_len _ _).trans (bs_len _ _)
theorem powN_nb {ns : List Int} (h : IsNb ns) (n : Int) : IsNb (powN ns n) := pw_nb (bs_nb h n) _
theorem powN_pos (ns : List Int) (m : Nat) : powN ns (m : Int) = pw ns m := by
  unfold powN bs
  rw [if_neg (by omega), Int.natAbs_natCast]
theorem powN_neg (ns : List Int) (m : Nat) : powN ns (0 - (m : Int)) = pw (invL ns) m := by
  unfold powN bs
  cases m with
  | zero =>
    show pw ns 0 = pw (invL ns) 0
    show iota ns.length = iota (invL ns).length
    rw [invL_len]
  | succ m =>
    rw [if_pos (by omega)]
    congr 1
def spPow (K : KF) (C : Addr) : Sp := fun vs H Q _ => ∃ (a : Addr) (ns : List Int) (n : Int), vs = [.ref a, .int n] ∧ Numb K C H a ns ∧ IsNb ns ∧ (∀ c H', Same H H' → Numb K C H' c (powN ns n) → Q (.ref c) H')
theorem rPow {K : KF} {C a : Addr} {E : XK} {H : Hp} {Q : VK} {ns : List Int} {n : Int} (ha : Numb K C H a ns) (hn : IsNb ns) (q : ∀ c H', Same H H' → Numb K C H' c (powN ns n) → Q (.ref c) H') : rOpI C (spPow K C) E (.ref a) (.int n) H Q := by
  have ha' := ha
  obtain ⟨dx, t, h1, _⟩ := ha'
  exact ⟨a, dx, _, n, rfl, rfl, h1, a, ns, n, rfl, ha, hn, q⟩
end Ux
set_option Elab.async false
set_option linter.all false
set_option maxRecDepth 100000
set_option maxHeartbeats 2000000
/-! Un: the same over exceptions whose context is None -/
namespace Ux
open PySem PySem.Spec PyProof.Rows L2
inductive HdN (X : Cx) : List ExceptHandler → List Hd → Prop
  | nil : HdN X [] []
  | anon {x : Str} {c : Value} {ts : Addr → Value → Option Addr → TS} {b : Stmt} {bs : List Stmt} {p q : Pos} {more : List ExceptHandler} {l : List Hd} (hc : Names X x c)
      (hs : ∀ (a : Addr) (oe : Obj) (cls : Value) (d : Option Addr) (pn : List (Addr × Obj)), L2N.Zn cls d oe → (∃ vs, oe.data = .fields vs) → PSs (X.suite a ((a, oe) :: pn)) (b :: bs) (ts a cls d)) (r : HdN X more l) :
      HdN X (.ExceptHandler (some (.Name x p)) none (b :: bs) q :: more) ((c, none, ts) :: l)
  | named {x n : Str} {i : Nat} {c : Value} {ts : Addr → Value → Option Addr → TS} {b : Stmt} {bs : List Stmt} {p q : Pos} {more : List ExceptHandler} {l : List Hd} (hc : Names X x c) (hN : X.N.Nodup) (hi : X.N[i]? = some n) (hl : X.env.kindOf n = some .local)
      (hs : ∀ (a : Addr) (oe : Obj) (cls : Value) (d : Option Addr) (pn : List (Addr × Obj)), L2N.Zn cls d oe → (∃ vs, oe.data = .fields vs) → PSs (X.suite a ((a, oe) :: pn)) (b :: bs) (ts a cls d)) (r : HdN X more l) :
      HdN X (.ExceptHandler (some (.Name x p)) (some n) (b :: bs) q :: more) ((c, some i, ts) :: l)
section
variable {X : Cx} {body : List Stmt} {h1 : ExceptHandler} {hds : List ExceptHandler} {l : List Hd} {pos : Pos} {tb : WX → TS} {Wout : WX}
theorem ps_tryN (hst : X.stack = X.env :: X.outer) (hfr : X.env.frame = some X.env.locals) (tk : L2N.Takes X Wout)
    (hbody : ∀ (W : WX) (pn : List (Addr × Obj)) (xe : Value → Shared → Prop), L2N.Takes (X.tr pn xe) W → PassesOwn (model X.prog X.w) X.A X.env xe → PSs (X.tr pn xe) body (tb W))
    (hh : HdN X (h1 :: hds) l) : PS X (.Try body (h1 :: hds) [] [] pos) (fun D σ H => tb (wG X.K Wout D l) D σ H) := by
  refine ⟨fun pins s σ H D I h => wpAny_Try_except (wpAny_mono ((hbody (wG X.K Wout D l) (X.pn ++ pins) (fun e z => wpAny (model X.prog X.w) X.A (noteFrame e X.env) (fun _ z2 => wpAny (model X.prog X.w) X.A (setFlight e none) (fun _ z3 =>
    wpAny (model X.prog X.w) X.A (handleBy e X.env (h1 :: hds)) (SP X pins D) X.xe z3) X.xe z2) X.xe z) (fun u z xx => ?caught) PassesOwn.looking).run [] s σ H D (I.toTry _) h) (fun f z hf => ?through) (fun _ _ he => he))⟩
  case through =>
    cases f with
    | next => obtain ⟨σz, Hz, J, q⟩ := hf; exact wpAny_execs_nil ⟨σz, Hz, J.ofTry I.ok, q⟩
    | brk => obtain ⟨σz, Hz, J, q⟩ := hf; exact ⟨σz, Hz, J.ofTry I.ok, q⟩
    | cont => obtain ⟨σz, Hz, J, q⟩ := hf; exact ⟨σz, Hz, J.ofTry I.ok, q⟩
    | ret u => obtain ⟨v, σz, Hz, J, rv, q⟩ := hf; exact ⟨v, σz, Hz, J.ofTry I.ok, rv, q⟩
  case caught =>
    have okX := I.ok
    obtain ⟨a, B, sI, pins2, σ2, H2, cls, d, eu, J0, nb, up, sky, na, eos, ag, w⟩ := xx
    subst eu
    have J : Inv X pins σ2 H2 sI := J0.ofTry okX
    have frs_ : X.A.frames = some (X.env :: X.outer) := by rw [okX.frames, hst]
    have sky2 : Sky B (X.env :: X.outer) a (L2N.Zn cls d) X.env.locals z.heap := hst ▸ sky
    refine L2N.Sky.land L2N.Zn.steady frs_ hfr sky2 fun g3 fl3 up3 => ?_
    have J3 : Inv X pins σ2 H2 { z with heap := g3 } := J.landed nb fl3.1 (up.trans up3) eos ag
    obtain ⟨oe, vs, he, hz, hd⟩ := fl3.there
    have away : a ∉ frs (X.env :: X.outer) := fun hm => by
      obtain ⟨_, o2, e2, hn⟩ := fl3.2.2.1.mem hm
      rw [he] at e2
      cases e2
      exact hn _ hd
    have aL : a ≠ X.env.locals := fun y => away (List.mem_filterMap.mpr ⟨X.env, List.mem_cons_self, by rw [hfr, y]⟩)
    have aF : a ∉ X.fs := fun hm => by
      obtain ⟨e, he2, q⟩ := List.mem_filterMap.mp hm
      exact away (List.mem_filterMap.mpr ⟨e, List.mem_cons_of_mem _ he2, q⟩)
    have Su := J3.suite he hd na aL aF
    have named_ : ∀ {x : Str} {c : Value} {p : Pos} {Q E : Value → Shared → Prop}, Names X x c → Q c { z with heap := g3 } → wpAny (model X.prog X.w) (X.A.mark (some (.ref a))) (eval (.Name x p) X.env) Q E { z with heap := g3 } := fun {x c p Q E} hc q => by
      obtain ⟨hg, hdb, hm | ⟨hm, hv, hnn⟩⟩ := hc
      · exact ld_glob (X := X.suite a ((a, oe) :: (X.pn ++ pins))) Su hg hm q hdb
      · exact ld_blt (X := X.suite a ((a, oe) :: (X.pn ++ pins))) Su hg hm hv q hnn hdb
    have LT : PySem.W.Looks (model X.prog X.w) g3 (typeOf (.ref a)) cls := fun A Q E s k q => wpAny_typeOf_ref (k _ _ he) (by rw [hz.1]; exact q)
    have run : ∀ {hs : List ExceptHandler} {ls : List Hd}, HdN X hs ls → wG X.K Wout D ls cls d σ2 H2 → wpAny (model X.prog X.w) X.A (handleBy (.ref a) X.env hs) (SP X pins D) X.xe { z with heap := g3 } := by
      intro hs ls hk
      induction hk with
      | nil =>
        intro w
        obtain ⟨f1, f2, f3, o4, vs4, T4, oT4, ts4, he4, hz4, hd4, hv4, hr4⟩ := id fl3
        have fin : wpAny (model X.prog X.w) X.A (setFlight (.ref a) X.env.frame) (fun _ z4 => wpAny (model X.prog X.w) X.A (throw (.ref a) : Sem Flow) (SP X pins D) X.xe z4) X.xe { z with heap := g3 } := by
          rw [hfr]
          exact HandSPX.setFlight_upZ fl3 fun g4 hh4 up4 => wpAny_throw (tk _ _ ⟨a, B, sI, pins, σ2, H2, cls, d, rfl, J, nb, (up.trans up3).trans up4, .inr (.inr (hst ▸ hh4)), na, eos, ag, w⟩)
        refine wpAny_handleBy_nil ?_
        unfold PySem.passOn
        refine wpAny_bind (wpAny_field he4 hd4 hv4 ?_)
        rw [if_neg (show ¬ ((Value.ref T4 == Value.none) = true) by simp)]
        first
          | exact wpAny_bind (wpAny_pure (wpAny_bind fin))
          | exact wpAny_bind fin
      | @anon x c ts b bs p q more l hc hs r ih =>
        intro w
        obtain ⟨t, ht, yes, no⟩ := w
        refine wpAny_handleBy_cons (codeAny_handlers_test (named_ hc ((PySem.W.exm_one (M := model X.prog X.w) J3.kIn LT ht).here ?_))) (by intro y; cases y)
        cases t with
        | false => exact ih (no rfl)
        | true =>
          refine codeAny_handlers_suite (HandSPX.lands_againZ fl3 fun g4 fl4 up4 => ?_)
          have J4 : Inv X pins σ2 H2 { z with heap := g4 } := J.landed nb fl4.1 ((up.trans up3).trans up4) eos ag
          obtain ⟨o4, vs4, he4, hz4, hd4⟩ := fl4.there
          refine wpAny_mono ((hs a o4 cls d (X.pn ++ pins) hz4 ⟨_, hd4⟩).run [] _ _ H2 _ (J4.suite he4 hd4 na aL aF) (yes rfl a na)) (fun f z6 hf => ?_) (fun _ _ y => False.elim y)
          cases f with
          | next => obtain ⟨σ6, H6, S6, q6⟩ := hf; exact ⟨σ6, H6, S6.unsuite okX, q6⟩
          | brk => obtain ⟨σ6, H6, S6, q6⟩ := hf; exact ⟨σ6, H6, S6.unsuite okX, q6⟩
          | cont => obtain ⟨σ6, H6, S6, q6⟩ := hf; exact ⟨σ6, H6, S6.unsuite okX, q6⟩
          | ret u => obtain ⟨v6, σ6, H6, S6, r6, q6⟩ := hf; exact ⟨v6, σ6, H6, S6.unsuite okX, r6, q6⟩
      | @named x n i c ts b bs p q more l hc hN hi hl hs r ih =>
        intro w
        obtain ⟨t, ht, yes, no⟩ := w
        refine wpAny_handleBy_cons (codeAny_handlers_test (named_ hc ((PySem.W.exm_one (M := model X.prog X.w) J3.kIn LT ht).here ?_))) (by intro y; cases y)
        cases t with
        | false => exact ih (no rfl)
        | true =>
          refine codeAny_handlers_suite_as (HandSPX.lands_againZ fl3 fun g4 fl4 up4 => ?_)
          have J4 : Inv X pins σ2 H2 { z with heap := g4 } := J.landed nb fl4.1 ((up.trans up3).trans up4) eos ag
          obtain ⟨o4, vs4, he4, hz4, hd4⟩ := fl4.there
          refine store_ok (X := X.suite a ((a, o4) :: (X.pn ++ pins))) (v := .ref a) (J4.suite he4 hd4 na aL aF) hN hi (.inl hl) rfl (fun z5 S5 => ?_) (.inr hl)
          refine wpAny_mono ((hs a o4 cls d (X.pn ++ pins) hz4 ⟨_, hd4⟩).run [] z5 _ H2 _ S5 (yes rfl a na)) (fun f z6 hf => ?_) (fun _ _ y => False.elim y)
          have gone : ∀ {σ6 : L2.St} {H6 : Hp} {Q : Shared → Prop}, Inv (X.suite a ((a, o4) :: (X.pn ++ pins))) [] σ6 H6 z6 → (∀ z7, Inv X pins (σ6.set i none) H6 z7 → Q z7) →
              wpAny (model X.prog X.w) X.A (do bindName X.env n .none; unbindBehindTheSuite X.env n q) (fun _ z7 => Q z7) X.xe z6 := fun {σ6 H6 Q} S6 hq => gone_ok (S6.unsuite okX) hN hi hl hq
          cases f with
          | next => obtain ⟨σ6, H6, S6, q6⟩ := hf; exact gone S6 fun z7 J7 => ⟨_, _, J7, q6⟩
          | brk => obtain ⟨σ6, H6, S6, q6⟩ := hf; exact gone S6 fun z7 J7 => ⟨_, _, J7, q6⟩
          | cont => obtain ⟨σ6, H6, S6, q6⟩ := hf; exact gone S6 fun z7 J7 => ⟨_, _, J7, q6⟩
          | ret u => obtain ⟨v6, σ6, H6, S6, r6, q6⟩ := hf; exact gone S6 fun z7 J7 => ⟨_, _, _, J7, r6, q6⟩
    exact run hh w
end
theorem passLN {X : Cx} : Passes (L2N.CX X.prog X.w) X E0 := fun _ _ _ _ _ _ _ h => by
  obtain ⟨_, _, _, _, _, _, _, _, _, _, _, _, z⟩ := h
  exact z.elim
theorem takes0N {X : Cx} : L2N.Takes X (fun _ _ _ _ => False) := fun _ _ x => by
  obtain ⟨_, _, _, _, _, _, _, _, _, _, _, _, _, _, _, _, z⟩ := x
  exact z.elim
section
variable {X : Cx}
theorem pmk_own1N {C : Addr} {bmB : List Value} {B newId initId : String} {x : Str} {e : Expr} {ta : TE} {p pos : Pos} (F : ExcBaseFacts B newId initId bmB) (q : PySem.W.excIn X.K C bmB newId = true) (gC : X.mg x = some (.ref C))
    (kC : PySem.W.keepIn X.K (.ref C) = true) (r : Raises X (.ref C)) (hg : Gl X x) (he : PE X e ta) (hs : starEach [e] X.env = (false, eval e X.env) :: starEach [] X.env := by rfl) (hdb : (x == ("__debug__" : Str)) = false := by decide) :
    L2N.PMk X (.Call (.Name x p) [e] [] pos) (fun σ H Q => ta σ H fun _ H1 => Q (.ref C) none H1) := by
  intro pins s σ H Q I h
  refine wpAny_Call_Name_kw (ld_glob I hg gC (PySem.W.callWith_K (h₀ := X.base) I.ok.mod.kin kC ?_ hs (by rfl)) hdb)
  rw [hs]
  refine Calls.spliced_cons (thn (he.run pins s σ H _ I h) fun u s1 ⟨v, H1, I1, r1, q1⟩ => Calls.spliced_nil ⟨I1.kIn, ?_⟩)
  show wpAny _ _ (call (.ref C) [u]) _ _ _
  obtain ⟨bm, N, nm, qn, bs, hdct, sn, sub, ab, col, dd, k0, k1, k2, k3, k5, mN, hC, hN, hni, T⟩ := exc_obj I1.kIn q
  exact wpAny_call_exc_subT F T hC hN hni (fun h' e hm => L2N.mk_of I1 hm r q1 (I1.hok.gone hm.new)) (by show 1 ≤ sizeLine; rw [sizeLine_eq]; omega)
end
/-! ### defs called within a suite -/
def FnHR (P : Program) (w : World) (K : KF) (mg : Str → Option Value) (base : Heap) (CX : CXT) (k : Nat) (f : Addr) (sp : Sp) : Prop := ∃ fd ps, L2H.FnH P w K mg base CX k f fd ps sp ∧ Binds K fd ps []
section
variable {P : Program} {w : World} {K : KF} {mg : Str → Option Value} {base : Heap} {x qual : Str} {params : Arguments} {body : List Stmt} {scope : Scope} {kws : List (Str × V)} {f : Addr} {fd : FuncData}
theorem fnh_of {CX : CXT} {N ps : List Str} {k : Nat} {sp : Sp} (F : FunD K x qual params body scope [] kws f fd) (S : FnScope N ps scope)
    (hb : ∀ (kV doc pm : Value) (an : Option Addr) (cdv ct : Value) (us : List Value), us.length = ps.length → bindArgs (PySem.W.fnOf x qual params body scope .none kV doc pm an cdv ct) ⟨us, []⟩ = pure (ps.zip us))
    (len : ∀ vs H Q E, sp vs H Q E → vs.length = ps.length)
    (hbody : ∀ (cdv : Value) (A : Around) (outer : List Env) (s : Shared) (H : Hp) (vs : List V) (Q : VK) (E : XK) (p : Addr × Obj), L2H.Hot1 A p → L2H.RoomH k (A.deeper (envOfC qual scope s.heap.objs.size f cdv)) → sp vs H Q E →
      ∃ t, PSs (L2H.cxH CX P w K mg base N qual scope f cdv A outer s H E p) body t ∧ t { nx := fun _ H' => Q .non H', rt := Q } (L2.start N vs) H) : FnHR P w K mg base CX (k + 1) f sp := by
  have bi := F.bindsN hb
  obtain ⟨oc, od, dV, kV, doc, pm, an, cdv, ct, osl, e, lk, hcd, _, _⟩ := F.ex
  subst e
  exact ⟨_, ps, L2H.fn_ofH lk hcd S len fun A outer s H vs Q E p hot hr h => hbody cdv A outer s H vs Q E p hot hr h, bi⟩
theorem fnh_false {CX : CXT} {k : Nat} (F : ∃ sp, FnHR P w K mg base CX k f sp) : FnHR P w K mg base CX k f (fun _ _ _ _ => False) :=
  let ⟨_, fd, ps, G, b⟩ := F
  ⟨fd, ps, ⟨fun _ _ _ _ h => h.elim, fun _ _ _ _ _ _ _ _ _ _ _ _ _ _ _ _ h => h.elim⟩, b⟩
theorem FnHR.imp {CX : CXT} {k : Nat} {sp sp' : Sp} (F : FnHR P w K mg base CX k f sp) (h : ∀ vs H Q E, sp' vs H Q E → sp vs H Q E) : FnHR P w K mg base CX k f sp' :=
  let ⟨fd, ps, G, b⟩ := F
  ⟨fd, ps, ⟨fun vs H Q E z => G.len vs H Q E (h _ _ _ _ z), fun A outer s H args us vs Q E p r1 r2 r3 r4 r5 r6 z => G.run A outer s H args us vs Q E p r1 r2 r3 r4 r5 r6 (h _ _ _ _ z)⟩, b⟩
end
section
variable {X : Cx} {k : Nat} {f : Addr} {sp : Sp} {x : Str} {e : Expr} {es : List Expr} {t : TA} {q pos : Pos}
theorem pe_callHR (F : FnHR X.prog X.w X.K X.mg X.base CX0 k f sp) (hr : L2H.RoomH k X.A) (hc : L2H.HotC X) (hg : Gl X x) (hm : X.mg x = some (.ref f)) (hk : PySem.W.keepIn X.K (.ref f) = true) (ha : PA X (e :: es) t)
    (hdb : (x == ("__debug__" : Str)) = false := by decide) (he : starEach (e :: es) X.env = (false, eval e X.env) :: starEach es X.env := by rfl) (hpl : (backTo pos (starEach es X.env)).any (·.1) = false := by rfl) :
    PE X (.Call (.Name x q) (e :: es) [] pos) (tCallS sp (fun _ => E0) t) :=
  let ⟨_, _, G, b⟩ := F
  L2H.pe_callH G hr hc hg hm hk b (fun _ _ _ _ _ _ _ h => h.elim) ha hdb he hpl
theorem hot_suite {a : Addr} {oe : Obj} {cls : Value} {d : Option Addr} {pn : List (Addr × Obj)} (hz : L2N.Zn cls d oe) (hf : ∃ vs, oe.data = .fields vs) : L2H.HotC (X.suite a ((a, oe) :: pn)) :=
  let ⟨vs, h⟩ := hf
  ⟨(a, oe), ⟨rfl, vs, h, hz.2.2 vs h⟩, List.mem_cons_self⟩
theorem room_suite {a : Addr} {pn : List (Addr × Obj)} (hr : Room k X.A) : L2H.RoomH k (X.suite a pn).A := ⟨hr.dp, hr.un⟩
end
end Ux
set_option Elab.async false
set_option linter.all false
set_option maxRecDepth 100000
set_option maxHeartbeats 4000000
/-! Uw: own errors whose __init__ hands a text to super().__init__ and keeps its argument -/
namespace SuX
open PySem PySem.W PySem.Calls PyProof.Rows PySem.HandSPX
/-- the program's file, and that its top has no name super -/
class POk (P : Program) : Prop where
  top : (P.main.scope.names.lookup ("super" : Str)).isSome = false
/-- a value that an own error keeps -/
def Fine (v : Value) : Prop := (∃ i t, v = .int i t ∧ i.natAbs.log2 < 1920) ∨ ∃ (y : Str) (t : Tok), v = .str y t ∧ y.length ≤ 2000
theorem call_mw {prog : Program} {w : World} {A : Around} {E : Value → Shared → Prop} {h : Heap} {g : Array GenState} {d : Drawn} {tk : Nat} {os : OsState} {B i newId : String} {bmB : List Value}
    {nm q : Str} {C N : Addr} {bs bm : List Value} {hdct : Bool} {sn : List Str} {sub : List Value} {ab : Bool} {col : Option Bool} {dd : Option Addr} {k0 k1 k2 k3 k5 : Option Value}
    (FB : ExcBaseFacts B newId i bmB) {u e t0 : Addr} {rest : List Value} {Q : Value → Shared → Prop}
    (hC : h.get? C = some (excClassObj nm q C N bs bm hdct sn sub ab col dd k0 k1 k2 k3 k5 newId)) (he : h.get? e = some (excO C t0)) (hu : h.get? u = some (kxs_mw i e)) (hz : rest.length ≤ sizeLine)
    (hq : ∀ h' t1, (∀ b o, b ≠ e → h.get? b = some o → h'.get? b = some o) → h'.get? e = some (excO C t1) → Q .none ⟨h', g, d, tk, os⟩) :
    wpAny (model prog w) A (call (.ref u) rest) Q E ⟨h, g, d, tk, os⟩ := by
  refine wpAny_call (codeAny_of_tree ?_)
  show wpAny _ A.in1 (callAny (.ref u) ⟨rest, []⟩) _ _ _
  simp only [callAny]
  refine wpAny_bind (wpAny_load hu ?_)
  simp only [kxs_mw, show (Value.type "method-wrapper" == Value.type "method" || Value.type "method-wrapper" == Value.type "builtin_function_or_method" || Value.type "method-wrapper" == Value.type "method-wrapper") = true by decide, if_true]
  refine KFB.if_so (by decide) ?_
  refine wpAny_bind (check_bound_init FB.toExcCallFacts hC he rfl ?_)
  refine wpAny_bind (wpAny_pure (wpAny_pure ?_))
  refine ⟨plainId_quiet FB.init.plain _, codeAny_builtin FB.initEntry ?_⟩
  exact exc_init_tree (cls := .ref C) (t0 := t0) (dv := none) (c2 := .none) (c3 := .none) (b4 := .bool false) he hz fun h' k e' _ => hq h' _ k e'


/-! ### the argument of super().__init__ -/
def JOk (fld : Str) (J : Expr) (v : Value) : Prop := ∀ {prog : Program} {w : World} {A : Around} {E : Value → Shared → Prop} {s : Shared} {Q : Value → Shared → Prop} {env : Env} {m : Str → Option Value},
  env.scope.kind = .function → env.kindOf fld = some .local → s.heap.Ns env.locals m → m fld = some v → (fld == ("__debug__" : Str)) = false → (∀ y tk n, Q (.str y tk) { s with toks := n }) → wpAny (model prog w) A (eval J env) Q E s
section
variable {prog : Program} {w : World} {A : Around} {E : Value → Shared → Prop} {s : Shared} {env : Env} {fld : Str} {v : Value} {m : Str → Option Value}
/-- {x} and {x!r} of such a value -/
theorem fld_run {p2 p3 : Pos} {Q : Value → Shared → Prop} (hv : Fine v) (hk : env.scope.kind = .function) (hl : env.kindOf fld = some .local) (hn : s.heap.Ns env.locals m) (hm : m fld = some v) (hd : (fld == ("__debug__" : Str)) = false)
    (hq : ∀ y tk n, y.length ≤ 2000 → Q (.str y tk) { s with toks := n }) : wpAny (model prog w) A (eval (.FormattedValue (.Name fld p2) (-1) none p3) env) Q E s := by
  refine wpAny_FormattedValue_plain (wpAny_Name (wpAny_loadName_local hk hl hn hm ?_) hd)
  rcases hv with ⟨i, t, rfl, hi⟩ | ⟨y, t, rfl, hy⟩
  · exact wpAny_formatField_int hi (hq _ _ _ (Ux.text_len hi))
  · exact wpAny_formatField_str (hq y t s.toks hy) (hq _ _ _ hy) (by rw [sizeLine_eq]; omega)
theorem lit_run {k : Nat} {z : Str} {pos : Pos} {Q : Value → Shared → Prop} (hq : ∀ tk n, Q (.str z tk) { s with toks := n }) : wpAny (model prog w) A (eval (.Constant (.str z) k pos) env) Q E s := wpAny_Constant_str (hq _ _)
theorem jlen {a b : Str} {n : Nat} (ha : a.length ≤ n) (hb : b.length ≤ 2000) : (a ++ b).length ≤ n + 2000 := by
  rw [Ux.app_len]
  omega
theorem ez : Str.empty.length ≤ 0 := Nat.le_refl _
theorem sz {n : Nat} {a : Str} (h : a.length ≤ n) (hn : n ≤ 100000 := by decide) : a.length ≤ sizeLine := by
  rw [sizeLine_eq]
  omega
theorem jok_one {z : Str} {k : Nat} {p1 p2 p3 p4 : Pos} (hz : z.length ≤ 2000) (hv : Fine v) : JOk fld (.JoinedStr [.Constant (.str z) k p1, .FormattedValue (.Name fld p2) (-1) none p3] p4) v := by
  intro prog w A E s Q env m hk hl hn hm hd hq
  refine wpAny_JoinedStr ?_
  refine lit_run fun tk n => ⟨_, tk, rfl, sz (jlen ez hz), ?_⟩
  refine fld_run hv hk hl hn hm hd fun y tk n hy => ⟨_, tk, rfl, sz (jlen (jlen ez hz) hy), ⟨sz (jlen (jlen ez hz) hy), hq _ _ _⟩⟩
theorem jok_two {z z2 : Str} {k k2 : Nat} {p1 p2 p3 p4 p5 : Pos} (hz : z.length ≤ 2000) (hz2 : z2.length ≤ 2000) (hv : Fine v) : JOk fld (.JoinedStr [.Constant (.str z) k p1, .FormattedValue (.Name fld p2) (-1) none p3, .Constant (.str z2) k2 p5] p4) v := by
  intro prog w A E s Q env m hk hl hn hm hd hq
  refine wpAny_JoinedStr ?_
  refine lit_run fun tk n => ⟨_, tk, rfl, sz (jlen ez hz), ?_⟩
  refine fld_run hv hk hl hn hm hd fun y tk n hy => ⟨_, tk, rfl, sz (jlen (jlen ez hz) hy), ?_⟩
  refine lit_run fun tk n => ⟨_, tk, rfl, sz (jlen (jlen (jlen ez hz) hy) hz2), ⟨sz (jlen (jlen (jlen ez hz) hy) hz2), hq _ _ _⟩⟩
theorem jok_rep {z y : Str} {t : Tok} {k : Nat} {p1 p2 p3 p4 : Pos} (hz : z.length ≤ 2000) (hv : (reprText y).length ≤ 20000) : JOk fld (.JoinedStr [.Constant (.str z) k p1, .FormattedValue (.Name fld p2) 114 none p3] p4) (.str y t) := by
  intro prog w A E s Q env m hk hl hn hm hd hq
  refine wpAny_JoinedStr ?_
  refine lit_run fun tk n => ⟨_, tk, rfl, sz (jlen ez hz), ?_⟩
  have h1 : (Str.empty ++ z ++ reprText y).length ≤ sizeLine := by
    rw [Ux.app_len, Ux.app_len, sizeLine_eq]
    have : Str.empty.length = 0 := rfl
    omega
  refine wpAny_FormattedValue_repr (wpAny_Name (wpAny_loadName_local hk hl hn hm ?_) hd)
  have h2 : (reprText y).length ≤ sizeLine := by rw [sizeLine_eq]; omega
  exact pyReprObj_str (wpAny_formatField_str ⟨_, _, rfl, h1, h1, hq _ _ _⟩ ⟨_, _, rfl, h1, h1, hq _ _ _⟩ h2) h2
end

/-! ### what the written part says of such a class -/
structure ErrT (K : Frag) (mg : Str → Option Value) (x fld : Str) (params : Arguments) (J : Expr) (sc : Scope) (body : List Stmt) (qual : Str) (C fI : Addr) : Prop where
  gC : mg x = some (.ref C)
  cls : ∃ nm q N bs bm sn sub ab col dd k0 k1 k2 k3 k5, K.lookup C = some (excClassObj nm q C N bs bm true sn sub ab col dd k0 k1 k2 k3 k5 "ValueError.__new__") ∧ refsVE bm = true ∧ alongIn K "__init__" bm = some (some (.builtin "ValueError.__init__"))
  sa : findIn K (.ref C) "__setattr__" = some (some (.builtin "object.__setattr__"))
  noN : findIn K (.ref C) fld = some none
  iC : findIn K (.ref C) "__init__" = some (some (.ref fI))
  tC : typeIn K (.ref fI) = some (.type "function")
  kC : keepIn K (.ref C) = true
  exC : subIn K (.ref C) (.type "BaseException") = some true
  veC : subIn K (.ref C) (.type "ValueError") = some true
  slf : mroIn K C (.ref C) = some true
  tyC : typeIn K (.ref C) = some (.type "type")
  opq : nsIn K cStatics "thirdparty.any" = some none
  fn : ∃ (oc : Value) (od : Option Addr) (kV doc pm : Value) (an : Option Addr) (cda cc : Addr) (ct : Value) (osl : Array (Option Value)),
    K.lookup fI = some ⟨oc, od, .func (ksFn "__init__" qual params body sc .none kV doc pm an (.ref cda) ct cc), osl⟩ ∧ codeIn K (.ref cda) qual = true ∧
    (∃ (ccl : Value) (cdd : Option Addr) (vs : Array Value) (ccs : Array (Option Value)) (tf : Tok) (file : Str), K.lookup cda = some ⟨ccl, cdd, .fields vs, ccs⟩ ∧ vs[2]? = some (.str file tf) ∧ file = "/claim/cut.py") ∧
    (∃ (cl : Value) (cld : Option Addr) (csl : Array (Option Value)), K.lookup cc = some ⟨cl, cld, .cell (some (.ref C)), csl⟩)
/-- what the text is -/
structure ErrX (fld qual : Str) (params : Arguments) (J : Expr) (sc : Scope) (body : List Stmt) : Prop where
  bdy : ∃ p0 p1 p2 p3 p4 q1 q2 q3 q4, body = [.Expr (.Call (.Attribute (.Call (.Name "super" p0) [] [] p1) "__init__" p2) [J] [] p3) p4, .Assign [.Attribute (.Name "self" q1) fld q2] (.Name fld q3) q4] ∧
    ∀ (L f cc : Addr) (cd : Value), interactive (ksEnv qual sc L f cd cc) = false ∧ swapsWith (.Call (.Attribute (.Call (.Name "super" p0) [] [] p1) "__init__" p2) [J] [] p3) none p4.line (ksEnv qual sc L f cd cc) = pure false ∧
      swapsWith (.Name fld q3) (some (.Attribute (.Name "self" q1) fld q2)) q4.line (ksEnv qual sc L f cd cc) = pure false ∧
      ∃ pl : Sem Bool, eval (.Call (.Attribute (.Call (.Name "super" p0) [] [] p1) "__init__" p2) [J] [] p3) (ksEnv qual sc L f cd cc) = (do
        let ov ← attributeBase (.Call (.Name "super" p0) [] [] p1) "__init__" (ksEnv qual sc L f cd cc) (eval (.Call (.Name "super" p0) [] [] p1) (ksEnv qual sc L f cd cc))
        standAt p2.atName
        let (f', first) ← holding [ov] (getMethod ov "__init__" pl)
        callWith p3 f' first (backTo p3 (starEach [J] (ksEnv qual sc L f cd cc))) []) ∧
      starEach [J] (ksEnv qual sc L f cd cc) = [(false, eval J (ksEnv qual sc L f cd cc))] ∧ (backTo p3 (starEach [J] (ksEnv qual sc L f cd cc))).any (·.1) = false ∧ backTo p3 [(false, eval J (ksEnv qual sc L f cd cc))] = (false, eval J (ksEnv qual sc L f cd cc)) :: backTo p3 []
  bnd : ∀ (kV doc pm : Value) (an : Option Addr) (cdv ct : Value) (cc : Addr) (a v : Value), bindArgs (ksFn "__init__" qual params body sc .none kV doc pm an cdv ct cc) ⟨[a, v], []⟩ = pure [(("self" : Str), a), (fld, v)]
  par : ∃ a1 a2, params = { posonlyargs := [], args := [a1, a2], vararg := none, kwonlyargs := [], kw_defaults := [], kwarg := none, defaults := [] } ∧ a1.arg = "self"
  k : sc.kind = .function
  co : sc.isCoroutine = false
  ge : sc.isGenerator = false
  s1 : sc.names.lookup ("self" : Str) = some NameKind.local
  s2 : sc.names.lookup fld = some NameKind.local
  s3 : sc.names.lookup ("super" : Str) = some NameKind.globalImplicit
  s4 : sc.names.lookup ("__class__" : Str) = some NameKind.free
  nc : ∀ x ∈ sc.names, x.2 ≠ NameKind.cell
  ne : (fld == ("self" : Str)) = false
  db : (fld == ("__debug__" : Str)) = false
/-- what __init__ leaves of a fresh exception at x -/
structure InitEnd (h h' : Heap) (x C dx t1 : Addr) (fld : Str) (v : Value) : Prop where
  keep : ∀ b o, b ≠ x → h.get? b = some o → h'.get? b = some o
  obj : h'.get? x = some { cls := .ref C, dict := some dx, data := .fields #[.ref t1, .none, .none, .none, .bool false, .none] }
  dbig : h.objs.size ≤ dx
  dne : dx ≠ x
  ns : h'.Ns1 dx (fun y => if y = fld then some v else none)
structure OwnMade (h h' : Heap) (e C d : Addr) (fld : Str) (v : Value) : Prop where
  keep : ∀ b o, h.get? b = some o → h'.get? b = some o
  new : h.objs.size ≤ e
  obj : ∃ oe vs, h'.get? e = some oe ∧ oe.cls = .ref C ∧ oe.dict = some d ∧ oe.data = .fields vs ∧ vs[1]? = some .none ∧ PXN.CtxN oe
  dbig : h.objs.size ≤ d
  dne : d ≠ e
  ns : h'.Ns1 d (fun y => if y = fld then some v else none)
theorem one_size (v : Value) : [v].length ≤ sizeLine := by
  rw [sizeLine_eq]
  exact (by decide : 1 ≤ 16777216)
theorem drop_own (C : Addr) (l : List Value) : ((Value.ref C :: l).dropWhile (· != .ref C)).drop 1 = l := by
  simp [List.dropWhile_cons]
section
variable {prog : Program} {w : World} {A : Around} {E : Value → Shared → Prop} {R : Result → Shared → Prop} {s : Shared} {K : Frag} {mg : Str → Option Value} {x fld qual : Str} {params : Arguments} {J : Expr} {sc : Scope} {body : List Stmt} {C fI : Addr}
theorem err_init (T : ErrT K mg x fld params J sc body qual C fI) (Z : ErrX fld qual params J sc body) (hP : POk prog) (hfile : prog.main.file = "/claim/cut.py") {xa t0 : Addr} {v : Value} (hJ : JOk fld J v) (X : K.In s.heap) (hlim : s.heap.NoLimit)
    (hG : s.heap.Ns mainGlobals mg) (hsup : mg "super" = none) (hB : ∃ mb, s.heap.Ns builtinsNs mb ∧ mb "super" = some (.type "super"))
    (hx : s.heap.get? xa = some (excO C t0)) (hnx : K.lookup xa = none) (hroom : A.depth < recursionLimit)
    (hq : ∀ h' tk dx t1, InitEnd s.heap h' xa C dx t1 fld v → R (.ok (.ret .none)) { s with heap := h', toks := tk }) :
    codeAny (model prog w) A (.call (.ref fI) ⟨[.ref xa, v], []⟩) R s := by
  obtain ⟨oc, od, kV, doc, pm, an, cda, cc, ct, osl, ho, hcd, ⟨ccl, cdd, vs, ccs, tf, file, hcode, hvs, hfl⟩, cl, cld, csl, hcell⟩ := T.fn
  obtain ⟨nm, q, N, bs, bm, sn, sub, ab, col, dd, k0, k1, k2, k3, k5, hC, hbm, hal⟩ := T.cls
  have hcl : clsIn K C = some { name := nm, bases := bs, mro := .ref C :: bm, ns := N, qualname := q, hasDict := true, slotNames := sn, subclasses := sub, abstract := ab, collection := col, hasDel := false } := by unfold clsIn; rw [hC] <;> rfl
  obtain ⟨p0, p1, p2, p3, p4, q1, q2, q3, q4, hbody, henv⟩ := Z.bdy
  obtain ⟨a1, a2, hpar, ha1⟩ := Z.par
  have hbind := BindsTo.of_eq (s := s) (Z.bnd kV doc pm an (.ref cda) ct cc (.ref xa) v)
  subst hpar
  subst hbody
  obtain ⟨hint, hsw1, hsw2, pl, hcal, hst, hpla, hbk⟩ := henv s.heap.objs.size fI cc (.ref cda)
  refine ks_codeAny_call_defAt hroom (X _ _ ho) rfl hlim (codeRec_of X hcd) rfl hbind Z.nc ?_ (fun h₁ hns hk₁ => ?_) Z.co Z.ge Z.k
  · intro y hy
    rcases List.mem_cons.mp hy with rfl | hy
    · exact Z.s1
    · rw [List.mem_singleton.mp hy]
      exact Z.s2
  have X₁ : K.In h₁ := X.keeps hk₁
  have hx₁ := hk₁ _ _ hx
  have hxC : xa ≠ C := fun z => by rw [z, hC] at hnx; cases hnx
  have mself : (fun y => ([(("self" : Str), Value.ref xa), (fld, v)].reverse).lookup y) "self" = some (.ref xa) := by
    have e : (("self" : Str) == fld) = false := by
      rw [Bool.eq_false_iff]
      intro z
      have := Z.ne
      rw [(beq_iff_eq.mp z).symm] at this
      simp at this
    simp [List.lookup, e]
  have mfld : (fun y => ([(("self" : Str), Value.ref xa), (fld, v)].reverse).lookup y) fld = some v := by simp [List.lookup]
  show _root_.PySem.wpAt (model prog w) (A.deeper (ksEnv qual sc s.heap.objs.size fI (.ref cda) cc)) (.func _ (ksEnv qual sc s.heap.objs.size fI (.ref cda) cc)) (execs _ (ksEnv qual sc s.heap.objs.size fI (.ref cda) cc)) _ _ _
  refine ks_wpAt_execs_cons (ks_wpAt_Expr_any (ks_wpAt_MethodCall (pl := pl) ?_ hcal) hint hsw1)
  refine ks_wpAt_super_base (env := ksEnv qual sc s.heap.objs.size fI (.ref cda) cc) Z.s3 Z.s4 (by decide) rfl (X₁ _ _ ho) rfl rfl rfl (X₁ _ _ hcode) rfl hvs (by rw [hfile, hfl]; decide) hP.top ?_
  obtain ⟨mb, hmb, hmbs⟩ := hB
  refine ks_loadName_global Z.k Z.s3 (loadGlobal_builtin (env := ksEnv qual sc s.heap.objs.size fI (.ref cda) cc) (hG.keeps hk₁) hsup (hmb.keeps hk₁) hmbs ⟨rfl, ?_⟩)
  refine wpAny_loadName_free Z.k Z.s4 rfl ⟨_, X₁ _ _ hcell, rfl⟩ ?_
  rw [ha1]
  refine wpAny_loadName_local Z.k Z.s1 hns mself ?_
  refine ks_wpAny_isType_cls (X₁ _ _ hC) rfl ⟨rfl, ?_⟩
  refine ks_wpAny_call_super (X₁ _ _ hC) rfl hx₁ rfl (fun c e => by cases e) (looks_mroIn X₁ T.slf) (fun h₂ e₂ k₂ => ?_)
  have X₂ : K.In h₂ := X₁.keeps k₂
  have hx₂ := k₂ _ _ hx₁
  have I₂ : InstAt h₂ xa (excO C t0) C none := ⟨hx₂, rfl, rfl, trivial⟩
  refine kxs_getMethod kxs_ValueError e₂ (looks_opaque X₂ T.opq) (l₀ := .ref C :: bm) (fun A Q E s k q => wpAny_bind ((looks_clsIn X₂ hcl) A _ E s k (wpAny_pure q))) (drop_own C bm) X₂ hal (I₂.type.andThen (looks_subIn X₂ T.veC)) hxC (by decide) ?_
  have k₃ : ∀ b o, h₂.get? b = some o → (h₂.push (kxs_mw "ValueError.__init__" xa)).get? b = some o := fun b o e => Heap.get?_push_of_some _ e
  refine kxs_callWith (i := "ValueError.__init__") (x := xa) hpla ?_
  rw [hst, hbk]
  refine evalArgs_plain ?_
  refine Calls.spliced_cons ?_
  refine hJ (env := ksEnv qual sc s.heap.objs.size fI (.ref cda) cc) Z.k Z.s2 ((hns.keeps k₂).keeps k₃) mfld Z.db fun y tk n => ?_
  refine Calls.spliced_nil ⟨Heap.get?_push_at rfl rfl, ?_⟩
  have X₃ : K.In (h₂.push (kxs_mw "ValueError.__init__" xa)) := X₂.keeps k₃
  refine call_mw F.excBase_ValueError (X₃ _ _ hC) (k₃ _ _ hx₂) (Heap.get?_push_at rfl rfl) (one_size _) fun h₄ t1 k₄ hx₄ => ?_
  have X₄ : K.In h₄ := fun a o e => k₄ a o (fun z => by rw [z, hnx] at e; cases e) (X₃ _ _ e)
  have hL : s.heap.objs.size ≠ xa := Nat.ne_of_gt (Heap.lt_size hx)
  have hns₄ : h₄.Ns s.heap.objs.size (fun y => ([(("self" : Str), Value.ref xa), (fld, v)].reverse).lookup y) := ((hns.keeps k₂).keeps k₃).at fun o e => k₄ _ o hL e
  refine wpAt_of_wpAny (wpAny_execs_cons (plainObj_wpAny_Assign_Attribute ?_ hsw2))
  refine wpAny_Name (wpAny_loadName_local Z.k Z.s2 hns₄ mfld ?_) Z.db
  refine wpAny_Name (wpAny_loadName_local Z.k Z.s1 hns₄ mself ?_) (by decide)
  refine set_plain X₄ (ox := excO C t1) (od := none) ⟨hx₄, rfl, rfl, trivial⟩ T.sa ?_
  refine exc_osa X₄ hx₄ hcl (show refsVE (.ref C :: bm) = true from hbm) rfl T.noN (fun h₅ tk₅ dx k₅ dn dne hx₅ hn₅ => ?_)
  show wpAny _ _ (execs _ _) _ _ _
  have z : s.heap.objs.size < h₄.objs.size := hns₄.lt
  exact wpAny_execs_nil (hq h₅ tk₅ dx t1 ⟨fun b o hb e => k₅ b o hb (k₄ b o hb (k₃ b o (k₂ b o (hk₁ b o e)))), hx₅, Nat.le_of_lt (Nat.lt_of_lt_of_le z dn), dne, hn₅⟩)
theorem err_made (T : ErrT K mg x fld params J sc body qual C fI) (Z : ErrX fld qual params J sc body) (hP : POk prog) (hfile : prog.main.file = "/claim/cut.py") {v : Value} (hJ : JOk fld J v) (X : K.In s.heap) (hlim : s.heap.NoLimit)
    (hG : s.heap.Ns mainGlobals mg) (hsup : mg "super" = none) (hB : ∃ mb, s.heap.Ns builtinsNs mb ∧ mb "super" = some (.type "super")) (hroom : A.depth + 1 < recursionLimit)
    (hq : ∀ h' tk e d, OwnMade s.heap h' e C d fld v → R (.ok (.ret (.ref e))) { s with heap := h', toks := tk }) :
    codeAny (model prog w) A (.call (.ref C) ⟨[v], []⟩) R s := by
  obtain ⟨nm, q, N, bs, bm, sn, sub, ab, col, dd, k0, k1, k2, k3, k5, hC, hbm, hal⟩ := T.cls
  obtain ⟨hp, g, dr, tk, os⟩ := s
  have k : ∀ b o, hp.get? b = some o → ((hp.push (kdv_tup [v])).push (excO C hp.objs.size)).get? b = some o := fun b o e => Heap.get?_push_of_some _ (Heap.get?_push_of_some _ e)
  have hget : ((hp.push (kdv_tup [v])).push (excO C hp.objs.size)).get? (hp.objs.size + 1) = some (excO C hp.objs.size) := by heap_get
  have hnx : K.lookup (hp.objs.size + 1) = none := by
    cases e : K.lookup (hp.objs.size + 1) with
    | none => rfl
    | some o =>
      have z : hp.get? (hp.objs.size + 1) = some o := X _ _ e
      exact absurd (Nat.lt_of_succ_lt (Heap.lt_size z)) (Nat.lt_irrefl _)
  obtain ⟨mb, hmb, hmbs⟩ := hB
  refine call_own F.excBase_ValueError (fun X => refsVE_contains X bm hbm) (X _ _ hC) (looks_findIn X T.iC) (fun self => bind_fn X self T.tC) (one_size v) ?_
  refine err_init (s := ⟨(hp.push (kdv_tup [v])).push (excO C hp.objs.size), g, dr, tk, os⟩) T Z hP hfile hJ (X.keeps k) (hlim.keeps k) (hG.keeps k) hsup ⟨mb, hmb.keeps k, hmbs⟩ hget hnx ?_ fun h' tk' dx t1 ⟨k', hx, dn, dne, hns⟩ => ?_
  · show A.depth + 1 < recursionLimit
    exact hroom
  · have old : ∀ b o, hp.get? b = some o → h'.get? b = some o := fun b o e => k' b o (Nat.ne_of_lt (Nat.lt_succ_of_lt (Heap.lt_size e))) (k b o e)
    have z : hp.objs.size + 1 + 1 ≤ dx := by
      first
        | (simpa only [Heap.size_push] using dn)
        | exact dn
        | (have q := dn; rw [Heap.size_push, Heap.size_push] at q; exact q)
    exact ⟨rfl, hq h' tk' (hp.objs.size + 1) dx ⟨old, Nat.le_succ _, ⟨_, _, hx, rfl, rfl, rfl, rfl, fun vs e => by cases e; rfl⟩, Nat.le_trans (Nat.le_trans (Nat.le_succ _) (Nat.le_succ _)) z, dne, hns⟩⟩
end
end SuX
namespace Ux
open PySem PySem.Spec PyProof.Rows L2
theorem relO_err {v : V} {v' : Value} {fld : Str} (r : RelV v v') (f : Str) : RelO (List.lookup f [(fld, v)]) (if f = fld then some v' else none) := by
  by_cases hw : f = fld
  · subst hw
    rw [if_pos rfl]
    have q : List.lookup f [(f, v)] = some v := by simp [List.lookup]
    rw [q]
    exact r
  · rw [if_neg hw]
    have qw : (f == fld) = false := by simpa using hw
    have q2 : List.lookup f [(fld, v)] = none := by simp [List.lookup, qw]
    rw [q2]
    trivial
/-- the program that is read -/
class POk (P : Program) : Prop where
  top : (P.main.scope.names.lookup ("super" : Str)).isSome = false
  file : P.main.file = "/claim/cut.py"
section
variable {X : Cx} {C fI : Addr} {x fld qual : Str} {params : Arguments} {J : Expr} {sc : Scope} {body : List Stmt}
/-- C(e), an own error that keeps its argument -/
def tMkE (C : Addr) (fld : Str) (ok : V → Prop) (ta : TA) : L2.St → Hp → XK → Prop := fun σ H Q => ta σ H fun vs H1 => ∃ v, vs = [v] ∧ ok v ∧ ∀ d, H1 d = none → Q (.ref C) (some d) (upd H1 d (.xd [(fld, v)]))
theorem pmk_err {a : Expr} {ta : TA} {p pos : Pos} {k : Nat} {ok : V → Prop} (T : SuX.ErrT X.K X.mg x fld params J sc body qual C fI) (Z : SuX.ErrX fld qual params J sc body) (hP : POk X.prog) (hsup : X.mg "super" = none) (hok : ∀ v u, ok v → RelV v u → SuX.JOk fld J u) (hr : Room k X.A) (ha : PA X [a] ta) (hg : Gl X x)
    (hdb : (x == ("__debug__" : Str)) = false := by decide) (he : starEach (a :: []) X.env = (false, eval a X.env) :: starEach [] X.env := by rfl) (hpl : (backTo pos (starEach [] X.env)).any (·.1) = false := by rfl) :
    PMk X (.Call (.Name x p) [a] [] pos) (tMkE C fld ok ta) := by
  intro pins s σ H Q I h
  refine wpAny_Call_Name_kw (ld_glob I hg T.gC ?_ hdb)
  refine PySem.W.callWith_K (h₀ := X.base) I.ok.mod.kin T.kC (thn (ha.run pos pins s σ H _ I h) fun us s1 hh => ?_) he hpl
  obtain ⟨vs, H1, I1, r1, v, ev, hv, q1⟩ := hh
  subst ev
  refine ⟨I1.kIn, ?_⟩
  cases r1 with
  | cons rv rn =>
    rename_i v' us'
    cases rn
    show wpAny _ _ (call (.ref C) [v']) _ _ _
    have hlim := I1.nolimit
    have hG : s1.heap.Ns mainGlobals X.mg := I1.mod.glob.keeps I1.bk
    obtain ⟨mb, hmb, hmbs⟩ := I1.mod.blt
    have hB : ∃ mb, s1.heap.Ns builtinsNs mb ∧ mb "super" = some (.type "super") := ⟨mb, hmb.keeps I1.bk, (hmbs _ (by decide)).trans (by first | rfl | kernel_rfl | decide +kernel)⟩
    obtain ⟨hp, g, dr, tk, os⟩ := s1
    refine wpAny_call (SuX.err_made T Z ⟨hP.top⟩ hP.file (hok _ _ hv rv) I1.kIn hlim hG hsup hB (by have := hr.dp; omega) fun h' tk' e d M => ?_)
    show MkP X pins σ Q (.ref e) ⟨h', g, dr, tk', os⟩
    obtain ⟨oe, fv, hoe, hc, hd, hdat, h1, hctx⟩ := M.obj
    have hns := M.ns
    obtain ⟨G', g1, g2⟩ := restrict h' fun b => decide (b ≠ e)
    have gk : ∀ b, b ≠ e → G'.get? b = h'.get? b := fun b hb => g1 b (decide_eq_true hb)
    have ge : G'.get? e = none := g2 e (by simp)
    have old : ∀ b o, hp.get? b = some o → G'.get? b = some o := fun b o q => (gk b (Nat.ne_of_lt (Nat.lt_of_lt_of_le (Heap.lt_size q) M.new))).trans (M.keep b o q)
    have ob : ObjOk X.prog X.w (upd H1 d (.xd [(fld, v)])) G' d (.xd [(fld, v)]) :=
      ⟨_, hns.at (fun o q => (gk d M.dne).trans q), fun f => relO_err rv f⟩
    have J : Inv X pins σ (upd H1 d (.xd [(fld, v)])) ⟨G', g, dr, tk', os⟩ := I1.laid (t' := tk') old M.dbig ob
    refine ⟨e, oe, fv, ⟨G', g, dr, tk', os⟩, _, .ref C, some d, rfl, J, fun b o q => ?_, ge, hoe, ⟨hc, hd⟩, hdat, h1, ?_, rfl, I1.bare, raises_own T.exC T.tyC, q1 d (I1.hok.fresh M.dbig)⟩
    · by_cases hb : b = e
      · have q' : G'.get? b = some o := q
        rw [hb, ge] at q'; cases q'
      · exact (gk b hb).symm.trans q
    · rw [upd_ne (Ne.symm M.dne)]
      exact I1.hok.fresh M.new
theorem pmk_errN {a : Expr} {ta : TA} {p pos : Pos} {k : Nat} {ok : V → Prop} (T : SuX.ErrT X.K X.mg x fld params J sc body qual C fI) (Z : SuX.ErrX fld qual params J sc body) (hP : POk X.prog) (hsup : X.mg "super" = none) (hok : ∀ v u, ok v → RelV v u → SuX.JOk fld J u) (hr : Room k X.A) (ha : PA X [a] ta) (hg : Gl X x)
    (hdb : (x == ("__debug__" : Str)) = false := by decide) (he : starEach (a :: []) X.env = (false, eval a X.env) :: starEach [] X.env := by rfl) (hpl : (backTo pos (starEach [] X.env)).any (·.1) = false := by rfl) :
    L2N.PMk X (.Call (.Name x p) [a] [] pos) (tMkE C fld ok ta) := by
  intro pins s σ H Q I h
  refine wpAny_Call_Name_kw (ld_glob I hg T.gC ?_ hdb)
  refine PySem.W.callWith_K (h₀ := X.base) I.ok.mod.kin T.kC (thn (ha.run pos pins s σ H _ I h) fun us s1 hh => ?_) he hpl
  obtain ⟨vs, H1, I1, r1, v, ev, hv, q1⟩ := hh
  subst ev
  refine ⟨I1.kIn, ?_⟩
  cases r1 with
  | cons rv rn =>
    rename_i v' us'
    cases rn
    show wpAny _ _ (call (.ref C) [v']) _ _ _
    have hlim := I1.nolimit
    have hG : s1.heap.Ns mainGlobals X.mg := I1.mod.glob.keeps I1.bk
    obtain ⟨mb, hmb, hmbs⟩ := I1.mod.blt
    have hB : ∃ mb, s1.heap.Ns builtinsNs mb ∧ mb "super" = some (.type "super") := ⟨mb, hmb.keeps I1.bk, (hmbs _ (by decide)).trans (by first | rfl | kernel_rfl | decide +kernel)⟩
    obtain ⟨hp, g, dr, tk, os⟩ := s1
    refine wpAny_call (SuX.err_made T Z ⟨hP.top⟩ hP.file (hok _ _ hv rv) I1.kIn hlim hG hsup hB (by have := hr.dp; omega) fun h' tk' e d M => ?_)
    show L2N.MkP X pins σ Q (.ref e) ⟨h', g, dr, tk', os⟩
    obtain ⟨oe, fv, hoe, hc, hd, hdat, h1, hctx⟩ := M.obj
    have hns := M.ns
    obtain ⟨G', g1, g2⟩ := restrict h' fun b => decide (b ≠ e)
    have gk : ∀ b, b ≠ e → G'.get? b = h'.get? b := fun b hb => g1 b (decide_eq_true hb)
    have ge : G'.get? e = none := g2 e (by simp)
    have old : ∀ b o, hp.get? b = some o → G'.get? b = some o := fun b o q => (gk b (Nat.ne_of_lt (Nat.lt_of_lt_of_le (Heap.lt_size q) M.new))).trans (M.keep b o q)
    have ob : ObjOk X.prog X.w (upd H1 d (.xd [(fld, v)])) G' d (.xd [(fld, v)]) :=
      ⟨_, hns.at (fun o q => (gk d M.dne).trans q), fun f => relO_err rv f⟩
    have J : Inv X pins σ (upd H1 d (.xd [(fld, v)])) ⟨G', g, dr, tk', os⟩ := I1.laid (t' := tk') old M.dbig ob
    refine ⟨e, oe, fv, ⟨G', g, dr, tk', os⟩, _, .ref C, some d, rfl, J, fun b o q => ?_, ge, hoe, ⟨hc, hd, hctx⟩, hdat, h1, ?_, rfl, I1.bare, raises_own T.exC T.tyC, q1 d (I1.hok.fresh M.dbig)⟩
    · by_cases hb : b = e
      · have q' : G'.get? b = some o := q
        rw [hb, ge] at q'; cases q'
      · exact (gk b hb).symm.trans q
    · rw [upd_ne (Ne.symm M.dne)]
      exact I1.hok.fresh M.new
/-! ### facts of such a class -/
/-- an int, a text of 2000 signs at most -/
def FineV (v : V) : Prop := (∃ i : Int, v = .int i ∧ i.natAbs.log2 < 1920) ∨ ∃ y : Str, v = .str y ∧ y.length ≤ 2000
theorem FineV.fine {v : V} {u : Value} (h : FineV v) (r : RelV v u) : SuX.Fine u := by
  rcases h with ⟨i, rfl, hi⟩ | ⟨y, rfl, hy⟩
  · obtain ⟨t, rfl⟩ := r
    exact .inl ⟨i, t, rfl, hi⟩
  · obtain ⟨t, rfl⟩ := r
    exact .inr ⟨y, t, rfl, hy⟩
/-- the argument of super().__init__ in such a body -/
def errArg : List Stmt → Expr
  | .Expr (.Call _ (J :: _) _ _) _ :: _ => J
  | _ => .Constant .none 0 ⟨0, 0, 0, 0⟩
def clsB (K : KF) (C : Addr) : Bool := match K.lookup C with
  | some ⟨.type "type", _, .cls cd, sl⟩ => (match cd.mro, sl.toList with
      | .ref C' :: bm, [_, _, _, _, some (.builtin n), _] => decide (C' = C) && (decide (n = "ValueError.__new__") && (cd.hasDict && (!cd.hasDel && (HandSPX.refsVE bm && He.eqO (PySem.W.alongIn K "__init__" bm) (some (some (.builtin "ValueError.__init__")))))))
      | _, _ => false)
  | _ => false
theorem clsB_ok {K : KF} {C : Addr} (h : clsB K C = true) : ∃ nm q N bs bm sn sub ab col dd k0 k1 k2 k3 k5, K.lookup C = some (excClassObj nm q C N bs bm true sn sub ab col dd k0 k1 k2 k3 k5 "ValueError.__new__") ∧ HandSPX.refsVE bm = true ∧
    PySem.W.alongIn K "__init__" bm = some (some (.builtin "ValueError.__init__")) := by
  unfold clsB at h
  split at h
  · rename_i dd cd sl ho
    split at h
    · rename_i C' bm k0 k1 k2 k3 n k5 hm hs
      obtain ⟨h1, h⟩ := He.ba h
      obtain ⟨h2, h⟩ := He.ba h
      obtain ⟨h3, h⟩ := He.ba h
      obtain ⟨h4, h⟩ := He.ba h
      obtain ⟨h5, h6⟩ := He.ba h
      have g1 := of_decide_eq_true h1
      have g2 := of_decide_eq_true h2
      have g4 : cd.hasDel = false := by simpa using h4
      obtain ⟨nm, bs, mro, ns, qn, hd, sn, sub, ab, col, del⟩ := cd
      dsimp only at hm h3 g4
      clear h4 h1 h2
      subst hm g1 g2 h3 g4
      have hsl : sl = #[k0, k1, k2, k3, some (.builtin "ValueError.__new__"), k5] := by
        obtain ⟨l⟩ := sl
        simp only at hs
        rw [hs]
      subst hsl
      exact ⟨nm, qn, ns, bs, bm, sn, sub, ab, col, dd, k0, k1, k2, k3, k5, ho, h5, He.eqO_ok h6⟩
    · cases h
  · cases h
def fErr (x fld : Str) : Fc := fun K => fGlo x K && (clsB K (He.ga K x) && (He.eqO (PySem.W.findIn K (.ref (He.ga K x)) "__setattr__") (some (some (.builtin "object.__setattr__"))) && (He.eqO (PySem.W.findIn K (.ref (He.ga K x)) fld) (some none) &&
  (He.eqO (PySem.W.findIn K (.ref (He.ga K x)) "__init__") (some (some (.ref (He.ma K (He.ga K x) "__init__")))) && (decide (PySem.W.typeIn K (.ref (He.ma K (He.ga K x) "__init__")) = some (.type "function")) &&
  (decide (PySem.W.subIn K (.ref (He.ga K x)) (.type "BaseException") = some true) && (decide (PySem.W.subIn K (.ref (He.ga K x)) (.type "ValueError") = some true) && (decide (PySem.W.mroIn K (He.ga K x) (.ref (He.ga K x)) = some true) &&
  (decide (PySem.W.typeIn K (.ref (He.ga K x)) = some (.type "type")) && He.eqO (PySem.W.nsIn K cStatics "thirdparty.any") (some none))))))))))
theorem err_ok {fa : List Fc} {fn : List DefU} {K : KF} {mg : Str → Option Value} (T : Tx fa fn K mg) {x fld : Str} {params : Arguments} {J : Expr} {sc : Scope} {body : List Stmt} {qual : Str} (c : fErr x fld K = true)
    (hf : ∃ (oc : Value) (od : Option Addr) (kV doc pm : Value) (an : Option Addr) (cda cc : Addr) (ct : Value) (osl : Array (Option Value)),
      K.lookup (He.ma K (He.ga K x) "__init__") = some ⟨oc, od, .func (PySem.W.ksFn "__init__" qual params body sc .none kV doc pm an (.ref cda) ct cc), osl⟩ ∧ PySem.W.codeIn K (.ref cda) qual = true ∧
      (∃ (ccl : Value) (cdd : Option Addr) (vs : Array Value) (ccs : Array (Option Value)) (tf : Tok) (file : Str), K.lookup cda = some ⟨ccl, cdd, .fields vs, ccs⟩ ∧ vs[2]? = some (.str file tf) ∧ file = "/claim/cut.py") ∧
      (∃ (cl : Value) (cld : Option Addr) (csl : Array (Option Value)), K.lookup cc = some ⟨cl, cld, .cell (some (.ref (He.ga K x))), csl⟩)) :
    SuX.ErrT K mg x fld params J sc body qual (He.ga K x) (He.ma K (He.ga K x) "__init__") := by
  obtain ⟨c0, c⟩ := He.ba c
  obtain ⟨c1, c⟩ := He.ba c
  obtain ⟨c2, c⟩ := He.ba c
  obtain ⟨c3, c⟩ := He.ba c
  obtain ⟨c4, c⟩ := He.ba c
  obtain ⟨c5, c⟩ := He.ba c
  obtain ⟨c6, c⟩ := He.ba c
  obtain ⟨c7, c⟩ := He.ba c
  obtain ⟨c8, c⟩ := He.ba c
  obtain ⟨c9, c10⟩ := He.ba c
  exact ⟨T.glo c0, clsB_ok c1, He.eqO_ok c2, He.eqO_ok c3, He.eqO_ok c4, of_decide_eq_true c5, kp_ok c0, of_decide_eq_true c6, of_decide_eq_true c7, of_decide_eq_true c8, of_decide_eq_true c9, He.eqO_ok c10, hf⟩
def fXf (x : Str) : Fc := fun K => xfB K (He.ga K x)
theorem xf_ok {K : KF} {x : Str} (c : fXf x K = true) : XfC K (He.ga K x) := xfB_ok c
end
end Ux
set_option Elab.async false
set_option linter.all false
set_option maxRecDepth 100000
set_option maxHeartbeats 2000000
/-! Uv: min and max with a default; calls of own defs with keywords -/
namespace MnX
open PySem PySem.Spec PyProof.Rows L2

/-! ### min of a list of ints with a default -/
section
variable {prog : Program} {w : World} {A : Around} {R : Result → Shared → Prop} {I : Addr} {fp wr : List Addr} {n : Nat} {P : Nat → Value → Prop} {St : Nat → Heap → Prop}
theorem min_args_d (a d : Value) : argsOk "min" ⟨[a], [(Str.ofString "default", d)]⟩ := by unfold argsOk; kernel_rfl
theorem minD_loop (W : Walks prog w A.in1 I fp wr n P St) (bt : Nat → Nat → Bool) (hcmp : CmpOf prog w A.in1 .Lt P bt) (S : Addr) (hSf : S ∉ fp) (kw : List (Str × Value)) :
    ∀ (k j : Nat) (s : Shared) (vb : Value) (c : Nat), n - (j + 1) = k → j + 1 ≤ n → St (j + 1) s.heap → P (argBest bt j) vb → s.heap.get? S = some (⟨.type "list", none, .seq #[vb, vb] c, #[]⟩ : Obj) →
    (∀ v h' tk, P (argBest bt (n - 1)) v → (∀ b o, b ∉ wr → b ≠ S → s.heap.get? b = some o → h'.get? b = some o) → R (.ok (.ret v)) { s with heap := h', toks := tk }) →
    codeAny (model prog w) A (.builtin "min.loop" ⟨[.ref I, .none, .ref S], kw⟩) R s := by
  have hSw : S ∉ wr := fun h => hSf (W.sub _ h)
  have hname : (toString "min" ++ toString ".loop" : String) = "min.loop" := by decide
  intro k
  induction k with
  | zero =>
    intro j s vb c hk hj hst hPb hS hR
    have hin : j + 1 = n := by omega
    refine codeAny_builtin PySem.F.entry_min_loop ?_
    rw [Around.under_plainId PySem.F.plain_min_loop _]
    refine wpAny_bind (m := seqItems? (.ref S)) (wpAny_seqItems hS rfl (wpAny_bind (m := tryCatch (pyNext (.ref I)) _) (wpAny_tryCatch (W.done s _ _ (hin ▸ hst) fun h' tk hk' => ?_))))
    have hS' := hk' S _ hSw hS
    refine wpAny_bind (m := updateSeq S (fun _ => #[])) (wpAny_updateSeq hS' rfl (wpAny_bind (wpAny_letGo (wpAny_pure ?_))))
    exact hR vb _ tk (by rw [← hin]; exact hPb) fun b o hbw hbS e => (Heap.get?_update_other _ _ (Ne.symm hbS)).trans (hk' b o hbw e)
  | succ k ih =>
    intro j s vb c hk hj hst hPb hS hR
    have hlt : j + 1 < n := by omega
    refine codeAny_builtin PySem.F.entry_min_loop ?_
    rw [Around.under_plainId PySem.F.plain_min_loop _]
    refine wpAny_bind (m := seqItems? (.ref S)) (wpAny_seqItems hS rfl (wpAny_bind (m := tryCatch (pyNext (.ref I)) _) (wpAny_tryCatch (W.item (j + 1) s _ _ hlt hst fun v h' tk hP hst' hk' => ?_))))
    have hS' := hk' S _ hSw hS
    refine wpAny_bind (m := tryCatch (holding [v, v] (richCompare .Lt v vb >>= _)) _) (wpAny_tryCatch (wpAny_holding (wpAny_bind (hcmp (j + 1) (argBest bt j) v vb _ _ _ hP hPb ?_))))
    refine wpAny_bind (wpAny_holding (wpAny_truthy_bool (wpAny_bind (wpAny_letGo (wpAny_pure ?_)))))
    cases hb : bt (j + 1) (argBest bt j) with
    | true =>
      rw [if_pos rfl]
      refine wpAny_bind (wpAny_updateSeq hS' rfl (wpAny_bind (wpAny_letGo ?_)))
      rw [hname]
      refine wpAny_pure ⟨plainId_quiet PySem.F.plain_min_loop _, ih (j + 1) _ v _ (by omega) hlt (W.frame _ _ _ hst' fun b hbf o e => (Heap.get?_update_other _ _ (fun h : S = b => hSf (by rw [h]; exact hbf))).trans e) (by rw [argBest, hb, if_pos rfl]; exact hP)
        (Heap.get?_update_self _ hS' rfl) fun v' h2 tk2 hP2 hk2 => hR v' h2 tk2 hP2 fun b o hbw hbS e => hk2 b o hbw hbS ((Heap.get?_update_other _ _ (Ne.symm hbS)).trans (hk' b o hbw e))⟩
    | false =>
      rw [if_neg Bool.false_ne_true]
      refine wpAny_bind (wpAny_letGo ?_)
      rw [hname]
      refine wpAny_pure ⟨plainId_quiet PySem.F.plain_min_loop _, ih (j + 1) _ vb c (by omega) hlt hst' (by rw [argBest, hb, if_neg Bool.false_ne_true]; exact hPb) hS' fun v' h2 tk2 hP2 hk2 => hR v' h2 tk2 hP2 fun b o hbw hbS e => hk2 b o hbw hbS (hk' b o hbw e)⟩
/-- nothing walked: the default; else the best -/
theorem minD_first (W : Walks prog w A.in1 I fp wr n P St) (bt : Nat → Nat → Bool) (hcmp : CmpOf prog w A.in1 .Lt P bt) (S : Addr) (hSf : S ∉ fp) {s : Shared} {c : Nat} {d : Value} (hst : St 0 s.heap)
    (hS : s.heap.get? S = some (⟨.type "list", none, .seq #[] c, #[]⟩ : Obj))
    (hR : ∀ v h' tk, (n = 0 ∧ v = d ∨ 0 < n ∧ P (argBest bt (n - 1)) v) → (∀ b o, b ∉ wr → b ≠ S → s.heap.get? b = some o → h'.get? b = some o) → R (.ok (.ret v)) { s with heap := h', toks := tk }) :
    codeAny (model prog w) A (.builtin "min.loop" ⟨[.ref I, .none, .ref S], [(Str.ofString "default", d)]⟩) R s := by
  have hSw : S ∉ wr := fun h => hSf (W.sub _ h)
  have hname : (toString "min" ++ toString ".loop" : String) = "min.loop" := by decide
  refine codeAny_builtin PySem.F.entry_min_loop ?_
  rw [Around.under_plainId PySem.F.plain_min_loop _]
  by_cases hn : 0 < n
  · refine wpAny_bind (m := seqItems? (.ref S)) (wpAny_seqItems hS rfl (wpAny_bind (m := tryCatch (pyNext (.ref I)) _) (wpAny_tryCatch (W.item 0 s _ _ hn hst fun v h' tk hP hst' hk' => ?_))))
    have hS' := hk' S _ hSw hS
    refine wpAny_bind (m := updateSeq S (fun _ => #[v, v])) (wpAny_updateSeq hS' rfl ?_)
    rw [hname]
    refine wpAny_pure ⟨plainId_quiet PySem.F.plain_min_loop _, minD_loop W bt hcmp S hSf _ _ 0 _ v _ rfl hn (W.frame _ _ _ hst' fun b hbf o e => (Heap.get?_update_other _ _ (fun h : S = b => hSf (by rw [h]; exact hbf))).trans e) hP (Heap.get?_update_self _ hS' rfl)
      fun v' h2 tk2 hP2 hk2 => hR v' h2 tk2 (.inr ⟨hn, hP2⟩) fun b o hbw hbS e => hk2 b o hbw hbS ((Heap.get?_update_other _ _ (Ne.symm hbS)).trans (hk' b o hbw e))⟩
  · have h0 : n = 0 := by omega
    refine wpAny_bind (m := seqItems? (.ref S)) (wpAny_seqItems hS rfl (wpAny_bind (m := tryCatch (pyNext (.ref I)) _) (wpAny_tryCatch (W.done s _ _ (by rw [h0]; exact hst) fun h' tk hk' => ?_))))
    exact wpAny_bind (wpAny_rule (wpAny_pure (hR d h' tk (.inl ⟨h0, rfl⟩) fun b o hbw _ e => hk' b o hbw e)))
end
section
variable {prog : Program} {w : World} {A : Around} {E : Value → Shared → Prop} {s : Shared} {l : Addr} {its : List Value} {ns : List Int} {Q : Value → Shared → Prop}
theorem minD_raw {d : Value} (hh : A.handled = none) (hl : s.heap.IsList l its.toArray) (hi : IntsAre its ns)
    (h : ∀ h' tk v, (∀ b o, s.heap.get? b = some o → h'.get? b = some o) → (ns = [] ∧ v = d ∨ ∃ (M : Int) (t : Tok), v = .int M t ∧ M ∈ ns ∧ ∀ a, a ∈ ns → M ≤ a) → Q v { s with heap := h', toks := tk }) :
    wpAny (model prog w) A (call (.builtin "min") [.ref l] [(Str.ofString "default", d)]) Q E s := by
  obtain ⟨xs, e⟩ := hi.allInts.items
  have hn : numsOf (intItems xs).toList = ns := by rw [← e]; exact hi.numsOf
  rw [nums_intItems] at hn
  subst hn
  rw [e] at hl
  have hname : (toString "min" ++ toString ".loop" : String) = "min.loop" := by decide
  refine kmk_tree PySem.F.kind_min PySem.F.plain_min PySem.F.entry_min (min_args_d _ _) ?_
  refine wpAny_bind (m := Builtin.Builtins.bindParams "min" ["key", "default"] 0 ⟨[], [(Str.ofString "default", d)]⟩) (wpAny_of_eq (a := [none, some d]) (by first | rfl | kernel_rfl) ?_)
  refine wpAny_bind (wpAny_pure (wpAny_bind (iter_intList hl fun s₂ es st hfp hlI => ?_)))
  have W := Walks.list (prog := prog) (w := w) (A := A.in1) hh s.heap.objs.size l hlI (intItems xs)
  refine wpAny_bind (wpAny_newObj_type ?_)
  have hSf : s₂.heap.objs.size ∉ [s.heap.objs.size, l] := fun hm => Nat.lt_irrefl _ (hfp _ hm)
  rw [hname]
  refine wpAny_pure ⟨plainId_quiet PySem.F.plain_min_loop _, minD_first W _ (CmpOf.ints_lt (numAt xs) (fun _ _ => intItems_at)) s₂.heap.objs.size hSf (W.frame _ _ _ st fun b _ o e => Heap.get?_push_of_some _ e) (Heap.get?_push_size _ rfl) fun v h' tk hv hk => ?_⟩
  subst es
  refine h h' tk v (fun b o e => hk b o (fun hm => ?_) (Nat.ne_of_lt (Heap.lt_size (Heap.get?_push_of_some _ e))) (Heap.get?_push_of_some _ (Heap.get?_push_of_some _ e))) ?_
  · rcases List.mem_cons.mp hm with e1 | hm
    · exact absurd (e1 ▸ Heap.lt_size e) (Nat.lt_irrefl _)
    · cases hm
  · rcases hv with ⟨h0, rfl⟩ | ⟨h0, hv⟩
    · refine .inl ⟨?_, rfl⟩
      have : xs.size = 0 := by simpa [intItems] using h0
      have e2 : xs = #[] := Array.eq_empty_of_size_eq_zero this
      rw [e2]
      rfl
    · have hsz : 0 < xs.size := by simpa [intItems] using h0
      have hv : (intItems xs)[argBest (fun i j => decide (numAt xs i < numAt xs j)) (xs.size - 1)]? = some v := by simpa [intItems] using hv
      obtain ⟨t, rfl⟩ := intItems_at hv
      obtain ⟨h1, h2⟩ := argBest_lt (numAt xs) (xs.size - 1)
      refine .inr ⟨_, t, rfl, ?_, fun a ha => ?_⟩
      · rw [numAt_eq]
        exact PySem.getD_mem (by rw [List.length_map, Array.length_toList]; omega)
      · obtain ⟨j, hj, rfl⟩ := mem_getD ha
        rw [List.length_map, Array.length_toList] at hj
        rw [← numAt_eq]
        exact h2 j (by omega)
end

/-! ### max of a list of ints with a default -/
section
variable {prog : Program} {w : World} {A : Around} {R : Result → Shared → Prop} {I : Addr} {fp wr : List Addr} {n : Nat} {P : Nat → Value → Prop} {St : Nat → Heap → Prop}
theorem max_args_d (a d : Value) : argsOk "max" ⟨[a], [(Str.ofString "default", d)]⟩ := by unfold argsOk; kernel_rfl
theorem maxD_loop (W : Walks prog w A.in1 I fp wr n P St) (bt : Nat → Nat → Bool) (hcmp : CmpOf prog w A.in1 .Gt P bt) (S : Addr) (hSf : S ∉ fp) (kw : List (Str × Value)) :
    ∀ (k j : Nat) (s : Shared) (vb : Value) (c : Nat), n - (j + 1) = k → j + 1 ≤ n → St (j + 1) s.heap → P (argBest bt j) vb → s.heap.get? S = some (⟨.type "list", none, .seq #[vb, vb] c, #[]⟩ : Obj) →
    (∀ v h' tk, P (argBest bt (n - 1)) v → (∀ b o, b ∉ wr → b ≠ S → s.heap.get? b = some o → h'.get? b = some o) → R (.ok (.ret v)) { s with heap := h', toks := tk }) →
    codeAny (model prog w) A (.builtin "max.loop" ⟨[.ref I, .none, .ref S], kw⟩) R s := by
  have hSw : S ∉ wr := fun h => hSf (W.sub _ h)
  have hname : (toString "max" ++ toString ".loop" : String) = "max.loop" := by decide
  intro k
  induction k with
  | zero =>
    intro j s vb c hk hj hst hPb hS hR
    have hin : j + 1 = n := by omega
    refine codeAny_builtin PySem.F.entry_max_loop ?_
    rw [Around.under_plainId PySem.F.plain_max_loop _]
    refine wpAny_bind (m := seqItems? (.ref S)) (wpAny_seqItems hS rfl (wpAny_bind (m := tryCatch (pyNext (.ref I)) _) (wpAny_tryCatch (W.done s _ _ (hin ▸ hst) fun h' tk hk' => ?_))))
    have hS' := hk' S _ hSw hS
    refine wpAny_bind (m := updateSeq S (fun _ => #[])) (wpAny_updateSeq hS' rfl (wpAny_bind (wpAny_letGo (wpAny_pure ?_))))
    exact hR vb _ tk (by rw [← hin]; exact hPb) fun b o hbw hbS e => (Heap.get?_update_other _ _ (Ne.symm hbS)).trans (hk' b o hbw e)
  | succ k ih =>
    intro j s vb c hk hj hst hPb hS hR
    have hlt : j + 1 < n := by omega
    refine codeAny_builtin PySem.F.entry_max_loop ?_
    rw [Around.under_plainId PySem.F.plain_max_loop _]
    refine wpAny_bind (m := seqItems? (.ref S)) (wpAny_seqItems hS rfl (wpAny_bind (m := tryCatch (pyNext (.ref I)) _) (wpAny_tryCatch (W.item (j + 1) s _ _ hlt hst fun v h' tk hP hst' hk' => ?_))))
    have hS' := hk' S _ hSw hS
    refine wpAny_bind (m := tryCatch (holding [v, v] (richCompare .Gt v vb >>= _)) _) (wpAny_tryCatch (wpAny_holding (wpAny_bind (hcmp (j + 1) (argBest bt j) v vb _ _ _ hP hPb ?_))))
    refine wpAny_bind (wpAny_holding (wpAny_truthy_bool (wpAny_bind (wpAny_letGo (wpAny_pure ?_)))))
    cases hb : bt (j + 1) (argBest bt j) with
    | true =>
      rw [if_pos rfl]
      refine wpAny_bind (wpAny_updateSeq hS' rfl (wpAny_bind (wpAny_letGo ?_)))
      rw [hname]
      refine wpAny_pure ⟨plainId_quiet PySem.F.plain_max_loop _, ih (j + 1) _ v _ (by omega) hlt (W.frame _ _ _ hst' fun b hbf o e => (Heap.get?_update_other _ _ (fun h : S = b => hSf (by rw [h]; exact hbf))).trans e) (by rw [argBest, hb, if_pos rfl]; exact hP)
        (Heap.get?_update_self _ hS' rfl) fun v' h2 tk2 hP2 hk2 => hR v' h2 tk2 hP2 fun b o hbw hbS e => hk2 b o hbw hbS ((Heap.get?_update_other _ _ (Ne.symm hbS)).trans (hk' b o hbw e))⟩
    | false =>
      rw [if_neg Bool.false_ne_true]
      refine wpAny_bind (wpAny_letGo ?_)
      rw [hname]
      refine wpAny_pure ⟨plainId_quiet PySem.F.plain_max_loop _, ih (j + 1) _ vb c (by omega) hlt hst' (by rw [argBest, hb, if_neg Bool.false_ne_true]; exact hPb) hS' fun v' h2 tk2 hP2 hk2 => hR v' h2 tk2 hP2 fun b o hbw hbS e => hk2 b o hbw hbS (hk' b o hbw e)⟩
/-- nothing walked: the default; else the best -/
theorem maxD_first (W : Walks prog w A.in1 I fp wr n P St) (bt : Nat → Nat → Bool) (hcmp : CmpOf prog w A.in1 .Gt P bt) (S : Addr) (hSf : S ∉ fp) {s : Shared} {c : Nat} {d : Value} (hst : St 0 s.heap)
    (hS : s.heap.get? S = some (⟨.type "list", none, .seq #[] c, #[]⟩ : Obj))
    (hR : ∀ v h' tk, (n = 0 ∧ v = d ∨ 0 < n ∧ P (argBest bt (n - 1)) v) → (∀ b o, b ∉ wr → b ≠ S → s.heap.get? b = some o → h'.get? b = some o) → R (.ok (.ret v)) { s with heap := h', toks := tk }) :
    codeAny (model prog w) A (.builtin "max.loop" ⟨[.ref I, .none, .ref S], [(Str.ofString "default", d)]⟩) R s := by
  have hSw : S ∉ wr := fun h => hSf (W.sub _ h)
  have hname : (toString "max" ++ toString ".loop" : String) = "max.loop" := by decide
  refine codeAny_builtin PySem.F.entry_max_loop ?_
  rw [Around.under_plainId PySem.F.plain_max_loop _]
  by_cases hn : 0 < n
  · refine wpAny_bind (m := seqItems? (.ref S)) (wpAny_seqItems hS rfl (wpAny_bind (m := tryCatch (pyNext (.ref I)) _) (wpAny_tryCatch (W.item 0 s _ _ hn hst fun v h' tk hP hst' hk' => ?_))))
    have hS' := hk' S _ hSw hS
    refine wpAny_bind (m := updateSeq S (fun _ => #[v, v])) (wpAny_updateSeq hS' rfl ?_)
    rw [hname]
    refine wpAny_pure ⟨plainId_quiet PySem.F.plain_max_loop _, maxD_loop W bt hcmp S hSf _ _ 0 _ v _ rfl hn (W.frame _ _ _ hst' fun b hbf o e => (Heap.get?_update_other _ _ (fun h : S = b => hSf (by rw [h]; exact hbf))).trans e) hP (Heap.get?_update_self _ hS' rfl)
      fun v' h2 tk2 hP2 hk2 => hR v' h2 tk2 (.inr ⟨hn, hP2⟩) fun b o hbw hbS e => hk2 b o hbw hbS ((Heap.get?_update_other _ _ (Ne.symm hbS)).trans (hk' b o hbw e))⟩
  · have h0 : n = 0 := by omega
    refine wpAny_bind (m := seqItems? (.ref S)) (wpAny_seqItems hS rfl (wpAny_bind (m := tryCatch (pyNext (.ref I)) _) (wpAny_tryCatch (W.done s _ _ (by rw [h0]; exact hst) fun h' tk hk' => ?_))))
    exact wpAny_bind (wpAny_rule (wpAny_pure (hR d h' tk (.inl ⟨h0, rfl⟩) fun b o hbw _ e => hk' b o hbw e)))
end
section
variable {prog : Program} {w : World} {A : Around} {E : Value → Shared → Prop} {s : Shared} {l : Addr} {its : List Value} {ns : List Int} {Q : Value → Shared → Prop}
theorem maxD_raw {d : Value} (hh : A.handled = none) (hl : s.heap.IsList l its.toArray) (hi : IntsAre its ns)
    (h : ∀ h' tk v, (∀ b o, s.heap.get? b = some o → h'.get? b = some o) → (ns = [] ∧ v = d ∨ ∃ (M : Int) (t : Tok), v = .int M t ∧ M ∈ ns ∧ ∀ a, a ∈ ns → a ≤ M) → Q v { s with heap := h', toks := tk }) :
    wpAny (model prog w) A (call (.builtin "max") [.ref l] [(Str.ofString "default", d)]) Q E s := by
  obtain ⟨xs, e⟩ := hi.allInts.items
  have hn : numsOf (intItems xs).toList = ns := by rw [← e]; exact hi.numsOf
  rw [nums_intItems] at hn
  subst hn
  rw [e] at hl
  have hname : (toString "max" ++ toString ".loop" : String) = "max.loop" := by decide
  refine kmk_tree PySem.F.kind_max PySem.F.plain_max PySem.F.entry_max (max_args_d _ _) ?_
  refine wpAny_bind (m := Builtin.Builtins.bindParams "max" ["key", "default"] 0 ⟨[], [(Str.ofString "default", d)]⟩) (wpAny_of_eq (a := [none, some d]) (by first | rfl | kernel_rfl) ?_)
  refine wpAny_bind (wpAny_pure (wpAny_bind (iter_intList hl fun s₂ es st hfp hlI => ?_)))
  have W := Walks.list (prog := prog) (w := w) (A := A.in1) hh s.heap.objs.size l hlI (intItems xs)
  refine wpAny_bind (wpAny_newObj_type ?_)
  have hSf : s₂.heap.objs.size ∉ [s.heap.objs.size, l] := fun hm => Nat.lt_irrefl _ (hfp _ hm)
  rw [hname]
  refine wpAny_pure ⟨plainId_quiet PySem.F.plain_max_loop _, maxD_first W _ (CmpOf.ints_gt (numAt xs) (fun _ _ => intItems_at)) s₂.heap.objs.size hSf (W.frame _ _ _ st fun b _ o e => Heap.get?_push_of_some _ e) (Heap.get?_push_size _ rfl) fun v h' tk hv hk => ?_⟩
  subst es
  refine h h' tk v (fun b o e => hk b o (fun hm => ?_) (Nat.ne_of_lt (Heap.lt_size (Heap.get?_push_of_some _ e))) (Heap.get?_push_of_some _ (Heap.get?_push_of_some _ e))) ?_
  · rcases List.mem_cons.mp hm with e1 | hm
    · exact absurd (e1 ▸ Heap.lt_size e) (Nat.lt_irrefl _)
    · cases hm
  · rcases hv with ⟨h0, rfl⟩ | ⟨h0, hv⟩
    · refine .inl ⟨?_, rfl⟩
      have : xs.size = 0 := by simpa [intItems] using h0
      have e2 : xs = #[] := Array.eq_empty_of_size_eq_zero this
      rw [e2]
      rfl
    · have hsz : 0 < xs.size := by simpa [intItems] using h0
      have hv : (intItems xs)[argBest (fun i j => decide (numAt xs i > numAt xs j)) (xs.size - 1)]? = some v := by simpa [intItems] using hv
      obtain ⟨t, rfl⟩ := intItems_at hv
      obtain ⟨h1, h2⟩ := argBest_gt (numAt xs) (xs.size - 1)
      refine .inr ⟨_, t, rfl, ?_, fun a ha => ?_⟩
      · rw [numAt_eq]
        exact PySem.getD_mem (by rw [List.length_map, Array.length_toList]; omega)
      · obtain ⟨j, hj, rfl⟩ := mem_getD ha
        rw [List.length_map, Array.length_toList] at hj
        rw [← numAt_eq]
        exact h2 j (by omega)
end

end MnX
namespace Ux
open PySem PySem.Spec PyProof.Rows L2
section
variable {X : Cx}
/-- min(list of ints, default = d) -/
def rMinD (K : KF) : List V → List V → Hp → VK → Prop := fun vs zs H Q => ∃ (a : Addr) (ns : List Int) (d : V), vs = [.ref a] ∧ zs = [d] ∧ SqL K H a (ns.map V.int) ∧ (ns = [] → Q d H) ∧ ∀ m, m ∈ ns → (∀ y, y ∈ ns → m ≤ y) → Q (.int m) H
theorem call_minD (hc : X.calm = true) : CallRK X (.builtin "min") ["default"] (rMinD X.K) := by
  intro pins s σ H vs zs us ws Q I r rz h
  obtain ⟨a, ns, d, rfl, rfl, hs, q0, q⟩ := h
  obtain ⟨its, rv, hl, _⟩ := I.list hs
  rw [Vals.ref1 r]
  obtain ⟨u, rfl, ru⟩ := rz.one
  refine MnX.minD_raw (I.ok.hd hc) hl.isList rv.ints fun h' tk v hk hv => ?_
  rcases hv with ⟨e, rfl⟩ | ⟨M, t, rfl, h1, h2⟩
  · exact ⟨d, H, I.kept hk, ru, q0 e⟩
  · exact ⟨.int M, H, I.kept hk, ⟨_, rfl⟩, q M h1 h2⟩
def rMaxD (K : KF) : List V → List V → Hp → VK → Prop := fun vs zs H Q => ∃ (a : Addr) (ns : List Int) (d : V), vs = [.ref a] ∧ zs = [d] ∧ SqL K H a (ns.map V.int) ∧ (ns = [] → Q d H) ∧ ∀ m, m ∈ ns → (∀ y, y ∈ ns → y ≤ m) → Q (.int m) H
theorem call_maxD (hc : X.calm = true) : CallRK X (.builtin "max") ["default"] (rMaxD X.K) := by
  intro pins s σ H vs zs us ws Q I r rz h
  obtain ⟨a, ns, d, rfl, rfl, hs, q0, q⟩ := h
  obtain ⟨its, rv, hl, _⟩ := I.list hs
  rw [Vals.ref1 r]
  obtain ⟨u, rfl, ru⟩ := rz.one
  refine MnX.maxD_raw (I.ok.hd hc) hl.isList rv.ints fun h' tk v hk hv => ?_
  rcases hv with ⟨e, rfl⟩ | ⟨M, t, rfl, h1, h2⟩
  · exact ⟨d, H, I.kept hk, ru, q0 e⟩
  · exact ⟨.int M, H, I.kept hk, ⟨_, rfl⟩, q M h1 h2⟩
end
/-- objects of these numberings -/
def NumsAt (K : KF) (C : Addr) (H : Hp) (na : List Addr) (nums : List (List Int)) : Prop := na.length = nums.length ∧ ∀ (i : Nat) (r : Addr) (ns : List Int), na[i]? = some r → nums[i]? = some ns → Numb K C H r ns
theorem NumsAt.same {K : KF} {C : Addr} {H H' : Hp} {na : List Addr} {nums : List (List Int)} (h : NumsAt K C H na nums) (s : Same H H') : NumsAt K C H' na nums := ⟨h.1, fun i r ns e1 e2 => (h.2 i r ns e1 e2).same s⟩
theorem NumsAt.keep {K : KF} {t C : Addr} {H H' : Hp} {na : List Addr} {nums : List (List Int)} (h : NumsAt K C H na nums) (k : Keep t H H') (ht : ∃ o, H t = some (HO.lst o)) : NumsAt K C H' na nums := ⟨h.1, fun i r ns e1 e2 => k.num ht (h.2 i r ns e1 e2)⟩
theorem NumsAt.nil {K : KF} {C : Addr} {H : Hp} : NumsAt K C H [] [] := ⟨rfl, fun _ _ _ e => nomatch e⟩
theorem NumsAt.snoc {K : KF} {C : Addr} {H : Hp} {na : List Addr} {nums : List (List Int)} {r : Addr} {ns : List Int} (h : NumsAt K C H na nums) (hr : Numb K C H r ns) : NumsAt K C H (na ++ [r]) (nums ++ [ns]) := by
  refine ⟨by rw [List.length_append, List.length_append, h.1]; rfl, fun i r' ns' e1 e2 => ?_⟩
  by_cases hi : i < na.length
  · rw [List.getElem?_append_left hi] at e1
    rw [List.getElem?_append_left (by rw [← h.1]; exact hi)] at e2
    exact h.2 i r' ns' e1 e2
  · rw [List.getElem?_append_right (by omega)] at e1
    rw [List.getElem?_append_right (by rw [← h.1]; omega), ← h.1] at e2
    obtain ⟨j, hj⟩ : ∃ j, j = i - na.length := ⟨_, rfl⟩
    rw [← hj] at e1 e2
    match j, e1, e2 with
    | 0, e1, e2 =>
      cases (show some r = some r' from e1)
      cases (show some ns = some ns' from e2)
      exact hr
theorem passS_of {X : Cx} {CX : CXT} {E : XK} (h : Passes CX X E) : PassS CX X (fun _ => E) := fun σ pins H s e s' I c => h pins σ H s e s' I c
/-! ### a range object walked -/
section
/-- a range object walked -/
def iRngV (tl : TE) : TI := fun σ H R => tl σ H fun x H1 => ∃ (a : Addr) (i j : Int), x = .ref a ∧ H1 a = some (.rng i j) ∧ (-(2 ^ 62) ≤ i ∧ i < 2 ^ 62 ∧ -(2 ^ 62) ≤ j ∧ j < 2 ^ 62) ∧ R (Itr i (j - i).toNat) H1
theorem pi_rngV {X : Cx} {tg l : Expr} {tl : TE} (hl : PE X l tl) : PI X tg l (iRngV tl) := by
  refine ⟨fun pins s σ H R I h => thn (hl.run pins s σ H _ I h) fun v s1 ⟨x, H1, I1, r1, a, i, j, ex, ha, ⟨b1, b2, b3, b4⟩, q⟩ => ?_⟩
  subst ex
  cases r1
  obtain ⟨t, u, w, ho⟩ := I1.hok a _ ha
  refine wpAny_pyIter_range ho (small_one b1 b2 b3 b4) ⟨s1.heap.objs.size, [s1.heap.objs.size], _, _, H1, rfl, I1.kept (t' := s1.toks) fun b o e => Heap.get?_push_of_some _ e, turn_range _ i (j - i).toNat, ?_, fun b hb => ?_, q⟩
  · have e2 : (((j - i).toNat : Nat) : Int) - ((0 : Nat) : Int) = Builtin.Range.rangeSize i j 1 := by rw [rangeSize_one]; split <;> omega
    show IsRangeIter _ _ (i + ((0 : Nat) : Int) * 1) _ 1
    rw [e2, show i + ((0 : Nat) : Int) * 1 = i by omega]
    exact Heap.get?_push_size _ rfl
  · cases List.mem_singleton.mp hb
    exact I1.fpOk (Nat.le_refl _) (I1.hok.fresh (Nat.le_refl _))
end
/-! ### own defs called with keywords -/
/-- the def at f, called with n values and with keywords ks, keeps sp of the values in that order -/
def FnKR (P : Program) (w : World) (K : KF) (mg : Str → Option Value) (base : Heap) (CX : CXT) (k : Nat) (f : Addr) (n : Nat) (ks : List Str) (sp : Sp) : Prop :=
  ∀ (A : Around) (outer : List Env) (s : Shared) (H : Hp) (us ws : List Value) (vs zs : List V) (Q : VK) (E : XK), Room k A → Env0 P w K mg base A outer s H → Vals vs us → Vals zs ws → us.length = n → ws.length = ks.length → sp (vs ++ zs) H Q E →
    codeAny (model P w) A (.call (.ref f) ⟨us, ks.zip ws⟩) (CR CX outer P w H s Q E) s
section
variable {P : Program} {w : World} {K : KF} {mg : Str → Option Value} {base : Heap} {x qual : Str} {params : Arguments} {body : List Stmt} {scope : Scope} {dvs : List V} {kws : List (Str × V)} {f : Addr} {fd : FuncData}
theorem fnrD_of {CX : CXT} {N ps : List Str} {k : Nat} {sp : Sp} (F : FunD K x qual params body scope dvs kws f fd) (S : FnScope N ps scope) (n j : Nat) (hd : dvs ≠ []) (hn : n + (dvs.length - j) = ps.length)
    (hb : ∀ (T : Addr) (kV doc pm : Value) (an : Option Addr) (cdv ct : Value) (us its : List Value), us.length = n → its.length = dvs.length →
      ∃ k, bindArgs (PySem.W.fnOf x qual params body scope (.ref T) kV doc pm an cdv ct) ⟨us, []⟩ = seqItems? (.ref T) >>= k ∧ k (some its.toArray) = pure (ps.zip (us ++ its.drop j)))
    (len : ∀ vs H Q E, sp vs H Q E → vs.length = ps.length)
    (hbody : ∀ (cdv : Value) (A : Around) (outer : List Env) (s : Shared) (H : Hp) (vs : List V) (Q : VK) (E : XK), Room k (A.deeper (envOfC qual scope s.heap.objs.size f cdv)) → sp vs H Q E →
      ∃ t, PSs (cxOf CX P w K mg base N qual scope f cdv A outer s H E) body t ∧ t { nx := fun _ H' => Q .non H', rt := Q } (start N vs) H) : FnR P w K mg base CX (k + 1) f (fun vs H Q E => sp (vs ++ dvs.drop j) H Q E) := by
  have G : FnOk P w K mg base CX (k + 1) f fd ps sp := F.ok S len hbody
  obtain ⟨ds, r, b⟩ := F.binds1 n j hd hn hb
  exact G.raw b r
/-- .. its keywords are the last parameters, or those behind j defaults -/
theorem fnk_of {CX : CXT} {N ps : List Str} {k : Nat} {sp : Sp} (F : FunD K x qual params body scope dvs kws f fd) (S : FnScope N ps scope) (n i j : Nat) (ks : List Str) (hd : dvs ≠ [])
    (hb : ∀ (T : Addr) (kV doc pm : Value) (an : Option Addr) (cdv ct : Value) (us its ws : List Value), us.length = n → its.length = dvs.length → ws.length = ks.length →
      ∃ k, bindArgs (PySem.W.fnOf x qual params body scope (.ref T) kV doc pm an cdv ct) ⟨us, ks.zip ws⟩ = seqItems? (.ref T) >>= k ∧ k (some its.toArray) = pure (ps.zip (us ++ ((its.take i).drop j ++ ws))))
    (len : ∀ vs H Q E, sp vs H Q E → vs.length = ps.length)
    (hbody : ∀ (cdv : Value) (A : Around) (outer : List Env) (s : Shared) (H : Hp) (vs : List V) (Q : VK) (E : XK), Room k (A.deeper (envOfC qual scope s.heap.objs.size f cdv)) → sp vs H Q E →
      ∃ t, PSs (cxOf CX P w K mg base N qual scope f cdv A outer s H E) body t ∧ t { nx := fun _ H' => Q .non H', rt := Q } (L2.start N vs) H) :
    FnKR P w K mg base CX (k + 1) f n ks (fun vs H Q E => ∃ us zs, vs = us ++ zs ∧ us.length = n ∧ sp (us ++ ((dvs.take i).drop j ++ zs)) H Q E) := by
  have G : FnOk P w K mg base CX (k + 1) f fd ps sp := F.ok S len hbody
  obtain ⟨oc, od, dV, kV, doc, pm, an, cdv, ct, osl, rfl, lk, hcd, hD, hK⟩ := F.ex
  rcases hD with ⟨e, _⟩ | ⟨_, T, o, its, m, rfl, lT, oT, rT⟩
  · exact absurd e hd
  · intro A outer s H us ws vs zs Q E hr he rv rz l1 l2 h
    obtain ⟨us', zs', e1, e2, h⟩ := h
    obtain ⟨e3, e4⟩ := List.append_inj e1 (by rw [e2, rv.length, l1])
    subst e3
    subst e4
    obtain ⟨k', b1, b2⟩ := hb T kV doc pm an cdv ct us its ws l1 rT.length.symm l2
    have hX : K.In s.heap := (he.mod.kin).keeps fun b o e => (he.bs b o e).1
    refine G.run A outer s H ⟨us, ks.zip ws⟩ (us ++ ((its.take i).drop j ++ ws)) _ Q E hr he ?_ (rv.append (((rT.take i).drop j).append rz)) h
    refine BindsTo.of_looks fun M => ?_
    rw [b1]
    exact looks_items hX lT oT (.of_pure b2)
end
section
variable {X : Cx} {CX : CXT} {k n : Nat} {f : Addr} {ks : List Str} {sp : Sp} {E : L2.St → XK} {x : Str} {p pos : Pos} {e : Expr} {es : List Expr} {kws : List Keyword} {t tk : TA}
def tCallK (n m : Nat) (sp : Sp) (E : L2.St → XK) (t tk : TA) : TE := fun σ H Q => t σ H fun vs H1 => tk σ H1 fun zs H2 => vs.length = n ∧ zs.length = m ∧ sp (vs ++ zs) H2 Q (E σ)
theorem pe_callK (F : FnKR X.prog X.w X.K X.mg X.base CX k f n ks sp) (hr : Room k X.A) (hg : Gl X x) (hm : X.mg x = some (.ref f)) (hk : PySem.W.keepIn X.K (.ref f) = true) (hx : PassS CX X E)
    (ha : PA X (e :: es) t) (hkw : PK X kws tk) (hall : (backToKw pos (keywordEach kws X.env)).all (·.1.isSome) = true := by rfl) (hks : (backToKw pos (keywordEach kws X.env)).filterMap (·.1) = ks := by rfl)
    (hdb : (x == ("__debug__" : Str)) = false := by decide) (he : starEach (e :: es) X.env = (false, eval e X.env) :: starEach es X.env := by rfl)
    (hpl : ((backTo pos (starEach (e :: es) X.env)).any (·.1) || (backToKw pos (keywordEach kws X.env)).any (·.1.isNone)) = false := by rfl) :
    PE X (.Call (.Name x p) (e :: es) kws pos) (tCallK n ks.length sp E t tk) := by
  refine ⟨fun pins s σ H Q I h => wpAny_Call_Name_kw (ld_glob I hg hm ?_ hdb)⟩
  refine PySem.W.callWith_KW (h₀ := X.base) I.ok.mod.kin hk hall (thn (ha.run pos pins s σ H _ I h) fun us s1 ⟨vs, H1, I1, r, q⟩ => ?_) hpl he
  refine thn (hkw.run pos pins s1 σ H1 _ I1 q) fun ws s2 ⟨zs, H2, I2, rz, l1, l2, q2⟩ => ⟨I2.kIn, ?_⟩
  rw [hks]
  refine wpAny_call (codeAny_mono (F X.A X.stack s2 H2 us ws vs zs Q (E σ) hr I2.env0 r rz (r.length.symm.trans l1) (rz.length.symm.trans l2) q2) fun r s' hq => ?_)
  match r with
  | .error e => exact hx σ pins H2 s2 e s' I2 hq
  | .ok (.ret _) => exact I2.after hq
  | .ok .next => exact False.elim hq
  | .ok .brk => exact False.elim hq
  | .ok .cont => exact False.elim hq
end
end Ux
set_option Elab.async false
set_option linter.all false
set_option maxRecDepth 100000
set_option maxHeartbeats 2000000
namespace K08
open PySem PySem.Spec PyProof.Rows L2 Ux
/-! ### the text by places -/
def topS (i : Nat) : Stmt := PySem.Challenge.pw_ownlabels_k08_rings_of_numberings.main.body.getD i (.Pass ⟨0, 0, 0, 0⟩)
abbrev s_NoCell___init__ : Stmt := inClass (topS 5) 0
abbrev s_check_size : Stmt := topS 7
abbrev s_Numbering___init__ : Stmt := inClass (topS 9) 1
abbrev s_Numbering_plain : Stmt := inClass (topS 9) 2
abbrev s_Numbering_turn : Stmt := inClass (topS 9) 3
abbrev s_Numbering___call__ : Stmt := inClass (topS 9) 4
abbrev s_Numbering___mul__ : Stmt := inClass (topS 9) 5
abbrev s_Numbering___invert__ : Stmt := inClass (topS 9) 6
abbrev s_Numbering___pow__ : Stmt := inClass (topS 9) 7
abbrev s_Numbering_power : Stmt := inClass (topS 9) 8
abbrev s_Numbering___eq__ : Stmt := inClass (topS 9) 9
abbrev s_Numbering___lt__ : Stmt := inClass (topS 9) 10
abbrev s_Numbering___len__ : Stmt := inClass (topS 9) 11
abbrev s_Numbering___iter__ : Stmt := inClass (topS 9) 12
abbrev s_ring : Stmt := topS 11
abbrev s__law_begin : Stmt := topS 13
abbrev s__law_draw : Stmt := topS 14
abbrev s__law_same : Stmt := topS 15
abbrev s__law_shuffled : Stmt := topS 16
abbrev s__law_refused : Stmt := topS 17
abbrev s_law : Stmt := topS 18
/-! ### names by slot -/
abbrev N_check_size : List Str := ["what", "number", "most"]
theorem sc_check_size : FnScope N_check_size ["what", "number", "most"] (defScope s_check_size) := ⟨rfl, rfl, rfl, by decide +kernel, rfl, by decide +kernel, by decide +kernel⟩
abbrev N_Numbering___init__ : List Str := ["self", "places"]
theorem sc_Numbering___init__ : FnScope N_Numbering___init__ ["self", "places"] (defScope s_Numbering___init__) := ⟨rfl, rfl, rfl, by decide +kernel, rfl, by decide +kernel, by decide +kernel⟩
abbrev N_Numbering_plain : List Str := ["cls", "cells"]
theorem sc_Numbering_plain : FnScope N_Numbering_plain ["cls", "cells"] (defScope s_Numbering_plain) := ⟨rfl, rfl, rfl, by decide +kernel, rfl, by decide +kernel, by decide +kernel⟩
abbrev N_Numbering_turn : List Str := ["cls", "cells", "by", "k"]
theorem sc_Numbering_turn : FnScope N_Numbering_turn ["cls", "cells", "by"] (defScope s_Numbering_turn) := ⟨rfl, rfl, rfl, by decide +kernel, rfl, by decide +kernel, by decide +kernel⟩
abbrev N_Numbering___call__ : List Str := ["self", "k"]
theorem sc_Numbering___call__ : FnScope N_Numbering___call__ ["self", "k"] (defScope s_Numbering___call__) := ⟨rfl, rfl, rfl, by decide +kernel, rfl, by decide +kernel, by decide +kernel⟩
abbrev N_Numbering___mul__ : List Str := ["self", "other", "place"]
theorem sc_Numbering___mul__ : FnScope N_Numbering___mul__ ["self", "other"] (defScope s_Numbering___mul__) := ⟨rfl, rfl, rfl, by decide +kernel, rfl, by decide +kernel, by decide +kernel⟩
abbrev N_Numbering___invert__ : List Str := ["self", "k"]
theorem sc_Numbering___invert__ : FnScope N_Numbering___invert__ ["self"] (defScope s_Numbering___invert__) := ⟨rfl, rfl, rfl, by decide +kernel, rfl, by decide +kernel, by decide +kernel⟩
abbrev N_Numbering___pow__ : List Str := ["self", "other"]
theorem sc_Numbering___pow__ : FnScope N_Numbering___pow__ ["self", "other"] (defScope s_Numbering___pow__) := ⟨rfl, rfl, rfl, by decide +kernel, rfl, by decide +kernel, by decide +kernel⟩
abbrev N_Numbering_power : List Str := ["self", "n", "square", "left", "result"]
theorem sc_Numbering_power : FnScope N_Numbering_power ["self", "n"] (defScope s_Numbering_power) := ⟨rfl, rfl, rfl, by decide +kernel, rfl, by decide +kernel, by decide +kernel⟩
abbrev N_Numbering___eq__ : List Str := ["self", "other"]
theorem sc_Numbering___eq__ : FnScope N_Numbering___eq__ ["self", "other"] (defScope s_Numbering___eq__) := ⟨rfl, rfl, rfl, by decide +kernel, rfl, by decide +kernel, by decide +kernel⟩
abbrev N_Numbering___lt__ : List Str := ["self", "other"]
theorem sc_Numbering___lt__ : FnScope N_Numbering___lt__ ["self", "other"] (defScope s_Numbering___lt__) := ⟨rfl, rfl, rfl, by decide +kernel, rfl, by decide +kernel, by decide +kernel⟩
abbrev N_Numbering___len__ : List Str := ["self"]
theorem sc_Numbering___len__ : FnScope N_Numbering___len__ ["self"] (defScope s_Numbering___len__) := ⟨rfl, rfl, rfl, by decide +kernel, rfl, by decide +kernel, by decide +kernel⟩
abbrev N_Numbering___iter__ : List Str := ["self"]
theorem sc_Numbering___iter__ : FnScope N_Numbering___iter__ ["self"] (defScope s_Numbering___iter__) := ⟨rfl, rfl, rfl, by decide +kernel, rfl, by decide +kernel, by decide +kernel⟩
abbrev N_ring : List Str := ["base", "size", "cells", "turns", "i", "turn"]
theorem sc_ring : FnScope N_ring ["base", "size"] (defScope s_ring) := ⟨rfl, rfl, rfl, by decide +kernel, rfl, by decide +kernel, by decide +kernel⟩
abbrev N__law_begin : List Str := ["_law_script"]
theorem sc__law_begin : FnScope N__law_begin ["_law_script"] (defScope s__law_begin) := ⟨rfl, rfl, rfl, by decide +kernel, rfl, by decide +kernel, by decide +kernel⟩
abbrev N__law_draw : List Str := ["_law_tape", "_law_many", "_law_cell", "_law_number"]
theorem sc__law_draw : FnScope N__law_draw ["_law_tape", "_law_many"] (defScope s__law_draw) := ⟨rfl, rfl, rfl, by decide +kernel, rfl, by decide +kernel, by decide +kernel⟩
abbrev N__law_same : List Str := ["_law_actual", "_law_expected", "_law_k"]
theorem sc__law_same : FnScope N__law_same ["_law_actual", "_law_expected"] (defScope s__law_same) := ⟨rfl, rfl, rfl, by decide +kernel, rfl, by decide +kernel, by decide +kernel⟩
abbrev N__law_shuffled : List Str := ["_law_tape", "_law_cells", "_law_left", "_law_places", "_law_k"]
theorem sc__law_shuffled : FnScope N__law_shuffled ["_law_tape", "_law_cells"] (defScope s__law_shuffled) := ⟨rfl, rfl, rfl, by decide +kernel, rfl, by decide +kernel, by decide +kernel⟩
abbrev N__law_refused : List Str := ["_law_base", "_law_size", "e"]
theorem sc__law_refused : FnScope N__law_refused ["_law_base", "_law_size"] (defScope s__law_refused) := ⟨rfl, rfl, rfl, by decide +kernel, rfl, by decide +kernel, by decide +kernel⟩
abbrev N_law : List Str := ["_law_script", "_law_tape", "_law_cells", "_law_places", "_law_base", "_law_size", "_law_found", "_law_i", "_law_step", "_law_expected", "_law_odd", "_law_place"]
theorem sc_law : FnScope N_law ["_law_script"] (defScope s_law) := ⟨rfl, rfl, rfl, by decide +kernel, rfl, by decide +kernel, by decide +kernel⟩
/-! ### facts of the top -/
def fa : List Fc := [fFree "ValueError",
  fFree "abs",
  fFree "bool",
  fFree "int",
  fFree "isinstance",
  fFree "iter",
  fFree "len",
  fFree "list",
  fFree "range",
  fFree "sorted",
  fFree "str",
  fFree "super",
  fFree "tuple",
  fGlo "check_size",
  fGlo "ring",
  fGlo "_law_begin",
  fGlo "_law_draw",
  fGlo "_law_same",
  fGlo "_law_shuffled",
  fGlo "_law_refused",
  fGlo "law",
  fGlo "HallError",
  fExc "HallError",
  fGlo "BadNumbering",
  fExc "BadNumbering",
  fGlo "BadSize",
  fExc "BadSize",
  fGlo "NoObstacle",
  fExc "NoObstacle",
  fGlo "NoCell",
  fErr "NoCell" "cell",
  fXf "NoCell",
  fGlo "Numbering",
  fCls "Numbering",
  fRead "Numbering",
  fIsi "Numbering",
  fKit "Numbering" "Numbering" true,
  fCval "Numbering" "MOST" (.int 12),
  fMk "Numbering",
  fNoat "Numbering" "places",
  fCmet "Numbering" "plain",
  fCmet "Numbering" "turn",
  fOp "Numbering" "__call__",
  fOp "Numbering" "__mul__",
  fOp "Numbering" "__invert__",
  fOpI "Numbering" "__pow__" "__rpow__",
  fOp "Numbering" "__pow__",
  fMeth "Numbering" "power",
  fOp "Numbering" "__eq__",
  fOp "Numbering" "__lt__",
  fOp "Numbering" "__len__",
  fOp "Numbering" "__iter__",
  fExcC "HallError",
  fExm "HallError" "BadSize" false,
  fExm "HallError" "HallError" true,
  fKit "HallError" "BadNumbering" false,
  fKit "HallError" "HallError" true,
  fKit "HallError" "NoObstacle" false,
  fExcC "BadNumbering",
  fExm "BadNumbering" "BadSize" false,
  fExm "BadNumbering" "HallError" true,
  fKit "BadNumbering" "BadNumbering" true,
  fKit "BadNumbering" "HallError" true,
  fKit "BadNumbering" "NoObstacle" false,
  fExcC "BadSize",
  fExm "BadSize" "BadSize" true,
  fExm "BadSize" "HallError" true,
  fKit "BadSize" "BadNumbering" false,
  fKit "BadSize" "HallError" true,
  fKit "BadSize" "NoObstacle" false,
  fExcC "NoObstacle",
  fExm "NoObstacle" "BadSize" false,
  fExm "NoObstacle" "HallError" true,
  fKit "NoObstacle" "BadNumbering" false,
  fKit "NoObstacle" "HallError" true,
  fKit "NoObstacle" "NoObstacle" true,
  fExcC "NoCell",
  fExm "NoCell" "BadSize" false,
  fExm "NoCell" "HallError" true,
  fKit "NoCell" "BadNumbering" false,
  fKit "NoCell" "HallError" true,
  fKit "NoCell" "NoObstacle" false]
def d_NoCell___init__ : DefU := ⟨.emem "NoCell" "__init__", "__init__", "NoCell.__init__", defArgs s_NoCell___init__, defBody s_NoCell___init__, defScope s_NoCell___init__, [], []⟩
def d_check_size : DefU := ⟨.glo "check_size", "check_size", "check_size", defArgs s_check_size, defBody s_check_size, defScope s_check_size, [], []⟩
def d_Numbering___init__ : DefU := ⟨.mem "Numbering" "__init__", "__init__", "Numbering.__init__", defArgs s_Numbering___init__, defBody s_Numbering___init__, defScope s_Numbering___init__, [], []⟩
def d_Numbering_plain : DefU := ⟨.cmem "Numbering" "plain", "plain", "Numbering.plain", defArgs s_Numbering_plain, defBody s_Numbering_plain, defScope s_Numbering_plain, [], []⟩
def d_Numbering_turn : DefU := ⟨.cmem "Numbering" "turn", "turn", "Numbering.turn", defArgs s_Numbering_turn, defBody s_Numbering_turn, defScope s_Numbering_turn, [], []⟩
def d_Numbering___call__ : DefU := ⟨.mem "Numbering" "__call__", "__call__", "Numbering.__call__", defArgs s_Numbering___call__, defBody s_Numbering___call__, defScope s_Numbering___call__, [], []⟩
def d_Numbering___mul__ : DefU := ⟨.mem "Numbering" "__mul__", "__mul__", "Numbering.__mul__", defArgs s_Numbering___mul__, defBody s_Numbering___mul__, defScope s_Numbering___mul__, [], []⟩
def d_Numbering___invert__ : DefU := ⟨.mem "Numbering" "__invert__", "__invert__", "Numbering.__invert__", defArgs s_Numbering___invert__, defBody s_Numbering___invert__, defScope s_Numbering___invert__, [], []⟩
def d_Numbering___pow__ : DefU := ⟨.mem "Numbering" "__pow__", "__pow__", "Numbering.__pow__", defArgs s_Numbering___pow__, defBody s_Numbering___pow__, defScope s_Numbering___pow__, [], []⟩
def d_Numbering_power : DefU := ⟨.mem "Numbering" "power", "power", "Numbering.power", defArgs s_Numbering_power, defBody s_Numbering_power, defScope s_Numbering_power, [], []⟩
def d_Numbering___eq__ : DefU := ⟨.mem "Numbering" "__eq__", "__eq__", "Numbering.__eq__", defArgs s_Numbering___eq__, defBody s_Numbering___eq__, defScope s_Numbering___eq__, [], []⟩
def d_Numbering___lt__ : DefU := ⟨.mem "Numbering" "__lt__", "__lt__", "Numbering.__lt__", defArgs s_Numbering___lt__, defBody s_Numbering___lt__, defScope s_Numbering___lt__, [], []⟩
def d_Numbering___len__ : DefU := ⟨.mem "Numbering" "__len__", "__len__", "Numbering.__len__", defArgs s_Numbering___len__, defBody s_Numbering___len__, defScope s_Numbering___len__, [], []⟩
def d_Numbering___iter__ : DefU := ⟨.mem "Numbering" "__iter__", "__iter__", "Numbering.__iter__", defArgs s_Numbering___iter__, defBody s_Numbering___iter__, defScope s_Numbering___iter__, [], []⟩
def d_ring : DefU := ⟨.glo "ring", "ring", "ring", defArgs s_ring, defBody s_ring, defScope s_ring, [], []⟩
def d__law_begin : DefU := ⟨.glo "_law_begin", "_law_begin", "_law_begin", defArgs s__law_begin, defBody s__law_begin, defScope s__law_begin, [], []⟩
def d__law_draw : DefU := ⟨.glo "_law_draw", "_law_draw", "_law_draw", defArgs s__law_draw, defBody s__law_draw, defScope s__law_draw, [], []⟩
def d__law_same : DefU := ⟨.glo "_law_same", "_law_same", "_law_same", defArgs s__law_same, defBody s__law_same, defScope s__law_same, [], []⟩
def d__law_shuffled : DefU := ⟨.glo "_law_shuffled", "_law_shuffled", "_law_shuffled", defArgs s__law_shuffled, defBody s__law_shuffled, defScope s__law_shuffled, [], []⟩
def d__law_refused : DefU := ⟨.glo "_law_refused", "_law_refused", "_law_refused", defArgs s__law_refused, defBody s__law_refused, defScope s__law_refused, [], []⟩
def d_law : DefU := ⟨.glo "law", "law", "law", defArgs s_law, defBody s_law, defScope s_law, [], []⟩
def fn : List DefU := [d_check_size, d_Numbering___init__, d_Numbering_plain, d_Numbering_turn, d_Numbering___call__, d_Numbering___mul__, d_Numbering___invert__, d_Numbering___pow__, d_Numbering_power, d_Numbering___eq__, d_Numbering___lt__, d_Numbering___len__, d_Numbering___iter__, d_ring, d__law_begin, d__law_draw, d__law_same, d__law_shuffled, d__law_refused, d_law, d_NoCell___init__]
section
variable {K : KF} {mg : Str → Option Value}
theorem f_ValueError (T : Tx fa fn K mg) : mg "ValueError" = none := T.free (T.fact 0)
theorem f_abs (T : Tx fa fn K mg) : mg "abs" = none := T.free (T.fact 1)
theorem f_bool (T : Tx fa fn K mg) : mg "bool" = none := T.free (T.fact 2)
theorem f_int (T : Tx fa fn K mg) : mg "int" = none := T.free (T.fact 3)
theorem f_isinstance (T : Tx fa fn K mg) : mg "isinstance" = none := T.free (T.fact 4)
theorem f_iter (T : Tx fa fn K mg) : mg "iter" = none := T.free (T.fact 5)
theorem f_len (T : Tx fa fn K mg) : mg "len" = none := T.free (T.fact 6)
theorem f_list (T : Tx fa fn K mg) : mg "list" = none := T.free (T.fact 7)
theorem f_range (T : Tx fa fn K mg) : mg "range" = none := T.free (T.fact 8)
theorem f_sorted (T : Tx fa fn K mg) : mg "sorted" = none := T.free (T.fact 9)
theorem f_str (T : Tx fa fn K mg) : mg "str" = none := T.free (T.fact 10)
theorem f_super (T : Tx fa fn K mg) : mg "super" = none := T.free (T.fact 11)
theorem f_tuple (T : Tx fa fn K mg) : mg "tuple" = none := T.free (T.fact 12)
theorem g_check_size (T : Tx fa fn K mg) : mg "check_size" = some (.ref (He.ga K "check_size")) := T.glo (T.fact 13)
theorem kq_check_size (T : Tx fa fn K mg) : PySem.W.keepIn K (.ref (He.ga K "check_size")) = true := kp_ok (T.fact 13)
theorem g_ring (T : Tx fa fn K mg) : mg "ring" = some (.ref (He.ga K "ring")) := T.glo (T.fact 14)
theorem kq_ring (T : Tx fa fn K mg) : PySem.W.keepIn K (.ref (He.ga K "ring")) = true := kp_ok (T.fact 14)
theorem g__law_begin (T : Tx fa fn K mg) : mg "_law_begin" = some (.ref (He.ga K "_law_begin")) := T.glo (T.fact 15)
theorem kq__law_begin (T : Tx fa fn K mg) : PySem.W.keepIn K (.ref (He.ga K "_law_begin")) = true := kp_ok (T.fact 15)
theorem g__law_draw (T : Tx fa fn K mg) : mg "_law_draw" = some (.ref (He.ga K "_law_draw")) := T.glo (T.fact 16)
theorem kq__law_draw (T : Tx fa fn K mg) : PySem.W.keepIn K (.ref (He.ga K "_law_draw")) = true := kp_ok (T.fact 16)
theorem g__law_same (T : Tx fa fn K mg) : mg "_law_same" = some (.ref (He.ga K "_law_same")) := T.glo (T.fact 17)
theorem kq__law_same (T : Tx fa fn K mg) : PySem.W.keepIn K (.ref (He.ga K "_law_same")) = true := kp_ok (T.fact 17)
theorem g__law_shuffled (T : Tx fa fn K mg) : mg "_law_shuffled" = some (.ref (He.ga K "_law_shuffled")) := T.glo (T.fact 18)
theorem kq__law_shuffled (T : Tx fa fn K mg) : PySem.W.keepIn K (.ref (He.ga K "_law_shuffled")) = true := kp_ok (T.fact 18)
theorem g__law_refused (T : Tx fa fn K mg) : mg "_law_refused" = some (.ref (He.ga K "_law_refused")) := T.glo (T.fact 19)
theorem kq__law_refused (T : Tx fa fn K mg) : PySem.W.keepIn K (.ref (He.ga K "_law_refused")) = true := kp_ok (T.fact 19)
theorem g_law (T : Tx fa fn K mg) : mg "law" = some (.ref (He.ga K "law")) := T.glo (T.fact 20)
theorem kq_law (T : Tx fa fn K mg) : PySem.W.keepIn K (.ref (He.ga K "law")) = true := kp_ok (T.fact 20)
theorem g_HallError (T : Tx fa fn K mg) : mg "HallError" = some (.ref (He.ga K "HallError")) := T.glo (T.fact 21)
theorem kq_HallError (T : Tx fa fn K mg) : PySem.W.keepIn K (.ref (He.ga K "HallError")) = true := kp_ok (T.fact 21)
theorem x_HallError (T : Tx fa fn K mg) : PySem.W.excIn K (He.ga K "HallError") He.veBase "ValueError.__new__" = true ∧ PySem.W.keepIn K (.ref (He.ga K "HallError")) = true ∧ PySem.W.subIn K (.ref (He.ga K "HallError")) (.type "BaseException") = some true ∧ PySem.W.typeIn K (.ref (He.ga K "HallError")) = some (.type "type") := He.exc_ok (T.fact 22)
theorem g_BadNumbering (T : Tx fa fn K mg) : mg "BadNumbering" = some (.ref (He.ga K "BadNumbering")) := T.glo (T.fact 23)
theorem kq_BadNumbering (T : Tx fa fn K mg) : PySem.W.keepIn K (.ref (He.ga K "BadNumbering")) = true := kp_ok (T.fact 23)
theorem x_BadNumbering (T : Tx fa fn K mg) : PySem.W.excIn K (He.ga K "BadNumbering") He.veBase "ValueError.__new__" = true ∧ PySem.W.keepIn K (.ref (He.ga K "BadNumbering")) = true ∧ PySem.W.subIn K (.ref (He.ga K "BadNumbering")) (.type "BaseException") = some true ∧ PySem.W.typeIn K (.ref (He.ga K "BadNumbering")) = some (.type "type") := He.exc_ok (T.fact 24)
theorem g_BadSize (T : Tx fa fn K mg) : mg "BadSize" = some (.ref (He.ga K "BadSize")) := T.glo (T.fact 25)
theorem kq_BadSize (T : Tx fa fn K mg) : PySem.W.keepIn K (.ref (He.ga K "BadSize")) = true := kp_ok (T.fact 25)
theorem x_BadSize (T : Tx fa fn K mg) : PySem.W.excIn K (He.ga K "BadSize") He.veBase "ValueError.__new__" = true ∧ PySem.W.keepIn K (.ref (He.ga K "BadSize")) = true ∧ PySem.W.subIn K (.ref (He.ga K "BadSize")) (.type "BaseException") = some true ∧ PySem.W.typeIn K (.ref (He.ga K "BadSize")) = some (.type "type") := He.exc_ok (T.fact 26)
theorem g_NoObstacle (T : Tx fa fn K mg) : mg "NoObstacle" = some (.ref (He.ga K "NoObstacle")) := T.glo (T.fact 27)
theorem kq_NoObstacle (T : Tx fa fn K mg) : PySem.W.keepIn K (.ref (He.ga K "NoObstacle")) = true := kp_ok (T.fact 27)
theorem x_NoObstacle (T : Tx fa fn K mg) : PySem.W.excIn K (He.ga K "NoObstacle") He.veBase "ValueError.__new__" = true ∧ PySem.W.keepIn K (.ref (He.ga K "NoObstacle")) = true ∧ PySem.W.subIn K (.ref (He.ga K "NoObstacle")) (.type "BaseException") = some true ∧ PySem.W.typeIn K (.ref (He.ga K "NoObstacle")) = some (.type "type") := He.exc_ok (T.fact 28)
theorem g_NoCell (T : Tx fa fn K mg) : mg "NoCell" = some (.ref (He.ga K "NoCell")) := T.glo (T.fact 29)
theorem kq_NoCell (T : Tx fa fn K mg) : PySem.W.keepIn K (.ref (He.ga K "NoCell")) = true := kp_ok (T.fact 29)
theorem er_NoCell (T : Tx fa fn K mg) : fErr "NoCell" "cell" K = true := T.fact 30
theorem xf_NoCell (T : Tx fa fn K mg) : XfC K (He.ga K "NoCell") := xf_ok (T.fact 31)
theorem g_Numbering (T : Tx fa fn K mg) : mg "Numbering" = some (.ref (He.ga K "Numbering")) := T.glo (T.fact 32)
theorem kq_Numbering (T : Tx fa fn K mg) : PySem.W.keepIn K (.ref (He.ga K "Numbering")) = true := kp_ok (T.fact 32)
theorem c_Numbering (T : Tx fa fn K mg) : Cls K (He.ga K "Numbering") := He.cls_ok (T.fact 33)
theorem r_Numbering (T : Tx fa fn K mg) : ClX.CRead K (He.ga K "Numbering") (.type "type") := read_ok (T.fact 34)
theorem i_Numbering (T : Tx fa fn K mg) : PySem.W.isClsIn K (He.ga K "Numbering") = true ∧ SlX.SIsi K (He.ga K "Numbering") := isi_ok (T.fact 35)
theorem k_Numbering_Numbering (T : Tx fa fn K mg) : PySem.W.kitOne K (.ref (He.ga K "Numbering")) (.ref (He.ga K "Numbering")) = some true := kit_ok (T.fact 36)
theorem v_Numbering_MOST (T : Tx fa fn K mg) : ∃ u, ClX.CVal K (He.ga K "Numbering") (.type "type") "MOST" (.int 12) u := cval_ok (T.fact 37)
theorem m_Numbering (T : Tx fa fn K mg) : Mk K (He.ga K "Numbering") (He.ma K (He.ga K "Numbering") "__init__") := He.mkr_ok (T.fact 38)
theorem n_Numbering_places (T : Tx fa fn K mg) : NoAttr K (He.ga K "Numbering") "places" := He.noat_ok (T.fact 39)
theorem cm_Numbering_plain (T : Tx fa fn K mg) : ClX.CMet K (He.ga K "Numbering") (.type "type") "plain" (He.ma K (He.ga K "Numbering") "plain") (rcG K (He.ma K (He.ga K "Numbering") "plain") "classmethod") := cmet_ok (T.fact 40)
theorem cm_Numbering_turn (T : Tx fa fn K mg) : ClX.CMet K (He.ga K "Numbering") (.type "type") "turn" (He.ma K (He.ga K "Numbering") "turn") (rcG K (He.ma K (He.ga K "Numbering") "turn") "classmethod") := cmet_ok (T.fact 41)
theorem o_Numbering___call__ (T : Tx fa fn K mg) : OpT K (He.ga K "Numbering") (He.ma K (He.ga K "Numbering") "__call__") "__call__" := op_ok (T.fact 42)
theorem o_Numbering___mul__ (T : Tx fa fn K mg) : OpT K (He.ga K "Numbering") (He.ma K (He.ga K "Numbering") "__mul__") "__mul__" := op_ok (T.fact 43)
theorem o_Numbering___invert__ (T : Tx fa fn K mg) : OpT K (He.ga K "Numbering") (He.ma K (He.ga K "Numbering") "__invert__") "__invert__" := op_ok (T.fact 44)
theorem oi_Numbering___pow__ (T : Tx fa fn K mg) : OpI K (He.ga K "Numbering") (He.ma K (He.ga K "Numbering") "__pow__") "__pow__" "__rpow__" := opI_ok (T.fact 45)
theorem o_Numbering___pow__ (T : Tx fa fn K mg) : OpT K (He.ga K "Numbering") (He.ma K (He.ga K "Numbering") "__pow__") "__pow__" := op_ok (T.fact 46)
theorem me_Numbering_power (T : Tx fa fn K mg) : Meth K (He.ga K "Numbering") "power" (He.ma K (He.ga K "Numbering") "power") := He.meth_ok (T.fact 47)
theorem o_Numbering___eq__ (T : Tx fa fn K mg) : OpT K (He.ga K "Numbering") (He.ma K (He.ga K "Numbering") "__eq__") "__eq__" := op_ok (T.fact 48)
theorem o_Numbering___lt__ (T : Tx fa fn K mg) : OpT K (He.ga K "Numbering") (He.ma K (He.ga K "Numbering") "__lt__") "__lt__" := op_ok (T.fact 49)
theorem o_Numbering___len__ (T : Tx fa fn K mg) : OpT K (He.ga K "Numbering") (He.ma K (He.ga K "Numbering") "__len__") "__len__" := op_ok (T.fact 50)
theorem o_Numbering___iter__ (T : Tx fa fn K mg) : OpT K (He.ga K "Numbering") (He.ma K (He.ga K "Numbering") "__iter__") "__iter__" := op_ok (T.fact 51)
theorem e_HallError (T : Tx fa fn K mg) : ExcC K (He.ga K "HallError") := excC_ok (T.fact 52)
theorem exm_HallError_BadSize (T : Tx fa fn K mg) : PySem.W.exmOne K (.ref (He.ga K "HallError")) (.ref (He.ga K "BadSize")) = some false := He.exm_ok (T.fact 53)
theorem exm_HallError_HallError (T : Tx fa fn K mg) : PySem.W.exmOne K (.ref (He.ga K "HallError")) (.ref (He.ga K "HallError")) = some true := He.exm_ok (T.fact 54)
theorem kit_HallError_BadNumbering (T : Tx fa fn K mg) : PySem.W.kitOne K (.ref (He.ga K "HallError")) (.ref (He.ga K "BadNumbering")) = some false := kit_ok (T.fact 55)
theorem kit_HallError_HallError (T : Tx fa fn K mg) : PySem.W.kitOne K (.ref (He.ga K "HallError")) (.ref (He.ga K "HallError")) = some true := kit_ok (T.fact 56)
theorem kit_HallError_NoObstacle (T : Tx fa fn K mg) : PySem.W.kitOne K (.ref (He.ga K "HallError")) (.ref (He.ga K "NoObstacle")) = some false := kit_ok (T.fact 57)
theorem e_BadNumbering (T : Tx fa fn K mg) : ExcC K (He.ga K "BadNumbering") := excC_ok (T.fact 58)
theorem exm_BadNumbering_BadSize (T : Tx fa fn K mg) : PySem.W.exmOne K (.ref (He.ga K "BadNumbering")) (.ref (He.ga K "BadSize")) = some false := He.exm_ok (T.fact 59)
theorem exm_BadNumbering_HallError (T : Tx fa fn K mg) : PySem.W.exmOne K (.ref (He.ga K "BadNumbering")) (.ref (He.ga K "HallError")) = some true := He.exm_ok (T.fact 60)
theorem kit_BadNumbering_BadNumbering (T : Tx fa fn K mg) : PySem.W.kitOne K (.ref (He.ga K "BadNumbering")) (.ref (He.ga K "BadNumbering")) = some true := kit_ok (T.fact 61)
theorem kit_BadNumbering_HallError (T : Tx fa fn K mg) : PySem.W.kitOne K (.ref (He.ga K "BadNumbering")) (.ref (He.ga K "HallError")) = some true := kit_ok (T.fact 62)
theorem kit_BadNumbering_NoObstacle (T : Tx fa fn K mg) : PySem.W.kitOne K (.ref (He.ga K "BadNumbering")) (.ref (He.ga K "NoObstacle")) = some false := kit_ok (T.fact 63)
theorem e_BadSize (T : Tx fa fn K mg) : ExcC K (He.ga K "BadSize") := excC_ok (T.fact 64)
theorem exm_BadSize_BadSize (T : Tx fa fn K mg) : PySem.W.exmOne K (.ref (He.ga K "BadSize")) (.ref (He.ga K "BadSize")) = some true := He.exm_ok (T.fact 65)
theorem exm_BadSize_HallError (T : Tx fa fn K mg) : PySem.W.exmOne K (.ref (He.ga K "BadSize")) (.ref (He.ga K "HallError")) = some true := He.exm_ok (T.fact 66)
theorem kit_BadSize_BadNumbering (T : Tx fa fn K mg) : PySem.W.kitOne K (.ref (He.ga K "BadSize")) (.ref (He.ga K "BadNumbering")) = some false := kit_ok (T.fact 67)
theorem kit_BadSize_HallError (T : Tx fa fn K mg) : PySem.W.kitOne K (.ref (He.ga K "BadSize")) (.ref (He.ga K "HallError")) = some true := kit_ok (T.fact 68)
theorem kit_BadSize_NoObstacle (T : Tx fa fn K mg) : PySem.W.kitOne K (.ref (He.ga K "BadSize")) (.ref (He.ga K "NoObstacle")) = some false := kit_ok (T.fact 69)
theorem e_NoObstacle (T : Tx fa fn K mg) : ExcC K (He.ga K "NoObstacle") := excC_ok (T.fact 70)
theorem exm_NoObstacle_BadSize (T : Tx fa fn K mg) : PySem.W.exmOne K (.ref (He.ga K "NoObstacle")) (.ref (He.ga K "BadSize")) = some false := He.exm_ok (T.fact 71)
theorem exm_NoObstacle_HallError (T : Tx fa fn K mg) : PySem.W.exmOne K (.ref (He.ga K "NoObstacle")) (.ref (He.ga K "HallError")) = some true := He.exm_ok (T.fact 72)
theorem kit_NoObstacle_BadNumbering (T : Tx fa fn K mg) : PySem.W.kitOne K (.ref (He.ga K "NoObstacle")) (.ref (He.ga K "BadNumbering")) = some false := kit_ok (T.fact 73)
theorem kit_NoObstacle_HallError (T : Tx fa fn K mg) : PySem.W.kitOne K (.ref (He.ga K "NoObstacle")) (.ref (He.ga K "HallError")) = some true := kit_ok (T.fact 74)
theorem kit_NoObstacle_NoObstacle (T : Tx fa fn K mg) : PySem.W.kitOne K (.ref (He.ga K "NoObstacle")) (.ref (He.ga K "NoObstacle")) = some true := kit_ok (T.fact 75)
theorem e_NoCell (T : Tx fa fn K mg) : ExcC K (He.ga K "NoCell") := excC_ok (T.fact 76)
theorem exm_NoCell_BadSize (T : Tx fa fn K mg) : PySem.W.exmOne K (.ref (He.ga K "NoCell")) (.ref (He.ga K "BadSize")) = some false := He.exm_ok (T.fact 77)
theorem exm_NoCell_HallError (T : Tx fa fn K mg) : PySem.W.exmOne K (.ref (He.ga K "NoCell")) (.ref (He.ga K "HallError")) = some true := He.exm_ok (T.fact 78)
theorem kit_NoCell_BadNumbering (T : Tx fa fn K mg) : PySem.W.kitOne K (.ref (He.ga K "NoCell")) (.ref (He.ga K "BadNumbering")) = some false := kit_ok (T.fact 79)
theorem kit_NoCell_HallError (T : Tx fa fn K mg) : PySem.W.kitOne K (.ref (He.ga K "NoCell")) (.ref (He.ga K "HallError")) = some true := kit_ok (T.fact 80)
theorem kit_NoCell_NoObstacle (T : Tx fa fn K mg) : PySem.W.kitOne K (.ref (He.ga K "NoCell")) (.ref (He.ga K "NoObstacle")) = some false := kit_ok (T.fact 81)
theorem F_check_size (T : Tx fa fn K mg) : ∃ fd, FunD K d_check_size.name d_check_size.qual d_check_size.params d_check_size.body d_check_size.scope (d_check_size.dvs K) (d_check_size.kws K) (d_check_size.at_.ad K) fd := T.def_ 0
theorem F_Numbering___init__ (T : Tx fa fn K mg) : ∃ fd, FunD K d_Numbering___init__.name d_Numbering___init__.qual d_Numbering___init__.params d_Numbering___init__.body d_Numbering___init__.scope (d_Numbering___init__.dvs K) (d_Numbering___init__.kws K) (d_Numbering___init__.at_.ad K) fd := T.def_ 1
theorem F_Numbering_plain (T : Tx fa fn K mg) : ∃ fd, FunD K d_Numbering_plain.name d_Numbering_plain.qual d_Numbering_plain.params d_Numbering_plain.body d_Numbering_plain.scope (d_Numbering_plain.dvs K) (d_Numbering_plain.kws K) (d_Numbering_plain.at_.ad K) fd := T.def_ 2
theorem F_Numbering_turn (T : Tx fa fn K mg) : ∃ fd, FunD K d_Numbering_turn.name d_Numbering_turn.qual d_Numbering_turn.params d_Numbering_turn.body d_Numbering_turn.scope (d_Numbering_turn.dvs K) (d_Numbering_turn.kws K) (d_Numbering_turn.at_.ad K) fd := T.def_ 3
theorem F_Numbering___call__ (T : Tx fa fn K mg) : ∃ fd, FunD K d_Numbering___call__.name d_Numbering___call__.qual d_Numbering___call__.params d_Numbering___call__.body d_Numbering___call__.scope (d_Numbering___call__.dvs K) (d_Numbering___call__.kws K) (d_Numbering___call__.at_.ad K) fd := T.def_ 4
theorem F_Numbering___mul__ (T : Tx fa fn K mg) : ∃ fd, FunD K d_Numbering___mul__.name d_Numbering___mul__.qual d_Numbering___mul__.params d_Numbering___mul__.body d_Numbering___mul__.scope (d_Numbering___mul__.dvs K) (d_Numbering___mul__.kws K) (d_Numbering___mul__.at_.ad K) fd := T.def_ 5
theorem F_Numbering___invert__ (T : Tx fa fn K mg) : ∃ fd, FunD K d_Numbering___invert__.name d_Numbering___invert__.qual d_Numbering___invert__.params d_Numbering___invert__.body d_Numbering___invert__.scope (d_Numbering___invert__.dvs K) (d_Numbering___invert__.kws K) (d_Numbering___invert__.at_.ad K) fd := T.def_ 6
theorem F_Numbering___pow__ (T : Tx fa fn K mg) : ∃ fd, FunD K d_Numbering___pow__.name d_Numbering___pow__.qual d_Numbering___pow__.params d_Numbering___pow__.body d_Numbering___pow__.scope (d_Numbering___pow__.dvs K) (d_Numbering___pow__.kws K) (d_Numbering___pow__.at_.ad K) fd := T.def_ 7
theorem F_Numbering_power (T : Tx fa fn K mg) : ∃ fd, FunD K d_Numbering_power.name d_Numbering_power.qual d_Numbering_power.params d_Numbering_power.body d_Numbering_power.scope (d_Numbering_power.dvs K) (d_Numbering_power.kws K) (d_Numbering_power.at_.ad K) fd := T.def_ 8
theorem F_Numbering___eq__ (T : Tx fa fn K mg) : ∃ fd, FunD K d_Numbering___eq__.name d_Numbering___eq__.qual d_Numbering___eq__.params d_Numbering___eq__.body d_Numbering___eq__.scope (d_Numbering___eq__.dvs K) (d_Numbering___eq__.kws K) (d_Numbering___eq__.at_.ad K) fd := T.def_ 9
theorem F_Numbering___lt__ (T : Tx fa fn K mg) : ∃ fd, FunD K d_Numbering___lt__.name d_Numbering___lt__.qual d_Numbering___lt__.params d_Numbering___lt__.body d_Numbering___lt__.scope (d_Numbering___lt__.dvs K) (d_Numbering___lt__.kws K) (d_Numbering___lt__.at_.ad K) fd := T.def_ 10
theorem F_Numbering___len__ (T : Tx fa fn K mg) : ∃ fd, FunD K d_Numbering___len__.name d_Numbering___len__.qual d_Numbering___len__.params d_Numbering___len__.body d_Numbering___len__.scope (d_Numbering___len__.dvs K) (d_Numbering___len__.kws K) (d_Numbering___len__.at_.ad K) fd := T.def_ 11
theorem F_Numbering___iter__ (T : Tx fa fn K mg) : ∃ fd, FunD K d_Numbering___iter__.name d_Numbering___iter__.qual d_Numbering___iter__.params d_Numbering___iter__.body d_Numbering___iter__.scope (d_Numbering___iter__.dvs K) (d_Numbering___iter__.kws K) (d_Numbering___iter__.at_.ad K) fd := T.def_ 12
theorem F_ring (T : Tx fa fn K mg) : ∃ fd, FunD K d_ring.name d_ring.qual d_ring.params d_ring.body d_ring.scope (d_ring.dvs K) (d_ring.kws K) (d_ring.at_.ad K) fd := T.def_ 13
theorem F__law_begin (T : Tx fa fn K mg) : ∃ fd, FunD K d__law_begin.name d__law_begin.qual d__law_begin.params d__law_begin.body d__law_begin.scope (d__law_begin.dvs K) (d__law_begin.kws K) (d__law_begin.at_.ad K) fd := T.def_ 14
theorem F__law_draw (T : Tx fa fn K mg) : ∃ fd, FunD K d__law_draw.name d__law_draw.qual d__law_draw.params d__law_draw.body d__law_draw.scope (d__law_draw.dvs K) (d__law_draw.kws K) (d__law_draw.at_.ad K) fd := T.def_ 15
theorem F__law_same (T : Tx fa fn K mg) : ∃ fd, FunD K d__law_same.name d__law_same.qual d__law_same.params d__law_same.body d__law_same.scope (d__law_same.dvs K) (d__law_same.kws K) (d__law_same.at_.ad K) fd := T.def_ 16
theorem F__law_shuffled (T : Tx fa fn K mg) : ∃ fd, FunD K d__law_shuffled.name d__law_shuffled.qual d__law_shuffled.params d__law_shuffled.body d__law_shuffled.scope (d__law_shuffled.dvs K) (d__law_shuffled.kws K) (d__law_shuffled.at_.ad K) fd := T.def_ 17
theorem F__law_refused (T : Tx fa fn K mg) : ∃ fd, FunD K d__law_refused.name d__law_refused.qual d__law_refused.params d__law_refused.body d__law_refused.scope (d__law_refused.dvs K) (d__law_refused.kws K) (d__law_refused.at_.ad K) fd := T.def_ 18
theorem F_law (T : Tx fa fn K mg) : ∃ fd, FunD K d_law.name d_law.qual d_law.params d_law.body d_law.scope (d_law.dvs K) (d_law.kws K) (d_law.at_.ad K) fd := T.def_ 19
theorem Z_NoCell : SuX.ErrX "cell" "NoCell.__init__" (defArgs s_NoCell___init__) (errArg (defBody s_NoCell___init__)) (defScope s_NoCell___init__) (defBody s_NoCell___init__) := ⟨⟨_, _, _, _, _, _, _, _, _, rfl, fun _ _ _ _ => ⟨rfl, rfl, rfl, _, rfl, rfl, rfl, rfl⟩⟩, fun _ _ _ _ _ _ _ _ _ => rfl, ⟨_, _, rfl, rfl⟩, rfl, rfl, rfl, by decide +kernel, by decide +kernel, by decide +kernel, by decide +kernel, by decide +kernel, by decide, by decide⟩
theorem ET_NoCell (T : Tx fa fn K mg) : SuX.ErrT K mg "NoCell" "cell" (defArgs s_NoCell___init__) (errArg (defBody s_NoCell___init__)) (defScope s_NoCell___init__) (defBody s_NoCell___init__) "NoCell.__init__" (He.ga K "NoCell") (He.ma K (He.ga K "NoCell") "__init__") := err_ok T (T.fact 30) (T.defE 20)
theorem J_NoCell (v : V) (u : Value) (h : FineV v) (r : RelV v u) : SuX.JOk "cell" (errArg (defBody s_NoCell___init__)) u := SuX.jok_one (by decide +kernel) (h.fine r)
end
/-! ### the head -/
abbrev R : PySem.W.OpenRow := PySem.W.OpenLaw.row PySem.Challenge.rw_ownlabels_k08_rings_of_numberings
abbrev hk : PySem.W.Hook := hookU 6 fa fn
def ob (s : PySem.W.SharedT) : AlU := obsUG 6 fa fn (HandSHeadRun.getT s)
theorem ob_eq (s : PySem.W.SharedT) : ob s = hk.obs s.abs := obsUG_eq (HandSHeadRun.getT_eq s)
def loose : List Str := (["HallError", "BadNumbering", "BadSize", "NoObstacle", "NoCell", "check_size", "Numbering", "ring", "_law_begin", "_law_draw", "_law_same", "_law_shuffled", "_law_refused"] : List Str)
theorem run (w : World) : HandSHeadRun.RunEq R (PySem.W.view R.prog [18]) hk ob 3000 loose w := by
  intro os
  kernel_rfl
end K08
set_option Elab.async false
set_option linter.all false
set_option maxRecDepth 100000
set_option maxHeartbeats 2000000
namespace K08
open PySem PySem.Spec PyProof.Rows L2 Ux
section
variable {P : Program} {w : World} {K : KF} {mg : Str → Option Value} {base : Heap}
def spLaw (K : KF) : Sp := fun vs H Q _ => ∃ (a : Addr) (ns : List Int), vs = [.ref a] ∧ SqL K H a (ns.map V.int) ∧ ns.length ≤ 63 ∧ ∀ H', Q (.bl true) H'
theorem ok__law_begin (T : Tx fa fn K mg) {k : Nat} : FnR P w K mg base CX0 (k + 1) (He.ga K "_law_begin") (spBegin K) := by
  obtain ⟨fd, F⟩ := F__law_begin T
  refine fnr0_of F sc__law_begin (fun _ _ _ _ _ _ us hl => match us, hl with | [_], _ => rfl) (fun vs H Q E h => ?_) (fun cdv A outer s H vs Q E hr h => ?_)
  · obtain ⟨a, ns, rfl, _⟩ := h
    rfl
  · obtain ⟨a, ns, rfl, hS, hl, q⟩ := h
    refine ⟨_, (pss_one (ps_ret (pe_lst (pa_cons (pe_callTy call_list_of (by rfl) (f_list T) boot_list (pa_cons (pv 0) pa_nil)) (pa_cons pe_int (pa_cons pe_int (pa_cons pe_int pa_nil))))))), ?_⟩
    refine ⟨_, rfl, a, _, rfl, .inl hS, fun l hL => ⟨(by show 4 ≤ sizeLine; decide), fun t ht => ?_⟩⟩
    have hlt : l ≠ t := ne_of_none upd_same ht
    refine q t l _ ((Same.new hL).trans (Same.new ht)) ((Same.new hL).free ht) ⟨ns, 0, 0, 0, upd_same, ?_, hlt, hl, Int.le_refl _, Int.le_refl _, Int.le_refl _, Int.le_refl _⟩
    rw [upd_ne hlt, upd_same]
theorem ok__law_draw (T : Tx fa fn K mg) {k : Nat} : FnR P w K mg base CX0 (k + 1) (He.ga K "_law_draw") spDraw := by
  obtain ⟨fd, F⟩ := F__law_draw T
  refine fnr0_of F sc__law_draw (fun _ _ _ _ _ _ us hl => match us, hl with | [_, _], _ => rfl) (fun vs H Q E h => ?_) (fun cdv A outer s H vs Q E hr h => ?_)
  · obtain ⟨t, L, many, n, rfl, _⟩ := h
    rfl
  · obtain ⟨t, L, many, n, rfl, ⟨ns, i, cur, cnt, hT, hL, hLt, hlen, hi, hcur, hcnt, hle⟩, hn, hm, hlog, q⟩ := h
    refine ⟨_, (pss_cons (ps_if (PW.pt (pw_and (pt_cmpR op_eq (pe_ix ix_list (pv 0) pe_int (fun _ _ => rfl)) pe_int (nomark _)) (pw_and1 (pt_cmpR op_lt (pe_ix ix_list (pv 0) pe_int (fun _ _ => rfl)) (pe_callB call_len_seq (by rfl) (f_len T) PySem.boot_len (pa_cons (pe_ix ix_list (pv 0) pe_int (fun _ _ => rfl)) pa_nil)) (nomark _)))))
        (pss_cons (ps_asg (pe_callB call_abs (by rfl) (f_abs T) (by decide +kernel) (pa_cons (pe_ix ix_list (pe_ix ix_list (pv 0) pe_int (fun _ _ => rfl)) (pe_ix ix_list (pv 0) pe_int (fun _ _ => rfl)) (fun _ _ => rfl)) pa_nil)) (pg_sub (pv 0) pe_int set_list))
        (pss_one (ps_asg (pe_op op_add (pe_ix ix_list (pv 0) pe_int (fun _ _ => rfl)) pe_int) (pg_sub (pv 0) pe_int set_list))))
        (pss_one (ps_if (pt_cmpR op_eq (pe_ix ix_list (pv 0) pe_int (fun _ _ => rfl)) pe_int (nomark _))
          (pss_cons (ps_asg (pe_op op_add (pe_ix ix_list (pv 0) pe_int (fun _ _ => rfl)) pe_int) (pg_sub (pv 0) pe_int set_list))
          (pss_cons (ps_if (pt_cmpR (op_eqD hr.units) (pe_ix ix_list (pv 0) pe_int (fun _ _ => rfl)) (pe_lst pa_nil) (nomark _))
            (pss_one (ps_ret pe_int))
            pss_nil)
          (pss_cons (ps_set (i := 2) sc__law_draw.nd rfl (Or.inl rfl) (pe_ix ix_list (pe_ix ix_list (pv 0) pe_int (fun _ _ => rfl)) (pe_op op_mod (pe_callTy call_int1 (by rfl) (f_int T) boot_int (pa_cons (pe_ix ix_list (pv 0) pe_int (fun _ _ => rfl)) pa_nil)) (pe_callB call_len_seq (by rfl) (f_len T) PySem.boot_len (pa_cons (pe_ix ix_list (pv 0) pe_int (fun _ _ => rfl)) pa_nil))) (fun _ _ => rfl)))
          (pss_one (ps_ret (pe_op op_mod (pe_callTy call_int1 (by rfl) (f_int T) boot_int (pa_cons (pe_op op_add (pe_op op_mul (pv 2) (pe_op op_add (pe_ix ix_list (pv 0) pe_int (fun _ _ => rfl)) pe_int)) (pe_op op_mul (pe_ix ix_list (pv 0) pe_int (fun _ _ => rfl)) (pe_ix ix_list (pv 0) pe_int (fun _ _ => rfl)))) pa_nil)) (pv 1)))))))
          pss_nil)))
      (pss_cons (ps_set (i := 3) sc__law_draw.nd rfl (Or.inl rfl) (pe_op op_mod (pe_callTy call_int1 (by rfl) (f_int T) boot_int (pa_cons (pe_ix ix_list (pv 0) pe_int (fun _ _ => rfl)) pa_nil)) (pv 1)))
      (pss_cons (ps_asg (pe_op op_fdivW (pe_ix ix_list (pv 0) pe_int (fun _ _ => rfl)) (pv 1)) (pg_sub (pv 0) pe_int set_list))
      (pss_one (ps_ret (pv 3)))))), ?_⟩
    by_cases hc : cur = 0
    · subst hc
      by_cases hi2 : i < ns.length
      · obtain ⟨j, rfl⟩ : ∃ j : Nat, i = (j : Int) := ⟨i.toNat, by omega⟩
        have hj : j < ns.length := by omega
        have ej : (ns.map V.int)[j]? = some (.int ns[j]) := by rw [List.getElem?_map, List.getElem?_eq_getElem hj]; rfl
        refine ⟨_, rfl, t, _, 2, _, rfl, rfl, SqL.of' hT, rfl, rfl, _, rfl, ifD rfl ?_⟩
        refine ⟨_, rfl, t, _, 1, _, rfl, rfl, SqL.of' hT, rfl, _, rfl, t, _, 0, _, rfl, rfl, SqL.of' hT, rfl, L, _, rfl, .inl (SqL.of' hL), _, _, rfl, rfl, _, rfl, ifD (by rw [List.length_map]; exact hi2) ?_⟩
        refine ⟨_, rfl, t, _, 0, _, rfl, rfl, SqL.of' hT, rfl, _, rfl, t, _, 1, _, rfl, rfl, SqL.of' hT, rfl, L, _, j, _, rfl, rfl, SqL.of' hL, atI_nat ej, _, rfl, _, rfl, t, _, 2, 2, rfl, rfl, hT, rfl, ?_⟩
        refine ⟨_, rfl, t, _, 1, _, rfl, rfl, SqL.of' upd_same, rfl, _, _, rfl, rfl, _, rfl, t, _, 1, 1, rfl, rfl, upd_same, rfl, ?_⟩
        refine ⟨_, rfl, t, _, 2, _, rfl, rfl, SqL.of' upd_same, rfl, .inl ⟨_, rfl, _, rfl, _, _, rfl, rfl, hm, ?_⟩⟩
        refine ⟨_, rfl, t, _, 2, _, rfl, rfl, SqL.of' upd_same, rfl, _, rfl, _, _, rfl, rfl, ⟨hm, hlog⟩, _, rfl, t, _, 2, 2, rfl, rfl, upd_same, rfl, _, rfl, ?_⟩
        refine q _ _ (Int.emod_nonneg _ (by omega)) (Int.emod_lt_of_pos _ hm) ⟨ns, (j : Int) + 1, _, cnt, upd_same, ?_, hLt, hlen, by omega, Int.ediv_nonneg (by split <;> omega) (by omega), hcnt, by omega⟩ ?_
        · rw [upd_ne hLt, upd_ne hLt, upd_ne hLt]
          exact hL
        · exact (Keep.set.trans Keep.set).trans Keep.set
      · refine ⟨_, rfl, t, _, 2, _, rfl, rfl, SqL.of' hT, rfl, rfl, _, rfl, ifD rfl ?_⟩
        refine ⟨_, rfl, t, _, 1, _, rfl, rfl, SqL.of' hT, rfl, _, rfl, t, _, 0, _, rfl, rfl, SqL.of' hT, rfl, L, _, rfl, .inl (SqL.of' hL), _, _, rfl, rfl, _, rfl, ifN (by rw [List.length_map]; exact hi2) ?_⟩
        refine ⟨_, rfl, t, _, 2, _, rfl, rfl, SqL.of' hT, rfl, rfl, _, rfl, ifD rfl ?_⟩
        refine ⟨_, rfl, t, _, 3, _, rfl, rfl, SqL.of' hT, rfl, _, _, rfl, rfl, _, rfl, t, _, 3, 3, rfl, rfl, hT, rfl, ?_⟩
        have hL1 : upd H t (.lst [.ref L, .int i, .int 0, .int (cnt + 1)]) L = some (.lst (ns.map V.int)) := by rw [upd_ne hLt]; exact hL
        refine ⟨_, rfl, t, _, 0, _, rfl, rfl, SqL.of' upd_same, rfl, Nat.zero_le _, fun p hp => ?_⟩
        have hpt : t ≠ p := ne_of_none upd_same hp
        have hpL : L ≠ p := ne_of_none hL1 hp
        have hL2 : upd (upd H t (.lst [.ref L, .int i, .int 0, .int (cnt + 1)])) p (.lst []) L = some (.lst (ns.map V.int)) := by rw [upd_ne hpL]; exact hL1
        have hT2 : upd (upd H t (.lst [.ref L, .int i, .int 0, .int (cnt + 1)])) p (.lst []) t = some (.lst [.ref L, .int i, .int 0, .int (cnt + 1)]) := by rw [upd_ne hpt]; exact upd_same
        have kp : Keep t H (upd (upd H t (.lst [.ref L, .int i, .int 0, .int (cnt + 1)])) p (.lst [])) := Keep.set.trans (Keep.new hp)
        refine ⟨_, .list (([] : List Int).map PyData.int), dp_lstI (SqL.of' hL2), dp_lstI (SqL.of' upd_same), shaped_lstI ns, shaped_lstI [], _, rfl, ?_⟩
        rw [eqv_lstI]
        have ht2 : TapeL (upd (upd H t (.lst [.ref L, .int i, .int 0, .int (cnt + 1)])) p (.lst [])) t L (n + 1) := ⟨ns, i, 0, cnt + 1, hT2, hL2, hLt, hlen, hi, Int.le_refl _, by omega, by omega⟩
        refine ifC (fun e => ?_) (fun e => ?_)
        · exact q 0 _ (Int.le_refl _) hm ht2 kp
        · have hpos : 0 < ns.length := List.length_pos_iff.mpr e
          obtain ⟨j, hj⟩ : ∃ j : Nat, (cnt + 1) % (((ns.map V.int).length : Nat) : Int) = (j : Int) := ⟨((cnt + 1) % (((ns.map V.int).length : Nat) : Int)).toNat, by
            have := Int.emod_nonneg (cnt + 1) (b := (((ns.map V.int).length : Nat) : Int)) (by rw [List.length_map]; omega)
            omega⟩
          have hj2 : j < ns.length := by
            have := Int.emod_lt_of_pos (cnt + 1) (b := (((ns.map V.int).length : Nat) : Int)) (by rw [List.length_map]; omega)
            rw [hj, List.length_map] at this
            omega
          have ej : (ns.map V.int)[j]? = some (.int ns[j]) := by rw [List.getElem?_map, List.getElem?_eq_getElem hj2]; rfl
          refine ⟨_, rfl, t, _, 0, _, rfl, rfl, SqL.of' hT2, rfl, _, rfl, t, _, 3, _, rfl, rfl, SqL.of' hT2, rfl, .inl ⟨_, rfl, _, rfl, t, _, 0, _, rfl, rfl, SqL.of' hT2, rfl, L, _, rfl, .inl (SqL.of' hL2), _, _, rfl, rfl, (by rw [List.length_map]; omega), L, _, _, _, rfl, rfl, SqL.of' hL2, at_of hj ej, ?_⟩⟩
          refine ⟨_, rfl, _, rfl, t, _, 3, _, rfl, rfl, SqL.of' hT2, rfl, _, _, rfl, rfl, _, _, rfl, rfl, .inr ⟨by omega, by omega⟩, ?_⟩
          refine ⟨_, rfl, t, _, 3, _, rfl, rfl, SqL.of' hT2, rfl, _, rfl, t, _, 3, _, rfl, rfl, SqL.of' hT2, rfl, _, _, rfl, rfl, .inr ⟨by omega, by omega⟩, _, _, rfl, rfl, .inl ⟨_, rfl, _, rfl, _, _, rfl, rfl, hm, ?_⟩⟩
          exact q _ _ (Int.emod_nonneg _ (by omega)) (Int.emod_lt_of_pos _ hm) ht2 kp
    · refine ⟨_, rfl, t, _, 2, _, rfl, rfl, SqL.of' hT, rfl, rfl, _, rfl, ifN (fun z => hc (by injection z)) ?_⟩
      refine ⟨_, rfl, t, _, 2, _, rfl, rfl, SqL.of' hT, rfl, rfl, _, rfl, ifN (fun z => hc (by injection z)) ?_⟩
      refine ⟨_, rfl, t, _, 2, _, rfl, rfl, SqL.of' hT, rfl, .inl ⟨_, rfl, _, rfl, _, _, rfl, rfl, hm, ?_⟩⟩
      refine ⟨_, rfl, t, _, 2, _, rfl, rfl, SqL.of' hT, rfl, _, rfl, _, _, rfl, rfl, ⟨hm, hlog⟩, _, rfl, t, _, 2, 2, rfl, rfl, hT, rfl, _, rfl, ?_⟩
      refine q _ _ (Int.emod_nonneg _ (by omega)) (Int.emod_lt_of_pos _ hm) ⟨ns, i, _, cnt, upd_same, ?_, hLt, hlen, by omega, Int.ediv_nonneg hcur (by omega), hcnt, by omega⟩ Keep.set
      rw [upd_ne hLt]
      exact hL
theorem same_step (T : Tx fa fn K mg) {k : Nat} {R : Hp → V → V → Prop} (G__law_same : FnR P w K mg base CX0 k (He.ga K "_law_same") (spR R)) : FnR P w K mg base CX0 (k + 1) (He.ga K "_law_same") (spR (SeqS K R)) := by
  obtain ⟨fd, F⟩ := F__law_same T
  refine fnr0_of F sc__law_same (fun _ _ _ _ _ _ us hl => match us, hl with | [_, _], _ => rfl) (fun vs H Q E h => ?_) (fun cdv A outer s H vs Q E hr h => ?_)
  · obtain ⟨x, y, rfl, _⟩ := h
    rfl
  · obtain ⟨x, y, rfl, hxy, q⟩ := h
    refine ⟨_, (pss_cons (ps_if (PW.pt (pw_and (pt_val (pe_callB call_isi (by rfl) (f_isinstance T) boot_isinstance (pa_cons (pv 1) (pa_cons (pe_bltn (v := .ty "tuple") (by rfl) (f_tuple T) boot_tuple rfl) pa_nil)))) (pw_and1 (pt_not (pt_val (pe_callB call_isi (by rfl) (f_isinstance T) boot_isinstance (pa_cons (pv 0) (pa_cons (pe_bltn (v := .ty "tuple") (by rfl) (f_tuple T) boot_tuple rfl) pa_nil))))))))
        (pss_one (ps_ret pe_bl))
        pss_nil)
      (pss_cons (ps_if (PW.pt (pw_and (pt_val (pe_callB call_isi (by rfl) (f_isinstance T) boot_isinstance (pa_cons (pv 1) (pa_cons (pe_bltn (v := .ty "list") (by rfl) (f_list T) boot_list rfl) pa_nil)))) (pw_and1 (pt_not (pt_val (pe_callB call_isi (by rfl) (f_isinstance T) boot_isinstance (pa_cons (pv 0) (pa_cons (pe_bltn (v := .ty "list") (by rfl) (f_list T) boot_list rfl) pa_nil))))))))
        (pss_one (ps_ret pe_bl))
        pss_nil)
      (pss_cons (ps_if (PW.pt (pw_or (pt_val (pe_callB call_isi (by rfl) (f_isinstance T) boot_isinstance (pa_cons (pv 1) (pa_cons (pe_bltn (v := .ty "tuple") (by rfl) (f_tuple T) boot_tuple rfl) pa_nil)))) (pw_or1 (pt_val (pe_callB call_isi (by rfl) (f_isinstance T) boot_isinstance (pa_cons (pv 1) (pa_cons (pe_bltn (v := .ty "list") (by rfl) (f_list T) boot_list rfl) pa_nil)))))))
        (pss_cons (ps_if (pt_cmpR op_ne (pe_callB call_len_seq (by rfl) (f_len T) PySem.boot_len (pa_cons (pv 0) pa_nil)) (pe_callB call_len_seq (by rfl) (f_len T) PySem.boot_len (pa_cons (pv 1) pa_nil)) (nomark _))
          (pss_one (ps_ret pe_bl))
          pss_nil)
        (pss_cons (ps_for PassesOwn.never rfl (pi_range1 (by rfl) (f_range T) (pa_cons (pe_callB call_len_seq (by rfl) (f_len T) PySem.boot_len (pa_cons (pv 1) pa_nil)) pa_nil)) (pg_name (i := 2) sc__law_same.nd rfl (Or.inl rfl))
          (pss_one (ps_if (pt_not (pt_val (pe_callR G__law_same hr (by rfl) (g__law_same T) (kq__law_same T) pass0 (pa_cons (pe_ix ix_seq (pv 0) (pv 2) (fun _ _ => rfl)) (pa_cons (pe_ix ix_seq (pv 1) (pv 2) (fun _ _ => rfl)) pa_nil)))))
            (pss_one (ps_ret pe_bl))
            pss_nil)))
        (pss_one (ps_ret pe_bl))))
        pss_nil)
      (pss_cons (ps_if (pt_val (pe_callB call_isi (by rfl) (f_isinstance T) boot_isinstance (pa_cons (pv 1) (pa_cons (pe_bltn (v := .ty "bool") (by rfl) (f_bool T) boot_bool rfl) pa_nil))))
        (pss_one (ps_ret (pe_and (pe_callB call_isi (by rfl) (f_isinstance T) boot_isinstance (pa_cons (pv 0) (pa_cons (pe_bltn (v := .ty "bool") (by rfl) (f_bool T) boot_bool rfl) pa_nil))) (pe_one (pe_cmpR op_eq (pv 0) (pv 1) (nomark _))))))
        pss_nil)
      (pss_cons (ps_if (pt_val (pe_callB call_isi (by rfl) (f_isinstance T) boot_isinstance (pa_cons (pv 1) (pa_cons (pe_bltn (v := .ty "int") (by rfl) (f_int T) boot_int rfl) pa_nil))))
        (pss_one (ps_ret (pe_and (pe_callB call_isi (by rfl) (f_isinstance T) boot_isinstance (pa_cons (pv 0) (pa_cons (pe_bltn (v := .ty "int") (by rfl) (f_int T) boot_int rfl) pa_nil))) (pe_and (pe_not (pe_callB call_isi (by rfl) (f_isinstance T) boot_isinstance (pa_cons (pv 0) (pa_cons (pe_bltn (v := .ty "bool") (by rfl) (f_bool T) boot_bool rfl) pa_nil)))) (pe_one (pe_cmpR op_eq (pv 0) (pv 1) (nomark _)))))))
        pss_nil)
      (pss_cons (ps_if (pt_val (pe_callB call_isi (by rfl) (f_isinstance T) boot_isinstance (pa_cons (pv 1) (pa_cons (pe_bltn (v := .ty "str") (by rfl) (f_str T) boot_str rfl) pa_nil))))
        (pss_one (ps_ret (pe_and (pe_callB call_isi (by rfl) (f_isinstance T) boot_isinstance (pa_cons (pv 0) (pa_cons (pe_bltn (v := .ty "str") (by rfl) (f_str T) boot_str rfl) pa_nil))) (pe_one (pe_cmpR op_eq (pv 0) (pv 1) (nomark _))))))
        pss_nil)
      (pss_one (ps_ret (pe_cmpR op_isN (pv 0) pe_non (nomark _)))))))))), ?_⟩
    rcases hxy with ⟨hf, rfl⟩ | ⟨a, b, xs, ys, rfl, rfl, hab, hlen, hsz, hall⟩
    · cases x with
      | non =>
        refine ⟨_, rfl, _, _, _, _, _, rfl, .ty _, (.base .non), kit_ty kit_nt, _, rfl, ifF rfl ?_⟩
        refine ⟨_, rfl, _, _, _, _, _, rfl, .ty _, (.base .non), kit_ty kit_nl, _, rfl, ifF rfl ?_⟩
        refine ⟨_, rfl, _, _, _, _, _, rfl, .ty _, (.base .non), kit_ty kit_nt, _, rfl, ifF rfl ⟨_, rfl, _, _, _, _, _, rfl, .ty _, (.base .non), kit_ty kit_nl, _, rfl, ifF rfl ?_⟩⟩
        refine ⟨_, rfl, _, _, _, _, _, rfl, .ty _, (.base .non), kit_ty kit_nb, _, rfl, ifF rfl ?_⟩
        refine ⟨_, rfl, _, _, _, _, _, rfl, .ty _, (.base .non), kit_ty kit_ni, _, rfl, ifF rfl ?_⟩
        refine ⟨_, rfl, _, _, _, _, _, rfl, .ty _, (.base .non), kit_ty kit_ns, _, rfl, ifF rfl ?_⟩
        refine ⟨_, rfl, rfl, ?_⟩
        exact q
      | bl c =>
        refine ⟨_, rfl, _, _, _, _, _, rfl, .ty _, (.base (.bl c)), kit_ty kit_bt, _, rfl, ifF rfl ?_⟩
        refine ⟨_, rfl, _, _, _, _, _, rfl, .ty _, (.base (.bl c)), kit_ty kit_bl, _, rfl, ifF rfl ?_⟩
        refine ⟨_, rfl, _, _, _, _, _, rfl, .ty _, (.base (.bl c)), kit_ty kit_bt, _, rfl, ifF rfl ⟨_, rfl, _, _, _, _, _, rfl, .ty _, (.base (.bl c)), kit_ty kit_bl, _, rfl, ifF rfl ?_⟩⟩
        refine ⟨_, rfl, _, _, _, _, _, rfl, .ty _, (.base (.bl c)), kit_ty kit_bb, _, rfl, ifT rfl ?_⟩
        refine ⟨_, rfl, _, _, _, _, _, rfl, .ty _, (.base (.bl c)), kit_ty kit_bb, _, rfl, ifT rfl ⟨_, rfl, _, rfl, rfl, ?_⟩⟩
        show Q (.bl (decide (V.bl c = V.bl c))) H
        rw [decide_eq_true rfl]
        exact q
      | int c =>
        refine ⟨_, rfl, _, _, _, _, _, rfl, .ty _, (.base (.int c)), kit_ty kit_it, _, rfl, ifF rfl ?_⟩
        refine ⟨_, rfl, _, _, _, _, _, rfl, .ty _, (.base (.int c)), kit_ty kit_il, _, rfl, ifF rfl ?_⟩
        refine ⟨_, rfl, _, _, _, _, _, rfl, .ty _, (.base (.int c)), kit_ty kit_it, _, rfl, ifF rfl ⟨_, rfl, _, _, _, _, _, rfl, .ty _, (.base (.int c)), kit_ty kit_il, _, rfl, ifF rfl ?_⟩⟩
        refine ⟨_, rfl, _, _, _, _, _, rfl, .ty _, (.base (.int c)), kit_ty kit_ib, _, rfl, ifF rfl ?_⟩
        refine ⟨_, rfl, _, _, _, _, _, rfl, .ty _, (.base (.int c)), kit_ty kit_ii, _, rfl, ifT rfl ?_⟩
        refine ⟨_, rfl, _, _, _, _, _, rfl, .ty _, (.base (.int c)), kit_ty kit_ii, _, rfl, ifT rfl ⟨_, rfl, _, _, _, _, _, rfl, .ty _, (.base (.int c)), kit_ty kit_ib, _, rfl, _, rfl, ifT rfl ⟨_, rfl, _, rfl, rfl, ?_⟩⟩⟩
        show Q (.bl (decide (V.int c = V.int c))) H
        rw [decide_eq_true rfl]
        exact q
      | str c =>
        refine ⟨_, rfl, _, _, _, _, _, rfl, .ty _, (.base (.str c)), kit_ty kit_st, _, rfl, ifF rfl ?_⟩
        refine ⟨_, rfl, _, _, _, _, _, rfl, .ty _, (.base (.str c)), kit_ty kit_sl, _, rfl, ifF rfl ?_⟩
        refine ⟨_, rfl, _, _, _, _, _, rfl, .ty _, (.base (.str c)), kit_ty kit_st, _, rfl, ifF rfl ⟨_, rfl, _, _, _, _, _, rfl, .ty _, (.base (.str c)), kit_ty kit_sl, _, rfl, ifF rfl ?_⟩⟩
        refine ⟨_, rfl, _, _, _, _, _, rfl, .ty _, (.base (.str c)), kit_ty kit_sb, _, rfl, ifF rfl ?_⟩
        refine ⟨_, rfl, _, _, _, _, _, rfl, .ty _, (.base (.str c)), kit_ty kit_si, _, rfl, ifF rfl ?_⟩
        refine ⟨_, rfl, _, _, _, _, _, rfl, .ty _, (.base (.str c)), kit_ty kit_ss, _, rfl, ifT rfl ?_⟩
        refine ⟨_, rfl, _, _, _, _, _, rfl, .ty _, (.base (.str c)), kit_ty kit_ss, _, rfl, ifT rfl ⟨_, rfl, _, rfl, rfl, ?_⟩⟩
        show Q (.bl (decide (V.str c = V.str c))) H
        rw [decide_eq_true rfl]
        exact q
      | byt c => exact hf.elim
      | flt c => exact hf.elim
      | ref c => exact hf.elim
      | ty c => exact hf.elim
    · have sqA : SqL K H a xs ∨ SqT K H a xs := hab.elim (fun h => .inr h.1) fun h => .inl h.1
      have sqB : SqL K H b ys ∨ SqT K H b ys := hab.elim (fun h => .inr h.2) fun h => .inl h.2
      have ixA : ∀ (i : Nat) (u : V), xs[i]? = some u → ∀ Q' : VK, Q' u H → rIx K (.ref a) (.int (0 + (i : Int))) H Q' := fun i u hu Q' hq => by
        rcases hab with h | h
        · exact .inr (.inl ⟨a, xs, _, u, rfl, rfl, h.1, at_of (by omega) hu, hq⟩)
        · exact .inl ⟨a, xs, _, u, rfl, rfl, h.1, at_of (by omega) hu, hq⟩
      have ixB : ∀ (i : Nat) (u : V), ys[i]? = some u → ∀ Q' : VK, Q' u H → rIx K (.ref b) (.int (0 + (i : Int))) H Q' := fun i u hu Q' hq => by
        rcases hab with h | h
        · exact .inr (.inl ⟨b, ys, _, u, rfl, rfl, h.2, at_of (by omega) hu, hq⟩)
        · exact .inl ⟨b, ys, _, u, rfl, rfl, h.2, at_of (by omega) hu, hq⟩
      have hsl : sizeLine = 16777216 := sizeLine_eq
      rcases hab with ⟨hA, hB⟩ | ⟨hA, hB⟩
      · refine ⟨_, rfl, _, _, _, _, _, rfl, .ty _, (tyx_tup hB), kit_ty kit_tt, _, rfl, ifT rfl ⟨_, rfl, _, _, _, _, _, rfl, .ty _, (tyx_tup hA), kit_ty kit_tt, _, rfl, ifF rfl ?_⟩⟩
        refine ⟨_, rfl, _, _, _, _, _, rfl, .ty _, (tyx_tup hB), kit_ty kit_tl, _, rfl, ifF rfl ?_⟩
        refine ⟨_, rfl, _, _, _, _, _, rfl, .ty _, (tyx_tup hB), kit_ty kit_tt, _, rfl, ifT rfl ?_⟩
        refine ⟨_, rfl, a, xs, rfl, sqA, _, rfl, b, ys, rfl, sqB, rfl, _, rfl, iteNS (by rw [hlen]) ?_⟩
        refine ⟨_, rfl, b, ys, rfl, sqB, _, rfl, by omega, by omega, for_range (n := ys.length) (fun i σ H' => (∃ v, σ = [some (.ref a), some (.ref b), v]) ∧ H' = H) ⟨⟨_, rfl⟩, rfl⟩ ?_ ?_⟩
        · rintro i σ H' hi ⟨⟨v, rfl⟩, rfl⟩
          have hx : i < xs.length := by omega
          refine ⟨_, rfl, _, rfl, ixA i _ (List.getElem?_eq_getElem hx) _ ⟨_, rfl, _, rfl, ixB i _ (List.getElem?_eq_getElem hi) _ ?_⟩⟩
          refine ⟨_, _, rfl, hall i _ _ (List.getElem?_eq_getElem hx) (List.getElem?_eq_getElem hi), _, rfl, ifF rfl ⟨⟨_, rfl⟩, rfl⟩⟩
        · rintro σ H' ⟨_, rfl⟩
          exact q
      · refine ⟨_, rfl, _, _, _, _, _, rfl, .ty _, (tyx_lst hB), kit_ty kit_lt, _, rfl, ifF rfl ?_⟩
        refine ⟨_, rfl, _, _, _, _, _, rfl, .ty _, (tyx_lst hB), kit_ty kit_ll, _, rfl, ifT rfl ⟨_, rfl, _, _, _, _, _, rfl, .ty _, (tyx_lst hA), kit_ty kit_ll, _, rfl, ifF rfl ?_⟩⟩
        refine ⟨_, rfl, _, _, _, _, _, rfl, .ty _, (tyx_lst hB), kit_ty kit_lt, _, rfl, ifF rfl ⟨_, rfl, _, _, _, _, _, rfl, .ty _, (tyx_lst hB), kit_ty kit_ll, _, rfl, ifT rfl ?_⟩⟩
        refine ⟨_, rfl, a, xs, rfl, sqA, _, rfl, b, ys, rfl, sqB, rfl, _, rfl, iteNS (by rw [hlen]) ?_⟩
        refine ⟨_, rfl, b, ys, rfl, sqB, _, rfl, by omega, by omega, for_range (n := ys.length) (fun i σ H' => (∃ v, σ = [some (.ref a), some (.ref b), v]) ∧ H' = H) ⟨⟨_, rfl⟩, rfl⟩ ?_ ?_⟩
        · rintro i σ H' hi ⟨⟨v, rfl⟩, rfl⟩
          have hx : i < xs.length := by omega
          refine ⟨_, rfl, _, rfl, ixA i _ (List.getElem?_eq_getElem hx) _ ⟨_, rfl, _, rfl, ixB i _ (List.getElem?_eq_getElem hi) _ ?_⟩⟩
          refine ⟨_, _, rfl, hall i _ _ (List.getElem?_eq_getElem hx) (List.getElem?_eq_getElem hi), _, rfl, ifF rfl ⟨⟨_, rfl⟩, rfl⟩⟩
        · rintro σ H' ⟨_, rfl⟩
          exact q
theorem ok__law_same (T : Tx fa fn K mg) : ∀ d k : Nat, d < k → FnR P w K mg base CX0 k (He.ga K "_law_same") (spSame K d) := by
  intro d
  induction d with
  | zero =>
    intro k hk
    obtain ⟨k, rfl⟩ : ∃ j, k = j + 1 := ⟨k - 1, by omega⟩
    refine (same_step T (R := fun _ _ _ => False) (fn_false.imp fun vs H Q E ⟨_, _, _, h, _⟩ => h)).imp fun vs H Q E ⟨x, y, e, h, q⟩ => ⟨x, y, e, .inl h, q⟩
  | succ d ih =>
    intro k hk
    obtain ⟨k, rfl⟩ : ∃ j, k = j + 1 := ⟨k - 1, by omega⟩
    exact same_step T (R := fun H x y => EqS K H d x y) (ih k (by omega))
end

end K08
set_option Elab.async false
set_option linter.all false
set_option maxRecDepth 100000
set_option maxHeartbeats 2000000
namespace K08
open PySem PySem.Spec PyProof.Rows L2 Ux
section
variable {P : Program} {w : World} {K : KF} {mg : Str → Option Value} {base : Heap}
abbrev nC (K : KF) : Addr := He.ga K "Numbering"
abbrev eBN (K : KF) : Addr := He.ga K "BadNumbering"
abbrev eBS (K : KF) : Addr := He.ga K "BadSize"
theorem ok_check_size (T : Tx fa fn K mg) {k : Nat} : FnR P w K mg base (L2.CX P w) (k + 1) (He.ga K "check_size") (spCheck (eBS K)) := by
  obtain ⟨fd, F⟩ := F_check_size T
  refine fnr_of F sc_check_size (fun _ _ _ _ _ _ us hl => match us, hl with | [_, _, _], _ => rfl) (fun vs H Q E h => ?_) (fun cdv A outer s H vs Q E hr h => ?_)
  · obtain ⟨z, c, m, rfl, _⟩ := h
    rfl
  · obtain ⟨z, c, m, rfl, hz, hc, hm, q1, q2⟩ := h
    refine ⟨_, (pss_one (ps_if (pt_not (pt_chain op_le op_le pe_int (pv 1) (pv 2)))
        (pss_one (ps_raise rfl (takes_of rfl rfl rfl rfl) (SkE.pmk_own1 PySem.F.excBase_ValueError (x_BadSize T).1 (g_BadSize T) (x_BadSize T).2.1 (raises_own (x_BadSize T).2.2.1 (x_BadSize T).2.2.2) (by rfl) (pe_joined (PJ.cons (pe_fmt (pv 0)) (PJ.cons pe_str (PJ.cons (pe_fmt (pv 1)) (PJ.cons pe_str (PJ.cons (pe_fmt (pv 2)) PJ.nil)))))))))
        pss_nil)), ?_⟩
    have lc := text_len hc
    have lm := text_len hm
    have hzs : z.length ≤ sizeLine := by have e := sizeLine_eq; omega
    by_cases h1 : 1 ≤ c
    · refine ⟨_, rfl, _, _, rfl, rfl, _, rfl, ifD h1 ⟨_, rfl, _, _, rfl, rfl, _, rfl, ?_⟩⟩
      by_cases h2 : c ≤ m
      · rw [decide_eq_true h2]
        exact ifF rfl (q1 h1 h2)
      · rw [decide_eq_false h2]
        refine ifT rfl ?_
        refine ⟨_, rfl, .inl ⟨_, rfl, hzs, _, rfl, Jn.le (.app .nil hz), _, rfl, Jn.le (.app (.app .nil hz) (by decide : _ ≤ 2000)), _, rfl, .inr ⟨_, rfl, hc, _, rfl, Jn.le (.app (.app (.app .nil hz) (by decide : _ ≤ 2000)) lc), _, rfl, Jn.le (.app (.app (.app (.app .nil hz) (by decide : _ ≤ 2000)) lc) (by decide : _ ≤ 2000)), _, rfl, .inr ⟨_, rfl, hm, _, rfl, ?_, q2 (fun z => h2 z.2)⟩⟩⟩⟩
        exact Jn.le (.app (.app (.app (.app (.app .nil hz) (by decide : _ ≤ 2000)) lc) (by decide : _ ≤ 2000)) lm)
    · refine ⟨_, rfl, _, _, rfl, rfl, _, rfl, ifN h1 ⟨_, rfl, ifT rfl ?_⟩⟩
      refine ⟨_, rfl, .inl ⟨_, rfl, hzs, _, rfl, Jn.le (.app .nil hz), _, rfl, Jn.le (.app (.app .nil hz) (by decide : _ ≤ 2000)), _, rfl, .inr ⟨_, rfl, hc, _, rfl, Jn.le (.app (.app (.app .nil hz) (by decide : _ ≤ 2000)) lc), _, rfl, Jn.le (.app (.app (.app (.app .nil hz) (by decide : _ ≤ 2000)) lc) (by decide : _ ≤ 2000)), _, rfl, .inr ⟨_, rfl, hm, _, rfl, ?_, q2 (fun z => h1 z.1)⟩⟩⟩⟩
      exact Jn.le (.app (.app (.app (.app (.app .nil hz) (by decide : _ ≤ 2000)) lc) (by decide : _ ≤ 2000)) lm)
theorem ok_Numbering___init__ (T : Tx fa fn K mg) {k : Nat} : FnR P w K mg base (L2.CX P w) (k + 1) (He.ma K (nC K) "__init__") (spInit K (nC K) (eBN K)) := by
  obtain ⟨fd, F⟩ := F_Numbering___init__ T
  obtain ⟨uM, cM⟩ := v_Numbering_MOST T
  refine fnr_of F sc_Numbering___init__ (fun _ _ _ _ _ _ us hl => match us, hl with | [_, _], _ => rfl) (fun vs H Q E h => ?_) (fun cdv A outer s H vs Q E hr h => ?_)
  · obtain ⟨x, dx, l, ns, rfl, _⟩ := h
    rfl
  · obtain ⟨x, dx, l, ns, rfl, hx, hS, hlen, q1, q2⟩ := h
    refine ⟨_, (pss_cons (ps_if (pt_not (pt_chain op_le op_le pe_int (pe_callB call_len_seq (by rfl) (f_len T) PySem.boot_len (pa_cons (pv 1) pa_nil)) (ClX.pe_cval (pe_glob (v := .ref (He.ga K "Numbering")) (by rfl) (g_Numbering T) rfl))))
        (pss_one (ps_raise rfl (takes_of rfl rfl rfl rfl) (SkE.pmk_own1 PySem.F.excBase_ValueError (x_BadNumbering T).1 (g_BadNumbering T) (x_BadNumbering T).2.1 (raises_own (x_BadNumbering T).2.2.1 (x_BadNumbering T).2.2.2) (by rfl) (pe_joined (PJ.cons (pe_fmt (pe_callB call_len_seq (by rfl) (f_len T) PySem.boot_len (pa_cons (pv 1) pa_nil))) (PJ.cons pe_str (PJ.cons (pe_fmt (ClX.pe_cval (pe_glob (v := .ref (He.ga K "Numbering")) (by rfl) (g_Numbering T) rfl))) PJ.nil)))))))
        pss_nil)
      (pss_cons (ps_if (pt_cmpR (op_neD hr.units) (pe_callB cr_sortedI (by rfl) (f_sorted T) (by decide +kernel) (pa_cons (pv 1) pa_nil)) (pe_listRg rfl (by rfl) (f_list T) (prg_1 (by rfl) (f_range T) (pe_callB call_len_seq (by rfl) (f_len T) PySem.boot_len (pa_cons (pv 1) pa_nil)))) (nomark _))
        (pss_one (ps_raise rfl (takes_of rfl rfl rfl rfl) (SkE.pmk_own1 PySem.F.excBase_ValueError (x_BadNumbering T).1 (g_BadNumbering T) (x_BadNumbering T).2.1 (raises_own (x_BadNumbering T).2.2.1 (x_BadNumbering T).2.2.2) (by rfl) pe_str)))
        pss_nil)
      (pss_one (ps_fld (pv 0) (pe_callTy call_tupleD (by rfl) (f_tuple T) boot_tuple (pa_cons (pv 1) pa_nil)) rfl)))), ?_⟩
    have ll := log_small hlen
    have lc := text_len ll
    have lM : (12 : Int).natAbs.log2 < 1920 := by decide
    have lm := text_len lM
    have el : (ns.map V.int).length = ns.length := List.length_map _
    have hsz : sizeLine = 16777216 := sizeLine_eq
    refine ⟨_, rfl, l, _, rfl, .inl hS, _, _, rfl, rfl, _, rfl, ?_⟩
    rw [el]
    by_cases h1 : 1 ≤ ns.length
    · refine ifD (by omega) ⟨nC K, _, _, _, rfl, r_Numbering T, cM, _, _, rfl, rfl, _, rfl, ?_⟩
      by_cases h2 : ns.length ≤ 12
      · refine ifF (by rw [decide_eq_true (show ((ns.length : Nat) : Int) ≤ 12 by omega)]; rfl) ?_
        refine ⟨_, rfl, l, ns, rfl, hS, fun ns' p hp hs np => ?_⟩
        have s1 : Same H (upd H p (.lst (ns'.map V.int))) := Same.new np
        refine ⟨_, rfl, l, _, rfl, .inl (s1.seq hS), _, rfl, RgOk.of_le (by omega) (by omega) (by omega) (by omega), fun r nr => ?_⟩
        rw [el, rgV_iota]
        have s2 := s1.trans (Same.new (o := .lst ((iota ns.length).map V.int)) nr)
        have npr : p ≠ r := ne_of_none upd_same nr
        have hP : (upd (upd H p (.lst (ns'.map V.int))) r (.lst ((iota ns.length).map V.int))) p = some (.lst (ns'.map V.int)) := by rw [upd_ne npr, upd_same]
        refine ⟨_, _, dp_lstI (SqL.of' hP), dp_lstI (SqL.of' upd_same), shaped_lstI _, shaped_lstI _, _, rfl, ?_⟩
        rw [eqv_lstI]
        by_cases he : ns' = iota ns.length
        · refine iteNS he ?_
          have hnb : IsNb ns := ⟨h1, h2, (sorted_iota hp hs).mp he⟩
          refine ⟨_, rfl, l, _, rfl, .inl ⟨s2.seq hS, fun t o nt od => ?_⟩⟩
          have s3 := s2.trans (Same.new (o := .frz o (.tup (ns.map V.int))) nt)
          have nxt : x ≠ t := ne_of_none (s2 _ _ hx) nt
          refine ⟨_, rfl, x, nC K, dx, [], rfl, s3 _ _ hx, c_Numbering T, n_Numbering_places T, (by show 0 < 1000; decide), ?_⟩
          refine q1 hnb _ ((Keep.of s3).trans Keep.set) ?_
          have hD : TupD (upd (upd (upd (upd H p (.lst (ns'.map V.int))) r (.lst ((iota ns.length).map V.int))) t (.frz o (.tup (ns.map V.int)))) x (.ins (nC K) dx (numF t))) t (ns.map V.int) := ⟨o, by rw [upd_ne nxt.symm, upd_same], od⟩
          exact ⟨dx, t, upd_same, hD.sq, hD⟩
        · refine ifT (by rw [decide_eq_false he]; rfl) ?_
          exact q2 (fun h => he ((sorted_iota hp hs).mpr h.2.2)) _ s2
      · refine ifT (by rw [decide_eq_false (show ¬ ((ns.length : Nat) : Int) ≤ 12 by omega)]; rfl) ?_
        refine ⟨_, rfl, l, _, rfl, .inl hS, .inr ⟨_, rfl, by rw [el]; exact ll, _, rfl, Jn.le (.app .nil (by rw [el]; exact lc)), _, rfl, Jn.le (.app (.app .nil (by rw [el]; exact lc)) (by decide : _ ≤ 2000)), ?_⟩⟩
        refine ⟨nC K, _, _, _, rfl, r_Numbering T, cM, .inr ⟨_, rfl, lM, _, rfl, Jn.le (.app (.app (.app .nil (by rw [el]; exact lc)) (by decide : _ ≤ 2000)) lm), q2 (fun h => h2 h.2.1) _ (Same.refl _)⟩⟩
    · refine ifN (by omega) ⟨_, rfl, ifT rfl ?_⟩
      refine ⟨_, rfl, l, _, rfl, .inl hS, .inr ⟨_, rfl, by rw [el]; exact ll, _, rfl, Jn.le (.app .nil (by rw [el]; exact lc)), _, rfl, Jn.le (.app (.app .nil (by rw [el]; exact lc)) (by decide : _ ≤ 2000)), ?_⟩⟩
      refine ⟨nC K, _, _, _, rfl, r_Numbering T, cM, .inr ⟨_, rfl, lM, _, rfl, Jn.le (.app (.app (.app .nil (by rw [el]; exact lc)) (by decide : _ ≤ 2000)) lm), q2 (fun h => h1 h.1) _ (Same.refl _)⟩⟩
theorem ok_Numbering_plain (T : Tx fa fn K mg) {k : Nat} : FnR P w K mg base (L2.CX P w) (k + 3) (At.ad K (.cmem "Numbering" "plain")) (spPlain K (nC K) (eBS K)) := by
  obtain ⟨fd, F⟩ := F_Numbering_plain T
  obtain ⟨uM, cM⟩ := v_Numbering_MOST T
  have G_check_size : FnR P w K mg base (L2.CX P w) (k + 1) (He.ga K "check_size") (spCheck (eBS K)) := ok_check_size T
  have G_Numbering___init__ : FnR P w K mg base (L2.CX P w) (k + 1) (He.ma K (nC K) "__init__") (spInit K (nC K) (eBN K)) := ok_Numbering___init__ T
  refine fnr_of F sc_Numbering_plain (fun _ _ _ _ _ _ us hl => match us, hl with | [_, _], _ => rfl) (fun vs H Q E h => ?_) (fun cdv A outer s H vs Q E hr h => ?_)
  · obtain ⟨n, rfl, _⟩ := h
    rfl
  · obtain ⟨n, rfl, hn, q1, q2⟩ := h
    have hr1 : Room (k + 1) _ := hr.mono (by omega)
    refine ⟨_, (pss_cons (ps_expr (pe_callR G_check_size (hr.mono (by omega)) (by rfl) (g_check_size T) (kq_check_size T) (passes_call (takes_of rfl rfl rfl rfl) (fun _ _ _ _ h => h)) (pa_cons pe_str (pa_cons (pv 1) (pa_cons (ClX.pe_cval (pv 0)) pa_nil)))))
      (pss_one (ps_ret (pe_makeE (pv 0) (m_Numbering T) G_Numbering___init__ (hr.mono (by omega)) passL (pa_cons (pe_listRg rfl (by rfl) (f_list T) (prg_1 (by rfl) (f_range T) (pv 1))) pa_nil))))), ?_⟩
    refine ⟨_, rfl, _, rfl, nC K, _, _, _, rfl, r_Numbering T, cM, _, n, 12, rfl, by decide, hn, by decide, fun h1 h2 => ?_, fun h => q2 h⟩
    refine ⟨_, rfl, rfl, _, rfl, _, rfl, RgOk.of_le (by omega) (by omega) (by omega) (by omega), fun l nl => ?_⟩
    have e : rgV 0 n = (iota n.toNat).map V.int := by
      rw [← rgV_iota]
      congr 1
      omega
    rw [e]
    refine mk_num (SqL.of' upd_same) (IsNb.iota (by omega) (by omega)) fun a H' na s1 hN => ?_
    exact q1 h1 h2 a H' ((Same.new nl).free na) ((Same.new nl).trans s1) hN
theorem ok_Numbering_turn (T : Tx fa fn K mg) {k : Nat} : FnR P w K mg base (L2.CX P w) (k + 3) (At.ad K (.cmem "Numbering" "turn")) (spTurn K (nC K) (eBS K)) := by
  obtain ⟨fd, F⟩ := F_Numbering_turn T
  obtain ⟨uM, cM⟩ := v_Numbering_MOST T
  have G_check_size : FnR P w K mg base (L2.CX P w) (k + 1) (He.ga K "check_size") (spCheck (eBS K)) := ok_check_size T
  have G_Numbering___init__ : FnR P w K mg base (L2.CX P w) (k + 1) (He.ma K (nC K) "__init__") (spInit K (nC K) (eBN K)) := ok_Numbering___init__ T
  refine fnr_of F sc_Numbering_turn (fun _ _ _ _ _ _ us hl => match us, hl with | [_, _, _], _ => rfl) (fun vs H Q E h => ?_) (fun cdv A outer s H vs Q E hr h => ?_)
  · obtain ⟨n, d, rfl, _⟩ := h
    rfl
  · obtain ⟨n, d, rfl, hn, q1, q2⟩ := h
    refine ⟨_, (pss_cons (ps_expr (pe_callR G_check_size (hr.mono (by omega)) (by rfl) (g_check_size T) (kq_check_size T) (passes_call (takes_of rfl rfl rfl rfl) (fun _ _ _ _ h => h)) (pa_cons pe_str (pa_cons (pv 1) (pa_cons (ClX.pe_cval (pv 0)) pa_nil)))))
      (pss_one (ps_ret (pe_makeE (pv 0) (m_Numbering T) G_Numbering___init__ (hr.mono (by omega)) passL (pa_cons (pe_lc (own := [("k", 3)]) (g := gName 3) (tt := tYes) rfl sc_Numbering_turn.nd (pi_range1 (by rfl) (f_range T) (pa_cons (pv 1) pa_nil)) (blkOk_by (N := N_Numbering_turn) (sc := defScope s_Numbering_turn) (by decide +kernel)) (fun _ _ _ _ _ => pg_name (i := 3) sc_Numbering_turn.nd rfl (Or.inl rfl)) (fun _ _ _ _ _ => by exact pts_nil) (fun _ _ _ _ _ => by exact (pe_op op_mod (pe_op op_add (pv 3) (pv 2)) (pv 1)))) pa_nil))))), ?_⟩
    refine ⟨_, rfl, _, rfl, nC K, _, _, _, rfl, r_Numbering T, cM, _, n, 12, rfl, by decide, hn, by decide, fun h1 h2 => ?_, fun h => q2 h⟩
    refine ⟨_, rfl, rfl, _, rfl, n, rfl, by omega, by omega, fun D nD => lc_range (lo := 0) (n := n.toNat) (fun i H' => H' D = some (.lst (((turnL n.toNat d).take i).map V.int)) ∧ Same H H') ⟨upd_same, Same.new nD⟩ ?_ ?_⟩
    · rintro i H1 hi ⟨hD, s1⟩
      have hi2 : i < n.toNat := by omega
      refine ⟨rfl, _, rfl, _, rfl, _, _, rfl, rfl, _, rfl, _, _, rfl, rfl, by omega, _, hD, ?_, ?_, ?_⟩
      · rw [List.length_map, List.length_take, turnL_len]
        have := sizeLine_eq
        omega
      · rw [upd_same, List.take_add_one, turnL_get d hi2, List.map_append]
        have e1 : ((i : Int) + d) % ((n.toNat : Nat) : Int) = (0 + (i : Int) + d) % n := by
          rw [Int.zero_add]
          congr 1
          omega
        rw [e1]
        rfl
      · exact fun b o e => by
          have hb : b ≠ D := ne_of_none e nD
          rw [upd_ne hb]
          exact s1 b o e
    · rintro H1 ⟨hD, s1⟩
      rw [List.take_of_length_le (by rw [turnL_len]; exact Nat.le_refl _)] at hD
      refine mk_num (SqL.of' hD) (turnL_nb d (by omega) (by omega)) fun a H' na s2 hN => ?_
      exact q1 h1 h2 a H' (s1.free na) (s1.trans s2) hN
theorem ok_Numbering___mul__ (T : Tx fa fn K mg) {k : Nat} : FnR P w K mg base (L2.CX P w) (k + 3) (He.ma K (nC K) "__mul__") (spMul K (nC K) (eBN K)) := by
  obtain ⟨fd, F⟩ := F_Numbering___mul__ T
  have G_Numbering___init__ : FnR P w K mg base (L2.CX P w) (k + 1) (He.ma K (nC K) "__init__") (spInit K (nC K) (eBN K)) := ok_Numbering___init__ T
  refine fnr_of F sc_Numbering___mul__ (fun _ _ _ _ _ _ us hl => match us, hl with | [_, _], _ => rfl) (fun vs H Q E h => ?_) (fun cdv A outer s H vs Q E hr h => ?_)
  · obtain ⟨a, b, ns, ms, rfl, _⟩ := h
    rfl
  · obtain ⟨a, b, ns, ms, rfl, ⟨da, ta, ha, hta, htd⟩, ⟨db, tb, hb, htb, htd2⟩, hn, hm, q1, q2⟩ := h
    refine ⟨_, (pss_cons (ps_if (pt_cmpR op_ne (pe_callB call_len_seq (by rfl) (f_len T) PySem.boot_len (pa_cons (pe_fld (pv 0) rfl) pa_nil)) (pe_callB call_len_seq (by rfl) (f_len T) PySem.boot_len (pa_cons (pe_fld (pv 1) rfl) pa_nil)) (nomark _))
        (pss_one (ps_raise rfl (takes_of rfl rfl rfl rfl) (SkE.pmk_own1 PySem.F.excBase_ValueError (x_BadNumbering T).1 (g_BadNumbering T) (x_BadNumbering T).2.1 (raises_own (x_BadNumbering T).2.2.1 (x_BadNumbering T).2.2.2) (by rfl) (pe_joined (PJ.cons (pe_fmt (pe_callB call_len_seq (by rfl) (f_len T) PySem.boot_len (pa_cons (pe_fld (pv 0) rfl) pa_nil))) (PJ.cons pe_str (PJ.cons (pe_fmt (pe_callB call_len_seq (by rfl) (f_len T) PySem.boot_len (pa_cons (pe_fld (pv 1) rfl) pa_nil))) (PJ.cons pe_str PJ.nil))))))))
        pss_nil)
      (pss_one (ps_ret (StX.pe_makeR (m_Numbering T) G_Numbering___init__ (hr.mono (by omega)) (by rfl) (g_Numbering T) passL (pa_cons (pe_lc (own := [("place", 2)]) (g := gName 2) (tt := tYes) rfl sc_Numbering___mul__.nd (pi_tup (pe_fld (pv 1) rfl)) (blkOk_by (N := N_Numbering___mul__) (sc := defScope s_Numbering___mul__) (by decide +kernel)) (fun _ _ _ _ _ => pg_name (i := 2) sc_Numbering___mul__.nd rfl (Or.inl rfl)) (fun _ _ _ _ _ => by exact pts_nil) (fun _ _ _ _ _ => by exact (pe_ix (ix_tupK K) (pe_fldK K (pv 0) (by rfl)) (pv 2) (fun _ _ => rfl)))) pa_nil))))), ?_⟩
    have la : (ns.map V.int).length = ns.length := List.length_map _
    have lb : (ms.map V.int).length = ms.length := List.length_map _
    refine ⟨_, rfl, a, nC K, da, _, _, rfl, ha, c_Numbering T, n_Numbering_places T, numF_places ta, ta, _, rfl, .inr hta, _, rfl, b, nC K, db, _, _, rfl, hb, c_Numbering T, n_Numbering_places T, numF_places tb, tb, _, rfl, .inr htb, rfl, _, rfl, ?_⟩
    rw [la, lb]
    by_cases he : ns.length = ms.length
    · refine iteNS (by rw [he]) ?_
      refine ⟨_, rfl, b, nC K, db, _, _, rfl, hb, c_Numbering T, n_Numbering_places T, numF_places tb, tb, rfl, ⟨_, htb⟩, fun D nD => lc_tup (K := K) (a := tb) (xs := ms.map V.int) (fun i H' => H' D = some (.lst (((mulL ns ms).take i).map V.int)) ∧ Same H H') ⟨upd_same, Same.new nD⟩ (fun i H' _ hp => Same.tup hp.2 htb) ?_ ?_⟩
      · rintro i x H1 hi ⟨hD, s1⟩
        rw [List.getElem?_map] at hi
        cases em : ms[i]? with
        | none => rw [em] at hi; cases hi
        | some m =>
          rw [em] at hi
          cases hi
          have hm2 := hm.get em
          have hg := IsNb.at (ns := ns) hm2.1 (by omega)
          have hg2 : (ns.map V.int)[m.toNat]? = some (.int (ns.getD m.toNat 0)) := by rw [List.getElem?_map, hg]; rfl
          refine ⟨rfl, _, rfl, a, nC K, da, _, _, rfl, s1 _ _ ha, c_Numbering T, n_Numbering_places T, numF_places ta, _, rfl, ta, _, m, _, rfl, rfl, Same.tup s1 hta, at_of (by omega) hg2, _, hD, ?_, ?_, ?_⟩
          · rw [List.length_map, List.length_take, mulL_len]
            have := sizeLine_eq
            have := hm.2.1
            omega
          · have eg : (mulL ns ms)[i]? = some (ns.getD m.toNat 0) := by unfold mulL; rw [List.getElem?_map, em]; rfl
            rw [upd_same, List.take_add_one, eg, List.map_append]
            rfl
          · exact fun c o e => by
              rw [upd_ne (ne_of_none e nD)]
              exact s1 c o e
      · rintro H1 ⟨hD, s1⟩
        rw [lb, List.take_of_length_le (by rw [mulL_len]; exact Nat.le_refl _)] at hD
        refine mk_num (SqL.of' hD) (mulL_nb hn hm he) fun c H' nc s2 hN => ?_
        exact q1 he c H' (s1.free nc) (s1.trans s2) hN
    · refine ifT (by rw [decide_eq_false (fun z => he (by injection z with z; omega))]; rfl) ?_
      have l1 := log_small (show ns.length ≤ 1000 by have := hn.2.1; omega)
      have l2 := log_small (show ms.length ≤ 1000 by have := hm.2.1; omega)
      refine ⟨_, rfl, a, nC K, da, _, _, rfl, ha, c_Numbering T, n_Numbering_places T, numF_places ta, ta, _, rfl, .inr hta, .inr ⟨_, rfl, by rw [la]; exact l1, _, rfl, Jn.le (.app .nil (by rw [la]; exact text_len l1)), _, rfl, Jn.le (.app (.app .nil (by rw [la]; exact text_len l1)) (by decide : _ ≤ 2000)), ?_⟩⟩
      refine ⟨_, rfl, b, nC K, db, _, _, rfl, hb, c_Numbering T, n_Numbering_places T, numF_places tb, tb, _, rfl, .inr htb, .inr ⟨_, rfl, by rw [lb]; exact l2, _, rfl, Jn.le (.app (.app (.app .nil (by rw [la]; exact text_len l1)) (by decide : _ ≤ 2000)) (by rw [lb]; exact text_len l2)), _, rfl, Jn.le (.app (.app (.app (.app .nil (by rw [la]; exact text_len l1)) (by decide : _ ≤ 2000)) (by rw [lb]; exact text_len l2)) (by decide : _ ≤ 2000)), q2 he⟩⟩
def spLenN (K : KF) : Sp := fun vs H Q _ => ∃ (a : Addr) (ns : List Int), vs = [.ref a] ∧ Numb K (nC K) H a ns ∧ Q (.int (ns.length : Int)) H
theorem ok_Numbering___len__ (T : Tx fa fn K mg) {k : Nat} : FnR P w K mg base CX0 (k + 1) (He.ma K (nC K) "__len__") (spLenN K) := by
  obtain ⟨fd, F⟩ := F_Numbering___len__ T
  refine fnr0_of F sc_Numbering___len__ (fun _ _ _ _ _ _ us hl => match us, hl with | [_], _ => rfl) (fun vs H Q E h => ?_) (fun cdv A outer s H vs Q E hr h => ?_)
  · obtain ⟨a, ns, rfl, _⟩ := h
    rfl
  · obtain ⟨a, ns, rfl, ⟨dx, t, ha, hT, _⟩, q⟩ := h
    refine ⟨_, (pss_one (ps_ret (pe_callB call_len_seq (by rfl) (f_len T) PySem.boot_len (pa_cons (pe_fld (pv 0) rfl) pa_nil)))), ?_⟩
    refine ⟨_, rfl, a, nC K, dx, _, _, rfl, ha, c_Numbering T, n_Numbering_places T, numF_places t, t, _, rfl, .inr hT, ?_⟩
    rw [List.length_map]
    exact q
theorem tyx_num (T : Tx fa fn K mg) {H : Hp} {a : Addr} {ns : List Int} (h : Numb K (nC K) H a ns) : TyX K H (.ref a) (.ref (nC K)) := by
  obtain ⟨dx, t, h1, _⟩ := h
  obtain ⟨_, i⟩ := i_Numbering T
  exact .base (.ins h1 (c_Numbering T) i.ca i.cn i.ct i.cm)
theorem ok_Numbering___eq__ (T : Tx fa fn K mg) {k : Nat} : FnR P w K mg base CX0 (k + 1) (He.ma K (nC K) "__eq__") (spEqN K (nC K)) := by
  obtain ⟨fd, F⟩ := F_Numbering___eq__ T
  refine fnr0_of F sc_Numbering___eq__ (fun _ _ _ _ _ _ us hl => match us, hl with | [_, _], _ => rfl) (fun vs H Q E h => ?_) (fun cdv A outer s H vs Q E hr h => ?_)
  · obtain ⟨a, b, ns, ms, rfl, _⟩ := h
    rfl
  · obtain ⟨a, b, ns, ms, rfl, ha, hb, q⟩ := h
    refine ⟨_, (pss_cons (ps_if (pt_not (pt_val (pe_callB call_isi (by rfl) (f_isinstance T) boot_isinstance (pa_cons (pv 1) (pa_cons (pe_glob (v := .ref (He.ga K "Numbering")) (by rfl) (g_Numbering T) rfl) pa_nil)))))
        (pss_one ps_never)
        pss_nil)
      (pss_one (ps_ret (pe_cmpR (op_eqD hr.units) (pe_fld (pv 0) rfl) (pe_fld (pv 1) rfl) (nomark _))))), ?_⟩
    refine ⟨_, rfl, _, _, _, _, _, rfl, .own _, tyx_num T hb, k_Numbering_Numbering T, _, rfl, ifF rfl ?_⟩
    obtain ⟨da, ta, ha, hta, _⟩ := ha
    obtain ⟨db, tb, hb, htb, _⟩ := hb
    refine ⟨_, rfl, a, nC K, da, _, _, rfl, ha, c_Numbering T, n_Numbering_places T, numF_places ta, _, rfl, b, nC K, db, _, _, rfl, hb, c_Numbering T, n_Numbering_places T, numF_places tb, _, _, dp_tupI hta, dp_tupI htb, shaped_tupI _, shaped_tupI _, ?_⟩
    rw [eqv_tupI]
    exact q
end

end K08
set_option Elab.async false
set_option linter.all false
set_option maxRecDepth 100000
set_option maxHeartbeats 2000000
namespace K08
open PySem PySem.Spec PyProof.Rows L2 Ux
section
variable {P : Program} [POk P] {w : World} {K : KF} {mg : Str → Option Value} {base : Heap}
abbrev eNC (K : KF) : Addr := He.ga K "NoCell"
/-- a numbering called -/
def spCallN (K : KF) : Sp := fun vs H Q E => ∃ (a : Addr) (ns : List Int) (i : Int), vs = [.ref a, .int i] ∧ Numb K (nC K) H a ns ∧ ns.length ≤ 1000 ∧ i.natAbs.log2 < 1920 ∧ (0 ≤ i → i < ns.length → ∀ z, ns[i.toNat]? = some z → Q (.int z) H) ∧
  (¬ (0 ≤ i ∧ i < ns.length) → ∀ d, H d = none → E (.ref (eNC K)) (some d) (upd H d (.xd [("cell", .int i)])))
theorem ok_Numbering___call__ (T : Tx fa fn K mg) {k : Nat} : FnR P w K mg base (L2.CX P w) (k + 1) (He.ma K (nC K) "__call__") (spCallN K) := by
  obtain ⟨fd, F⟩ := F_Numbering___call__ T
  refine fnr_of F sc_Numbering___call__ (fun _ _ _ _ _ _ us hl => match us, hl with | [_, _], _ => rfl) (fun vs H Q E h => ?_) (fun cdv A outer s H vs Q E hr h => ?_)
  · obtain ⟨a, ns, i, rfl, _⟩ := h
    rfl
  · obtain ⟨a, ns, i, rfl, ⟨dx, t, ha, hT, _⟩, hl, li, q1, q2⟩ := h
    refine ⟨_, (pss_cons (ps_if (pt_not (pt_chain op_le op_lt pe_int (pv 1) (pe_callB call_len_seq (by rfl) (f_len T) PySem.boot_len (pa_cons (pe_fld (pv 0) rfl) pa_nil))))
        (pss_one (ps_raise rfl (takes_of rfl rfl rfl rfl) (pmk_err (ET_NoCell T) Z_NoCell (inferInstance : POk P) (f_super T) J_NoCell hr (pa_cons (pv 1) pa_nil) (by rfl))))
        pss_nil)
      (pss_one (ps_ret (pe_ix ix_tup (pe_fld (pv 0) rfl) (pv 1) (fun _ _ => rfl))))), ?_⟩
    have la : (ns.map V.int).length = ns.length := List.length_map _
    by_cases h0 : 0 ≤ i
    · refine ⟨_, rfl, _, _, rfl, rfl, _, rfl, ifD h0 ?_⟩
      refine ⟨_, rfl, a, nC K, dx, _, _, rfl, ha, c_Numbering T, n_Numbering_places T, numF_places t, t, _, rfl, .inr hT, _, _, rfl, rfl, _, rfl, ?_⟩
      rw [la]
      by_cases h1 : i < ns.length
      · rw [decide_eq_true h1]
        refine ifF rfl ?_
        have hi : i.toNat < ns.length := by omega
        have e : (ns.map V.int)[i.toNat]? = some (.int ns[i.toNat]) := by rw [List.getElem?_map, List.getElem?_eq_getElem hi]; rfl
        exact ⟨_, rfl, a, nC K, dx, _, _, rfl, ha, c_Numbering T, n_Numbering_places T, numF_places t, _, rfl, t, _, i, _, rfl, rfl, hT, at_of (show i = ((i.toNat : Nat) : Int) by omega) e, q1 h0 h1 _ (List.getElem?_eq_getElem hi)⟩
      · rw [decide_eq_false h1]
        exact ifT rfl ⟨_, rfl, _, rfl, .inl ⟨i, rfl, li⟩, q2 fun z => h1 z.2⟩
    · refine ⟨_, rfl, _, _, rfl, rfl, _, rfl, ifN h0 ⟨_, rfl, ifT rfl ?_⟩⟩
      exact ⟨_, rfl, _, rfl, .inl ⟨i, rfl, li⟩, q2 fun z => h0 z.1⟩
end

end K08
set_option Elab.async false
set_option linter.all false
set_option maxRecDepth 100000
set_option maxHeartbeats 2000000
namespace K08
open PySem PySem.Spec PyProof.Rows L2 Ux
section
variable {P : Program} {w : World} {K : KF} {mg : Str → Option Value} {base : Heap}
theorem ok__law_shuffled (T : Tx fa fn K mg) {k : Nat} : FnR P w K mg base CX0 (k + 2) (He.ga K "_law_shuffled") spShuf := by
  obtain ⟨fd, F⟩ := F__law_shuffled T
  have G__law_draw : FnR P w K mg base CX0 (k + 1) (He.ga K "_law_draw") spDraw := ok__law_draw T
  refine fnr0_of F sc__law_shuffled (fun _ _ _ _ _ _ us hl => match us, hl with | [_, _], _ => rfl) (fun vs H Q E h => ?_) (fun cdv A outer s H vs Q E hr h => ?_)
  · obtain ⟨t, L, c, n, rfl, _⟩ := h
    rfl
  · obtain ⟨t, L, c, n, rfl, hT, hc1, hc2, hn, q⟩ := h
    have hsz : sizeLine = 16777216 := sizeLine_eq
    refine ⟨_, (pss_cons (ps_set (i := 2) sc__law_shuffled.nd rfl (Or.inl rfl) (pe_listRg rfl (by rfl) (f_list T) (prg_1 (by rfl) (f_range T) (pv 1))))
      (pss_cons (ps_set (i := 3) sc__law_shuffled.nd rfl (Or.inl rfl) (pe_lst pa_nil))
      (pss_cons (ps_for PassesOwn.never rfl (pi_range1 (by rfl) (f_range T) (pa_cons (pv 1) pa_nil)) (pg_name (i := 4) sc__law_shuffled.nd rfl (Or.inl rfl))
        (pss_one (ps_expr (pe_bm PySem.F.plainAttrs_list PySem.F.slot_list_append PySem.F.type_list_append mt_append (pv 3) (pa_cons (pe_bm PySem.F.plainAttrs_list PySem.F.slot_list_pop PySem.F.type_list_pop mt_popAt (pv 2) (pa_cons (pe_callR G__law_draw hr (by rfl) (g__law_draw T) (kq__law_draw T) pass0 (pa_cons (pv 0) (pa_cons (pe_callB call_len_seq (by rfl) (f_len T) PySem.boot_len (pa_cons (pv 2) pa_nil)) pa_nil))) pa_nil)) pa_nil)))))
      (pss_one (ps_ret (pv 3)))))), ?_⟩
    obtain ⟨m, rfl⟩ : ∃ m : Nat, c = (m : Int) := ⟨c.toNat, by omega⟩
    refine ⟨_, rfl, _, rfl, RgOk.of_le (by omega) (by omega) (by omega) (by omega), fun l nl => ?_⟩
    rw [rgV_iota]
    refine ⟨Nat.zero_le _, fun p np => ?_⟩
    have hlp : l ≠ p := ne_of_none upd_same np
    have hlt : l ≠ t := hT.ne nl
    have npH : H p = none := (Same.new nl).free np
    have hpt : p ≠ t := hT.ne npH
    have hlL : l ≠ L := hT.neL nl
    have hpL : p ≠ L := hT.neL npH
    refine ⟨_, rfl, (m : Int), rfl, by omega, by omega, for_range (n := m) (fun i σ H' => ∃ (v : Option V) (ls ps : List Int), σ = [some (.ref t), some (.int (m : Int)), some (.ref l), some (.ref p), v] ∧ TapeL H' t L (n + i) ∧ Keep t H H' ∧ H' l = some (.lst (ls.map V.int)) ∧ H' p = some (.lst (ps.map V.int)) ∧ ls.length + i = m ∧ ps.length = i ∧ (ps ++ ls).Perm (iota m)) ?_ ?_ ?_⟩
    · refine ⟨_, iota m, [], rfl, (hT.same (Same.new nl)).same (Same.new np), (Keep.new nl).trans (Keep.new np), ?_, upd_same, iota_len m, rfl, List.Perm.refl _⟩
      rw [upd_ne hlp, upd_same]
    · rintro i σ H1 hi ⟨v, ls, ps, rfl, hT1, k1, hl1, hp1, e1, e2, pm⟩
      have ll : (ls.map V.int).length = ls.length := List.length_map _
      refine ⟨_, rfl, .inl ⟨rfl, _, SqL.of' hp1⟩, _, rfl, .inl ⟨rfl, _, SqL.of' hl1⟩, _, rfl, _, rfl, l, _, rfl, .inl (SqL.of' hl1), t, L, _, n + i, rfl, hT1, by omega, by rw [ll]; omega, by rw [ll]; exact Nat.lt_trans (log_small (by omega)) (by decide), fun r H2 r0 r1 hT2 k2 => ?_⟩
      rw [ll] at r1
      have hl2 := k2 l _ hlt hl1
      have hp2 := k2 p _ hpt hp1
      have hr : r.toNat < ls.length := by omega
      have g : ls[r.toNat]? = some ls[r.toNat] := List.getElem?_eq_getElem hr
      have gV : (ls.map V.int)[r.toNat]? = some (.int ls[r.toNat]) := by rw [List.getElem?_map, g]; rfl
      refine ⟨l, _, r, r.toNat, _, rfl, rfl, hl2, by omega, by omega, ?_, gV, ?_⟩
      · unfold seqIndex?
        rw [ll]
        have h1 : ¬ r < 0 := by omega
        simp only [h1, if_false]
        rw [if_pos (by simp only [Bool.and_eq_true, decide_eq_true_eq]; omega)]
      · rw [era_map]
        have hp3 : upd H2 l (.lst ((ls.eraseIdx r.toNat).map V.int)) p = some (.lst (ps.map V.int)) := by rw [upd_ne hlp.symm]; exact hp2
        refine ⟨p, _, _, rfl, rfl, hp3, by rw [List.length_map]; omega, ?_⟩
        refine ⟨some (.int (0 + (i : Int))), ls.eraseIdx r.toNat, ps ++ [ls[r.toNat]], rfl, ?_, ?_, ?_, ?_, ?_, ?_, ?_⟩
        · exact (hT2.upd hlt hlL).upd hpt hpL
        · exact fun b o nb e => by
            have hbl : b ≠ l := ne_of_none e nl
            have hbp : b ≠ p := ne_of_none e npH
            rw [upd_ne hbp, upd_ne hbl]
            exact k2 b o nb (k1 b o nb e)
        · rw [upd_ne hlp, upd_same]
        · rw [upd_same, List.map_append]
          rfl
        · rw [List.length_eraseIdx_of_lt hr]
          omega
        · rw [List.length_append]
          show ps.length + 1 = i + 1
          omega
        · refine List.Perm.trans ?_ pm
          rw [List.append_assoc]
          exact List.Perm.append_left _ (erase_perm ls r.toNat _ g)
    · rintro σ H1 ⟨v, ls, ps, rfl, hT1, k1, hl1, hp1, e1, e2, pm⟩
      have : ls = [] := List.length_eq_zero_iff.mp (by omega)
      subst this
      rw [List.append_nil] at pm
      exact ⟨_, rfl, q p ps H1 npH k1 (hT1.mono (by omega)) hp1 (by rw [Int.toNat_natCast]; exact pm)⟩
end

end K08
set_option Elab.async false
set_option linter.all false
set_option maxRecDepth 100000
set_option maxHeartbeats 2000000
namespace K08
open PySem PySem.Spec PyProof.Rows L2 Ux
section
variable {P : Program} [POk P] {w : World} {K : KF} {mg : Str → Option Value} {base : Heap}
/-- the turns of a ring -/
def turnsL (n s : Nat) : List (List Int) := (List.range s).map fun (i : Nat) => turnL n ((i : Int) * ((n : Int) / (s : Int)))
theorem turnsL_len (n s : Nat) : (turnsL n s).length = s := by unfold turnsL; rw [List.length_map, List.length_range]
theorem turnsL_get {n s i : Nat} (h : i < s) : (turnsL n s)[i]? = some (turnL n ((i : Int) * ((n : Int) / (s : Int)))) := by
  unfold turnsL
  rw [List.getElem?_map, List.getElem?_range h]
  rfl
/-- the numberings of a ring -/
def ringL (ns : List Int) (s : Nat) : List (List Int) := (List.range s).map fun (i : Nat) => mulL (turnL ns.length ((i : Int) * ((ns.length : Int) / (s : Int)))) ns
theorem ringL_get {ns : List Int} {s i : Nat} (h : i < s) : (ringL ns s)[i]? = some (mulL (turnL ns.length ((i : Int) * ((ns.length : Int) / (s : Int)))) ns) := by
  unfold ringL
  rw [List.getElem?_map, List.getElem?_range h]
  rfl
theorem ringL_len (ns : List Int) (s : Nat) : (ringL ns s).length = s := by unfold ringL; rw [List.length_map, List.length_range]
def spRing (K : KF) : Sp := fun vs H Q E => ∃ (b : Addr) (ns : List Int) (s : Int), vs = [.ref b, .int s] ∧ Numb K (nC K) H b ns ∧ IsNb ns ∧ s.natAbs.log2 < 1920 ∧
  (1 ≤ s → (ns.length : Int) % s = 0 → ∀ r H' (na : List Addr), H r = none → Same H H' → SqT K H' r (na.map V.ref) → NumsAt K (nC K) H' na (ringL ns s.toNat) → Q (.ref r) H') ∧
  (¬ (1 ≤ s ∧ (ns.length : Int) % s = 0) → E (.ref (eBS K)) none H)
theorem ok_ring (T : Tx fa fn K mg) {k : Nat} : FnR P w K mg base (L2.CX P w) (k + 4) (He.ga K "ring") (spRing K) := by
  obtain ⟨fd, F⟩ := F_ring T
  have G_Numbering___len__ : FnR P w K mg base CX0 (k + 1) _ _ := ok_Numbering___len__ T
  have G_Numbering_turn : FnR P w K mg base (L2.CX P w) (k + 3) _ _ := ok_Numbering_turn T
  have G_Numbering___mul__ : FnR P w K mg base (L2.CX P w) (k + 3) _ _ := ok_Numbering___mul__ T
  refine fnr_of F sc_ring (fun _ _ _ _ _ _ us hl => match us, hl with | [_, _], _ => rfl) (fun vs H Q E h => ?_) (fun cdv A outer s H vs Q E hr h => ?_)
  · obtain ⟨b, ns, z, rfl, _⟩ := h
    rfl
  · obtain ⟨b, ns, z, rfl, hb, hn, lz, q1, q2⟩ := h
    refine ⟨_, (pss_cons (ps_set (i := 2) sc_ring.nd rfl (Or.inr rfl) (pe_callB (call_lenO (o_Numbering___len__ T) G_Numbering___len__ (hr.mono (by omega)) pass0) (by rfl) (f_len T) PySem.boot_len (pa_cons (pv 0) pa_nil)))
      (pss_cons (ps_if (PW.pt (pw_or (pt_cmpR op_lt (pv 1) pe_int (nomark _)) (pw_or1 (pt_cmpR op_ne (pe_op op_mod (pv 2) (pv 1)) pe_int (nomark _)))))
        (pss_one (ps_raise rfl (takes_of rfl rfl rfl rfl) (SkE.pmk_own1 PySem.F.excBase_ValueError (x_BadSize T).1 (g_BadSize T) (x_BadSize T).2.1 (raises_own (x_BadSize T).2.2.1 (x_BadSize T).2.2.2) (by rfl) (pe_joined (PJ.cons pe_str (PJ.cons (pe_fmt (pv 1)) (PJ.cons pe_str (PJ.cons (pe_fmt (pv 2)) (PJ.cons pe_str PJ.nil)))))))))
        pss_nil)
      (pss_cons (ps_setLc (i := 3) (own := [("i", 4)]) (g := gName 4) (tt := tYes) rfl sc_ring.nd rfl rfl (sw_true rfl rfl rfl (by decide +kernel)) (pi_range1 (by rfl) (f_range T) (pa_cons (pv 1) pa_nil)) (blkOk_by (N := N_ring) (sc := defScope s_ring) (by decide +kernel)) (fun _ _ _ _ _ => pg_name (i := 4) sc_ring.nd rfl (Or.inl rfl)) (fun _ _ _ _ _ => by exact pts_nil) (fun _ _ _ _ _ => by exact (ClX.pe_cmeth (pe_glob (v := .ref (He.ga K "Numbering")) (by rfl) (g_Numbering T) rfl) (r_Numbering T) (cm_Numbering_turn T) G_Numbering_turn (hr.mono (by omega)) passL (pa_cons (pv 2) (pa_cons (pe_op op_mul (pv 4) (pe_op op_fdivW (pv 2) (pv 1))) pa_nil)))))
      (pss_one (ps_ret (pe_callTy call_tuple_of (by rfl) (f_tuple T) boot_tuple (pa_cons (pe_lc (own := [("turn", 5)]) (g := gName 5) (tt := tYes) rfl sc_ring.nd (pi_list (pv 3)) (blkOk_by (N := N_ring) (sc := defScope s_ring) (by decide +kernel)) (fun _ _ _ _ _ => pg_name (i := 5) sc_ring.nd rfl (Or.inl rfl)) (fun _ _ _ _ _ => by exact pts_nil) (fun _ _ _ _ _ => by exact (pe_op (op_bin (o_Numbering___mul__ T) G_Numbering___mul__ (hr.mono (by omega)) passL) (pv 5) (pv 0)))) pa_nil))))))), ?_⟩
    obtain ⟨dx, tb, hb1, hb2, hb3⟩ := id hb
    have n1 := hn.1
    have n12 := hn.2.1
    have ln := log_small (show ns.length ≤ 1000 by omega)
    have hsl : sizeLine = 16777216 := sizeLine_eq
    refine ⟨_, rfl, b, dx, _, rfl, hb1, b, ns, rfl, hb, _, rfl, by omega, by omega, ?_⟩
    by_cases h1 : z < 1
    · refine ⟨_, rfl, _, _, rfl, rfl, _, rfl, ifD h1 (ifT rfl ?_)⟩
      exact ⟨_, rfl, Jn.le (.app .nil (by decide : _ ≤ 2000)), _, rfl, .inr ⟨_, rfl, lz, _, rfl, Jn.le (.app (.app .nil (by decide : _ ≤ 2000)) (text_len lz)), _, rfl, Jn.le (.app (.app (.app .nil (by decide : _ ≤ 2000)) (text_len lz)) (by decide : _ ≤ 2000)), _, rfl, .inr ⟨_, rfl, ln, _, rfl, Jn.le (.app (.app (.app (.app .nil (by decide : _ ≤ 2000)) (text_len lz)) (by decide : _ ≤ 2000)) (text_len ln)), _, rfl, Jn.le (.app (.app (.app (.app (.app .nil (by decide : _ ≤ 2000)) (text_len lz)) (by decide : _ ≤ 2000)) (text_len ln)) (by decide : _ ≤ 2000)), q2 fun f => by omega⟩⟩⟩
    refine ⟨_, rfl, _, _, rfl, rfl, _, rfl, ifN h1 ⟨_, rfl, _, rfl, _, _, rfl, rfl, by omega, rfl, _, rfl, ?_⟩⟩
    by_cases h2 : (ns.length : Int) % z = 0
    · refine ifF (by show (!decide (V.int _ = V.int 0)) = false; rw [h2]; rfl) ?_
      have z1 : 1 ≤ z := by omega
      have zn : z ≤ ns.length := by
        by_cases hz : (ns.length : Int) < z
        · rw [Int.emod_eq_of_lt (by omega) hz] at h2
          omega
        · omega
      have ez : ((z.toNat : Nat) : Int) = z := by omega
      refine ⟨_, rfl, z, rfl, by omega, by omega, fun D nD => lc_range (lo := 0) (n := z.toNat) (fun i H' => ∃ na : List Addr, H' D = some (.lst (na.map V.ref)) ∧ NumsAt K (nC K) H' na ((turnsL ns.length z.toNat).take i) ∧ Same H H') ⟨[], upd_same, NumsAt.nil, Same.new nD⟩ ?_ ?_⟩
      · rintro i H1 hi ⟨na, hD, hN, s1⟩
        have hlen : na.length ≤ i := by rw [hN.1, List.length_take]; omega
        refine ⟨rfl, rfl, _, rfl, _, rfl, _, rfl, _, rfl, _, _, rfl, rfl, ⟨by omega, Nat.lt_trans lz (by decide)⟩, _, _, rfl, rfl, .inl ⟨by omega, by omega⟩, ?_⟩
        refine ⟨_, _, rfl, ln, fun _ _ a H2 na2 s2 hA => ?_, fun f => absurd ⟨by omega, by omega⟩ f⟩
        have hD2 := s2 _ _ hD
        refine ⟨_, hD2, by rw [List.length_map]; omega, na ++ [a], by rw [upd_same, List.map_append]; rfl, ?_, fun c o e => ?_⟩
        · rw [List.take_add_one, turnsL_get hi]
          have ei : (0 + (i : Int)) * ((ns.length : Int) / z) = (i : Int) * ((ns.length : Int) / ((z.toNat : Nat) : Int)) := by rw [Int.zero_add, ez]
          have hA2 : Numb K (nC K) H2 a (turnL ns.length ((i : Int) * ((ns.length : Int) / ((z.toNat : Nat) : Int)))) := by
            rw [← ei]
            exact hA
          exact ((hN.same s2).snoc hA2).keep Keep.set ⟨_, hD2⟩
        · rw [upd_ne (ne_of_none e nD)]
          exact s2 _ _ (s1 c o e)
      · rintro H1 ⟨na, hD, hN, s1⟩
        rw [List.take_of_length_le (by rw [turnsL_len]; exact Nat.le_refl _)] at hN
        have hlen : na.length = z.toNat := by rw [hN.1, turnsL_len]
        refine ⟨_, rfl, D, rfl, ⟨_, SqL.of' hD⟩, fun D2 nD2 => lc_list (K := K) (a := D) (xs := na.map V.ref) (fun i H' => ∃ ra : List Addr, H' D2 = some (.lst (ra.map V.ref)) ∧ NumsAt K (nC K) H' ra ((ringL ns z.toNat).take i) ∧ Same H1 H') ⟨[], upd_same, NumsAt.nil, Same.new nD2⟩ (fun i H' _ hp => let ⟨_, _, _, s⟩ := hp; SqL.of' (s _ _ hD)) ?_ ?_⟩
        · rintro i x H3 hx ⟨ra, hD2, hR, s3⟩
          have hi : i < z.toNat := by
            have := (List.getElem?_eq_some_iff.mp hx).1
            rw [List.length_map, hlen] at this
            exact this
          have hrl : ra.length ≤ i := by rw [hR.1, List.length_take]; omega
          have er : (na.map V.ref)[i]? = some (.ref na[i]) := by rw [List.getElem?_map, List.getElem?_eq_getElem (by omega)]; rfl
          cases er.symm.trans hx
          have hT := hN.2 i na[i] _ (List.getElem?_eq_getElem (by omega)) (turnsL_get hi)
          refine ⟨rfl, _, rfl, _, rfl, rMul (hT.same s3) (hb.same (s1.trans s3)) (turnL_nb _ n1 n12) hn (turnL_len _ _) fun c H4 nc s4 hC => ?_⟩
          have hD4 := s4 _ _ hD2
          refine ⟨_, hD4, by rw [List.length_map]; omega, ra ++ [c], by rw [upd_same, List.map_append]; rfl, ?_, fun c o e => ?_⟩
          · rw [List.take_add_one, ringL_get hi]
            exact ((hR.same s4).snoc hC).keep Keep.set ⟨_, hD4⟩
          · rw [upd_ne (ne_of_none e nD2)]
            exact s4 _ _ (s3 c o e)
        · rintro H3 ⟨ra, hD2, hR, s3⟩
          rw [List.length_map, List.take_of_length_le (by rw [ringL_len]; omega)] at hR
          refine ⟨D2, _, rfl, .inl ⟨SqL.of' hD2, fun r nr => ?_⟩⟩
          have s13 := s1.trans s3
          exact q1 z1 h2 r _ ra (s13.free nr) (s13.trans (Same.new nr)) (SqT.of' upd_same) (hR.same (Same.new nr))
    · refine ifT (by show (!decide (V.int _ = V.int 0)) = true; rw [decide_eq_false (fun z => h2 (by injection z))]; rfl) ?_
      exact ⟨_, rfl, Jn.le (.app .nil (by decide : _ ≤ 2000)), _, rfl, .inr ⟨_, rfl, lz, _, rfl, Jn.le (.app (.app .nil (by decide : _ ≤ 2000)) (text_len lz)), _, rfl, Jn.le (.app (.app (.app .nil (by decide : _ ≤ 2000)) (text_len lz)) (by decide : _ ≤ 2000)), _, rfl, .inr ⟨_, rfl, ln, _, rfl, Jn.le (.app (.app (.app (.app .nil (by decide : _ ≤ 2000)) (text_len lz)) (by decide : _ ≤ 2000)) (text_len ln)), _, rfl, Jn.le (.app (.app (.app (.app (.app .nil (by decide : _ ≤ 2000)) (text_len lz)) (by decide : _ ≤ 2000)) (text_len ln)) (by decide : _ ≤ 2000)), q2 fun f => h2 f.2⟩⟩⟩
end

end K08
set_option Elab.async false
set_option linter.all false
set_option maxRecDepth 100000
set_option maxHeartbeats 2000000
namespace K08
open PySem PySem.Spec PyProof.Rows L2 Ux
section
variable {P : Program} [POk P] {w : World} {K : KF} {mg : Str → Option Value} {base : Heap}
def spRef (K : KF) : Sp := fun vs H Q _ => ∃ (b : Addr) (ns : List Int) (z : Int), vs = [.ref b, .int z] ∧ Numb K (nC K) H b ns ∧ IsNb ns ∧ z.natAbs.log2 < 1920 ∧ ¬ (1 ≤ z ∧ (ns.length : Int) % z = 0) ∧ Q (.bl true) H
theorem ok__law_refused (T : Tx fa fn K mg) {k : Nat} : FnR P w K mg base CX0 (k + 5) (He.ga K "_law_refused") (spRef K) := by
  obtain ⟨fd, F⟩ := F__law_refused T
  have G_ring : FnR P w K mg base (L2.CX P w) (k + 4) _ _ := ok_ring T
  refine fnr0_of F sc__law_refused (fun _ _ _ _ _ _ us hl => match us, hl with | [_, _], _ => rfl) (fun vs H Q E h => ?_) (fun cdv A outer s H vs Q E hr h => ?_)
  · obtain ⟨b, ns, z, rfl, _⟩ := h
    rfl
  · obtain ⟨b, ns, z, rfl, hb, hn, lz, hz, q⟩ := h
    refine ⟨_, (pss_cons (ps_tryG rfl rfl takes0
        (fun W pn xe tk _ => by exact (pss_one (ps_expr (pe_callRS G_ring hr (by rfl) (g_ring T) (kq_ring T) (fun σ => passAt tk σ) (pa_cons (pv 0) (pa_cons (pv 1) pa_nil))))))
        (HdG.named (i := 2) ⟨by rfl, by decide, .inl (g_BadSize T)⟩ sc__law_refused.nd rfl rfl (fun a oe cls d pn hz hf => by exact (pss_one (ps_ret (pe_and (pe_callB (call_isG K hz hf) (by rfl) (f_isinstance T) boot_isinstance (pa_cons (pv 2) (pa_cons (pe_glob (v := .ref (He.ga K "HallError")) (by rfl) (g_HallError T) rfl) pa_nil))) (pe_and (pe_not (pe_callB (call_isG K hz hf) (by rfl) (f_isinstance T) boot_isinstance (pa_cons (pv 2) (pa_cons (pe_glob (v := .ref (He.ga K "BadNumbering")) (by rfl) (g_BadNumbering T) rfl) pa_nil)))) (pe_one (pe_not (pe_callB (call_isG K hz hf) (by rfl) (f_isinstance T) boot_isinstance (pa_cons (pv 2) (pa_cons (pe_glob (v := .ref (He.ga K "NoObstacle")) (by rfl) (g_NoObstacle T) rfl) pa_nil)))))))))) (HdG.anon ⟨by rfl, by decide, .inl (g_HallError T)⟩ (fun a oe cls d pn hz hf => by exact (pss_one (ps_ret pe_bl))) HdG.nil)))
      (pss_one (ps_ret pe_bl))), ?_⟩
    refine ⟨_, rfl, _, rfl, b, ns, z, rfl, hb, hn, lz, fun h1 h2 => absurd ⟨h1, h2⟩ hz, fun _ => ⟨true, exm_BadSize_BadSize T, fun _ x nx => ?_, fun z => nomatch z⟩⟩
    exact ⟨_, rfl, _, _, _, _, rfl, e_BadSize T, .inl rfl, rfl, fun _ r => r, kit_BadSize_HallError T, _, rfl, ifT rfl ⟨_, rfl, _, _, _, _, rfl, e_BadSize T, .inl rfl, rfl, fun _ r => r, kit_BadSize_BadNumbering T, _, rfl, _, rfl, ifT rfl ⟨_, rfl, _, _, _, _, rfl, e_BadSize T, .inl rfl, rfl, fun _ r => r, kit_BadSize_NoObstacle T, _, rfl, q⟩⟩⟩
def shL (ns : List Int) (d c : Int) : List Int := ns.map fun p => (p + d) % c
theorem shL_len (ns : List Int) (d c : Int) : (shL ns d c).length = ns.length := List.length_map _
theorem mul_turn_sh {ns : List Int} (hn : IsNb ns) (d : Int) : mulL (turnL ns.length d) ns = shL ns d (ns.length : Int) := by
  unfold mulL shL
  refine List.map_congr_left fun p hp => ?_
  have := iota_mem.mp (hn.2.2.mem_iff.mp hp)
  rw [getD_of (turnL_get d (i := p.toNat) (by omega)) (Int.toNat_of_nonneg this.1).symm, Int.toNat_of_nonneg this.1]
theorem sh_zero {ns : List Int} (hn : IsNb ns) : shL ns 0 (ns.length : Int) = ns := by
  unfold shL
  refine (List.map_congr_left fun p hp => ?_).trans (List.map_id _)
  have := iota_mem.mp (hn.2.2.mem_iff.mp hp)
  rw [Int.add_zero, Int.emod_eq_of_lt this.1 this.2]
  rfl
theorem ok_law (T : Tx fa fn K mg) : ∃ fd, (∀ (s : Shared) (u : Value), BindsTo s fd ⟨[u], []⟩ [("_law_script", u)]) ∧ ∀ base : Heap, FnOk P w K mg base CX0 7 (He.ga K "law") fd ["_law_script"] (spLaw K) := by
  obtain ⟨fd, F⟩ := F_law T
  have hb := FunD.bindsA (ps := ["_law_script"]) F fun _ _ _ _ _ _ us hl => match us, hl with | [_], _ => rfl
  refine ⟨fd, fun s u => hb s [u] rfl, fun base => ?_⟩
  have G__law_begin : FnR P w K mg base CX0 1 _ _ := ok__law_begin T
  have G__law_draw : FnR P w K mg base CX0 1 _ _ := ok__law_draw T
  have G__law_shuffled : FnR P w K mg base CX0 2 _ _ := ok__law_shuffled T
  have G__law_same : FnR P w K mg base CX0 3 _ (spSame K 2) := ok__law_same T 2 3 (by decide)
  have G__law_refused : FnR P w K mg base CX0 5 _ _ := ok__law_refused T
  have G_ring : FnR P w K mg base (L2.CX P w) 4 _ _ := ok_ring T
  have G_Numbering___init__ : FnR P w K mg base (L2.CX P w) 1 _ _ := ok_Numbering___init__ T
  have G_Numbering___call__ : FnR P w K mg base (L2.CX P w) 1 _ _ := ok_Numbering___call__ T
  have G_Numbering___eq__ : FnR P w K mg base CX0 1 _ _ := ok_Numbering___eq__ T
  refine F.ok sc_law (fun vs H Q E h => ?_) (fun cdv A outer s H vs Q E hr h => ?_)
  · obtain ⟨a, ns, rfl, _⟩ := h
    rfl
  · obtain ⟨a, ns, rfl, hS, hlen, q⟩ := h
    refine ⟨_, PSs.nox (pss_cons (ps_set (i := 1) sc_law.nd rfl (Or.inl rfl) (pe_callR G__law_begin (hr.mono (by decide)) (by rfl) (g__law_begin T) (kq__law_begin T) pass0 (pa_cons (pv 0) pa_nil)))
      (pss_cons (ps_set (i := 2) sc_law.nd rfl (Or.inr rfl) (pe_op op_add pe_int (pe_callR G__law_draw (hr.mono (by decide)) (by rfl) (g__law_draw T) (kq__law_draw T) pass0 (pa_cons (pv 1) (pa_cons pe_int pa_nil)))))
      (pss_cons (ps_set (i := 3) sc_law.nd rfl (Or.inl rfl) (pe_callR G__law_shuffled (hr.mono (by decide)) (by rfl) (g__law_shuffled T) (kq__law_shuffled T) pass0 (pa_cons (pv 1) (pa_cons (pv 2) pa_nil))))
      (pss_cons (ps_set (i := 4) sc_law.nd rfl (Or.inl rfl) (StX.pe_makeR (m_Numbering T) G_Numbering___init__ (hr.mono (by decide)) (by rfl) (g_Numbering T) passL (pa_cons (pe_callTy call_list_of (by rfl) (f_list T) boot_list (pa_cons (pv 3) pa_nil)) pa_nil)))
      (pss_cons (ps_for PassesOwn.never rfl (pi_range2 (by rfl) (f_range T) (pa_cons pe_int (pa_cons (pe_op op_add (pv 2) pe_int) pa_nil))) (pg_name (i := 5) sc_law.nd rfl (Or.inl rfl))
        (pss_one (ps_if (pt_cmpR op_ne (pe_op op_mod (pe_callTy call_int1 (by rfl) (f_int T) boot_int (pa_cons (pv 2) pa_nil)) (pv 5)) pe_int (nomark _))
          (pss_one (ps_if (pt_not (pt_val (pe_callR G__law_refused (hr.mono (by decide)) (by rfl) (g__law_refused T) (kq__law_refused T) pass0 (pa_cons (pv 4) (pa_cons (pv 5) pa_nil)))))
            (pss_one (ps_ret pe_bl))
            pss_nil))
          (pss_cons (ps_set (i := 6) sc_law.nd rfl (Or.inl rfl) (pe_callR G_ring (hr.mono (by decide)) (by rfl) (g_ring T) (kq_ring T) passL (pa_cons (pv 4) (pa_cons (pv 5) pa_nil))))
          (pss_cons (ps_if (PW.pt (pw_or (pt_not (pt_val (pe_callB call_isi (by rfl) (f_isinstance T) boot_isinstance (pa_cons (pv 6) (pa_cons (pe_bltn (v := .ty "tuple") (by rfl) (f_tuple T) boot_tuple rfl) pa_nil))))) (pw_or1 (pt_cmpR op_ne (pe_callB call_len_seq (by rfl) (f_len T) PySem.boot_len (pa_cons (pv 6) pa_nil)) (pv 5) (nomark _)))))
            (pss_one (ps_ret pe_bl))
            pss_nil)
          (pss_cons (ps_for PassesOwn.never rfl (pi_range1 (by rfl) (f_range T) (pa_cons (pv 5) pa_nil)) (pg_name (i := 7) sc_law.nd rfl (Or.inl rfl))
            (pss_cons (ps_set (i := 8) sc_law.nd rfl (Or.inr rfl) (pe_op op_mul (pv 7) (pe_op op_fdivW (pv 2) (pv 5))))
            (pss_cons (ps_set (i := 9) sc_law.nd rfl (Or.inl rfl) (pe_callTy call_tuple_of (by rfl) (f_tuple T) boot_tuple (pa_cons (pe_lc (own := [("_law_place", 11)]) (g := gName 11) (tt := tYes) rfl sc_law.nd (pi_list (pv 3)) (blkOk_by (N := N_law) (sc := defScope s_law) (by decide +kernel)) (fun _ _ _ _ _ => pg_name (i := 11) sc_law.nd rfl (Or.inl rfl)) (fun _ _ _ _ _ => by exact pts_nil) (fun _ _ _ _ _ => by exact (pe_op op_mod (pe_callTy call_int1 (by rfl) (f_int T) boot_int (pa_cons (pe_op op_add (pv 11) (pv 8)) pa_nil)) (pv 2)))) pa_nil)))
            (pss_one (ps_if (PW.pt (pw_or (pt_not (pt_val (pe_callB call_isi (by rfl) (f_isinstance T) boot_isinstance (pa_cons (pe_ix ix_tup (pv 6) (pv 7) (fun _ _ => rfl)) (pa_cons (pe_glob (v := .ref (He.ga K "Numbering")) (by rfl) (g_Numbering T) rfl) pa_nil))))) (pw_or (pt_not (pt_val (pe_callR G__law_same (hr.mono (by decide)) (by rfl) (g__law_same T) (kq__law_same T) pass0 (pa_cons (pe_fld (pe_ix ix_tup (pv 6) (pv 7) (fun _ _ => rfl)) rfl) (pa_cons (pv 9) pa_nil))))) (pw_or1 (pt_not (pt_val (pe_callR G__law_same (hr.mono (by decide)) (by rfl) (g__law_same T) (kq__law_same T) pass0 (pa_cons (pe_callP (pe_ix ix_tup (pv 6) (pv 7) (fun _ _ => rfl)) (o_Numbering___call__ T).callO G_Numbering___call__ (hr.mono (by decide)) passL (pa_cons pe_int pa_nil)) (pa_cons (pe_ix ix_tup (pv 9) pe_int (fun _ _ => rfl)) pa_nil)))))))))
              (pss_one (ps_ret pe_bl))
              pss_nil)))))
          (pss_one (ps_if (pt_not (pt_val (pe_callR G__law_same (hr.mono (by decide)) (by rfl) (g__law_same T) (kq__law_same T) pass0 (pa_cons (pe_cmpR (op_eqO (o_Numbering___eq__ T) G_Numbering___eq__ (hr.mono (by decide)) pass0) (pe_ix ix_tup (pv 6) pe_int (fun _ _ => rfl)) (pv 4) (nomark _)) (pa_cons pe_bl pa_nil)))))
            (pss_one (ps_ret pe_bl))
            pss_nil))))))))
      (pss_cons (ps_for PassesOwn.never rfl (pi_list (pe_lst (pa_cons pe_int (pa_cons (pe_un un_neg pe_int) (pa_cons (pe_op op_sub (pe_un un_neg pe_int) (pe_callR G__law_draw (hr.mono (by decide)) (by rfl) (g__law_draw T) (kq__law_draw T) pass0 (pa_cons (pv 1) (pa_cons pe_int pa_nil)))) (pa_cons (pe_op op_add (pe_op op_add (pv 2) pe_int) (pe_callR G__law_draw (hr.mono (by decide)) (by rfl) (g__law_draw T) (kq__law_draw T) pass0 (pa_cons (pv 1) (pa_cons (pe_op op_pow pe_int pe_int) pa_nil)))) pa_nil)))))) (pg_name (i := 10) sc_law.nd rfl (Or.inl rfl))
        (pss_one (ps_if (pt_not (pt_val (pe_callR G__law_refused (hr.mono (by decide)) (by rfl) (g__law_refused T) (kq__law_refused T) pass0 (pa_cons (pv 4) (pa_cons (pv 10) pa_nil)))))
          (pss_one (ps_ret pe_bl))
          pss_nil)))
      (pss_one (ps_ret (pe_callR G__law_same (hr.mono (by decide)) (by rfl) (g__law_same T) (kq__law_same T) pass0 (pa_cons (pe_fld (pv 4) rfl) (pa_cons (pe_callTy call_tuple_of (by rfl) (f_tuple T) boot_tuple (pa_cons (pv 3) pa_nil)) pa_nil))))))))))), ?_⟩
    have hsl : sizeLine = 16777216 := sizeLine_eq
    refine ⟨_, rfl, a, ns, rfl, hS, hlen, fun t L H1 s1 nt hT1 => ?_⟩
    refine ⟨_, rfl, t, L, 12, 0, rfl, hT1, by decide, by decide, by decide, fun r0 H2 r0a r0b hT2 k2 => ⟨_, _, rfl, rfl, ?_⟩⟩
    refine ⟨_, rfl, _, rfl, t, L, 1 + r0, 1, rfl, hT2, by omega, by omega, by decide, fun l1 n1 H3 nl1 k3 hT3 e1 p1 => ?_⟩
    obtain ⟨b1, len1⟩ := nb_of_perm p1 (by omega) (by omega)
    have t1 := hT2.ne nl1
    refine ⟨_, rfl, l1, _, rfl, .inl (SqL.of' e1), fun q1 nq1 => ?_⟩
    refine mk_num (SqL.of' upd_same) b1 fun a1 H6 na1 s6 hA => ?_
    replace s6 := (Same.new nq1).trans s6
    have hT6 := hT3.same s6
    replace e1 := s6 _ _ e1
    clear hT1 hT2 hT3 k2 k3 nl1 s1 nt s6
    have nl1t : l1 ≠ t := t1
    have ln : n1.length = (1 + r0).toNat := len1
    have c1 : 1 ≤ 1 + r0 := by omega
    have c12 : 1 + r0 ≤ 12 := by omega
    have en : (n1.length : Int) = 1 + r0 := by omega
    refine ⟨_, rfl, _, _, rfl, rfl, 1, 1 + r0 + 2, rfl, ⟨by omega, by omega, by omega, by omega⟩, for_range (lo := 1) (n := (1 + r0 + 2 - 1).toNat) (fun i σ H' => ∃ v5 v6 v7 v8 v9 v10 v11, σ = [some (.ref a), some (.ref t), some (.int (1 + r0)), some (.ref l1), some (.ref a1), v5, v6, v7, v8, v9, v10, v11] ∧ Same H6 H') ⟨_, _, _, _, _, _, _, rfl, Same.refl _⟩ ?_ ?_⟩
    · rintro i σ H7 hi ⟨v5, v6, v7, v8, v9, v10, v11, rfl, s7⟩
      have hA7 := hA.same s7
      have z1 : 0 < 1 + (i : Int) := by omega
      have lz : (1 + (i : Int)).natAbs.log2 < 1920 := log_big (by omega)
      refine ⟨_, rfl, .inl ⟨_, rfl, _, rfl, _, _, rfl, rfl, z1, rfl, _, rfl, ?_⟩⟩
      by_cases hd : (1 + r0) % (1 + (i : Int)) = 0
      · refine ifF (by show (!decide (V.int _ = V.int 0)) = false; rw [hd]; rfl) ?_
        refine ⟨_, rfl, _, rfl, a1, n1, _, rfl, hA7, b1, lz, fun _ _ r H8 na nr s8 hr8 hN => ?_, fun f => absurd ⟨by omega, by rw [en]; exact hd⟩ f⟩
        have lr : (na.map V.ref).length = (1 + (i : Int)).toNat := by rw [List.length_map, hN.1, ringL_len]
        refine ⟨_, rfl, _, _, _, _, _, rfl, .ty _, (tyx_tup hr8), kit_ty kit_tt, _, rfl, ifF rfl ⟨_, rfl, r, _, rfl, .inr hr8, _, rfl, rfl, _, rfl, ifF (by rw [lr, decide_eq_true (congrArg V.int (by omega))]; rfl) ?_⟩⟩
        have s78 := s7.trans s8
        refine ⟨_, rfl, _, rfl, by omega, by omega, for_range (lo := 0) (n := (1 + (i : Int)).toNat) (fun j σ H' => ∃ v7 v8 v9 v10 v11, σ = [some (.ref a), some (.ref t), some (.int (1 + r0)), some (.ref l1), some (.ref a1), some (.int (1 + (i : Int))), some (.ref r), v7, v8, v9, v10, v11] ∧ Same H8 H') ⟨_, _, _, _, _, rfl, Same.refl _⟩ ?_ ?_⟩
        · rintro j σ H9 hj ⟨v7, v8, v9, v10, v11, rfl, s9⟩
          refine ⟨_, rfl, _, rfl, _, rfl, _, _, rfl, rfl, ⟨z1, Nat.lt_trans lz (by decide)⟩, _, _, rfl, rfl, .inl ⟨by omega, by omega⟩, ?_⟩
          have e9 := s9 _ _ (s78 _ _ e1)
          obtain ⟨st, hst⟩ : ∃ st : Int, st = (0 + (j : Int)) * ((1 + r0) / (1 + (i : Int))) := ⟨_, rfl⟩
          refine ⟨_, rfl, l1, rfl, ⟨_, SqL.of' e9⟩, fun D nD => lc_list (K := K) (a := l1) (xs := n1.map V.int) (fun m H' => H' D = some (.lst (((shL n1 st (1 + r0)).take m).map V.int)) ∧ Same H9 H') ⟨upd_same, Same.new nD⟩ (fun m H' _ hp => SqL.of' (hp.2 _ _ e9)) ?_ ?_⟩
          · rintro m x H10 hx ⟨hD, s10⟩
            rw [List.getElem?_map] at hx
            cases em : n1[m]? with
            | none => rw [em] at hx; cases hx
            | some p =>
              rw [em] at hx
              cases hx
              refine ⟨rfl, _, rfl, _, rfl, _, _, rfl, rfl, .inl ⟨_, rfl, _, rfl, _, _, rfl, rfl, by omega, _, hD, ?_, ?_, fun b o e => ?_⟩⟩
              · rw [List.length_map, List.length_take, shL_len]
                omega
              · have eg : (shL n1 st (1 + r0))[m]? = some ((p + st) % (1 + r0)) := by unfold shL; rw [List.getElem?_map, em]; rfl
                rw [upd_same, List.take_add_one, eg, List.map_append, hst]
                rfl
              · rw [upd_ne (ne_of_none e nD)]
                exact s10 b o e
          · rintro H10 ⟨hD, s10⟩
            rw [List.length_map, List.take_of_length_le (by rw [shL_len]; exact Nat.le_refl _)] at hD
            refine ⟨D, _, rfl, .inl ⟨SqL.of' hD, fun x nx => ?_⟩⟩
            have s11 := s10.trans (Same.new (o := .tup ((shL n1 st (1 + r0)).map V.int)) nx)
            have s811 := s9.trans s11
            have hE : SqT K (upd H10 x (.tup ((shL n1 st (1 + r0)).map V.int))) x ((shL n1 st (1 + r0)).map V.int) := SqT.of' upd_same
            revert hE s11 s811
            generalize upd H10 x (.tup ((shL n1 st (1 + r0)).map V.int)) = H11
            intro s11 s811 hE
            have hjl : j < na.length := by rw [hN.1, ringL_len]; exact hj
            have er : (na.map V.ref)[j]? = some (.ref na[j]) := by rw [List.getElem?_map, List.getElem?_eq_getElem hjl]; rfl
            have hNj := (hN.2 j na[j] _ (List.getElem?_eq_getElem hjl) (ringL_get hj)).same s811
            have em : mulL (turnL n1.length ((j : Int) * ((n1.length : Int) / (((1 + (i : Int)).toNat : Nat) : Int)))) n1 = shL n1 st (1 + r0) := by
              rw [mul_turn_sh b1, en, hst, Int.zero_add]
              congr 2
              try omega
            rw [em] at hNj
            have hrT := Same.tup s811 hr8
            have atj : atI (na.map V.ref) (0 + (j : Int)) = some (.ref na[j]) := at_of (by omega) er
            refine ⟨_, rfl, _, rfl, r, _, _, _, rfl, rfl, hrT, atj, _, _, _, _, _, rfl, .own _, tyx_num T hNj, k_Numbering_Numbering T, _, rfl, ifF rfl ?_⟩
            obtain ⟨dj, tj, hj1, hj2, hj3⟩ := id hNj
            refine ⟨_, rfl, _, rfl, r, _, _, _, rfl, rfl, hrT, atj, na[j], nC K, dj, _, _, rfl, hj1, c_Numbering T, n_Numbering_places T, numF_places tj, _, rfl, _, _, rfl, eqS_tupI hj2 hE (by rw [shL_len]; omega), _, rfl, ifF rfl ?_⟩
            have hs0 : (shL n1 st (1 + r0))[0]? = some ((n1.getD 0 0 + st) % (1 + r0)) := by
              unfold shL
              rw [List.getElem?_map]
              cases n1 with
              | nil => exact absurd b1.1 (by decide)
              | cons y ys => rfl
            refine ⟨_, rfl, _, rfl, r, _, _, _, rfl, rfl, hrT, atj, na[j], rfl, ⟨_, _, hj1⟩, na[j], _, 0, rfl, hNj, by rw [shL_len]; omega, by decide, fun _ _ z hz => ?_, fun f => absurd ⟨by decide, by rw [shL_len]; omega⟩ f⟩
            cases hs0.symm.trans hz
            refine ⟨_, rfl, x, _, 0, _, rfl, rfl, hE, atI_nat (j := 0) (by rw [List.getElem?_map, hs0]; rfl), _, _, rfl, eqS_flat trivial, _, rfl, ifF rfl ?_⟩
            exact ⟨_, _, _, _, _, rfl, s811⟩
        · rintro σ H9 ⟨v7, v8, v9, v10, v11, rfl, s9⟩
          have hj : 0 < (1 + (i : Int)).toNat := by omega
          have hjl : 0 < na.length := by rw [hN.1, ringL_len]; exact hj
          have er : (na.map V.ref)[0]? = some (.ref na[0]) := by rw [List.getElem?_map, List.getElem?_eq_getElem hjl]; rfl
          have hNj := (hN.2 0 na[0] _ (List.getElem?_eq_getElem hjl) (ringL_get hj)).same s9
          have em : mulL (turnL n1.length (((0 : Nat) : Int) * ((n1.length : Int) / (((1 + (i : Int)).toNat : Nat) : Int)))) n1 = n1 := by
            rw [mul_turn_sh b1, show ((0 : Nat) : Int) = 0 from rfl, Int.zero_mul]
            exact sh_zero b1
          rw [em] at hNj
          refine ⟨_, rfl, r, _, 0, _, rfl, rfl, Same.tup s9 hr8, atI_nat (j := 0) er, _, rfl, rEqN hNj (hA7.same (s8.trans s9)) ?_⟩
          rw [decide_eq_true rfl]
          exact ⟨_, _, rfl, eqS_flat trivial, _, rfl, ifF rfl ⟨_, _, _, _, _, _, _, rfl, s78.trans s9⟩⟩
      · refine ifT (by show (!decide (V.int _ = V.int 0)) = true; rw [decide_eq_false (fun z => hd (by injection z))]; rfl) ?_
        exact ⟨_, rfl, _, rfl, a1, n1, _, rfl, hA7, b1, lz, fun f => hd (by rw [← en]; exact f.2), _, rfl, ifF rfl ⟨_, _, _, _, _, _, _, rfl, s7⟩⟩
    · rintro σ H7 ⟨v5, v6, v7, v8, v9, v10, v11, rfl, s7⟩
      have hA7 := hA.same s7
      have hT7 := hT6.same s7
      refine ⟨_, rfl, _, rfl, _, rfl, t, L, 30, _, rfl, hT7, by decide, by decide, by decide, fun d2 H8 d2a d2b hT8 k8 => ⟨_, _, rfl, rfl, ?_⟩⟩
      refine ⟨_, rfl, _, _, rfl, rfl, _, rfl, _, _, rfl, rfl, ⟨by decide, by decide, by decide⟩, t, L, _, _, rfl, hT8, by decide, by decide, by decide, fun d3 H9 d3a d3b hT9 k9 => ⟨_, _, rfl, rfl, ?_⟩⟩
      refine ⟨(by show 4 ≤ sizeLine; decide), fun l3 nl3 => ?_⟩
      have hA9 : Numb K (nC K) H9 a1 n1 := k9.num (tape_lst hT8) (k8.num (tape_lst hT7) hA7)
      have e9 := k9 _ _ nl1t (k8 _ _ nl1t (s7 _ _ e1))
      have sn := Same.new (H := H9) (o := .lst [.int 0, .int (-1), .int (-2 - d2), .int (1 + r0 + 2 + d3)]) nl3
      refine ⟨l3, rfl, ⟨_, SqL.of' upd_same⟩, for_list (K := K) (xs := [.int 0, .int (-1), .int (-2 - d2), .int (1 + r0 + 2 + d3)]) (fun i σ H' => ∃ v10, σ = [some (.ref a), some (.ref t), some (.int (1 + r0)), some (.ref l1), some (.ref a1), v5, v6, v7, v8, v9, v10, v11] ∧ Same H9 H' ∧ H' l3 = some (.lst [.int 0, .int (-1), .int (-2 - d2), .int (1 + r0 + 2 + d3)])) ⟨_, rfl, sn, upd_same⟩ (fun i σ H' _ h => let ⟨_, _, _, h⟩ := h; SqL.of' h) ?_ ?_⟩
      · rintro i x σ H10 hx ⟨v10, rfl, s10, hl10⟩
        obtain ⟨d, rfl, hd1, hd2⟩ : ∃ d : Int, x = .int d ∧ d.natAbs ≤ 10 ^ 31 ∧ ¬ (1 ≤ d ∧ (n1.length : Int) % d = 0) := by
          have := List.mem_of_getElem? hx
          simp only [List.mem_cons, List.not_mem_nil, or_false] at this
          have d3c : d3 < 10 ^ 30 := d3b
          rcases this with h | h | h | h
          · exact ⟨_, h, by omega, fun z => by omega⟩
          · exact ⟨_, h, by omega, fun z => by omega⟩
          · exact ⟨_, h, by omega, fun z => by omega⟩
          · refine ⟨_, h, by omega, fun z => ?_⟩
            have := z.2
            rw [Int.emod_eq_of_lt (by omega) (by omega)] at this
            omega
        exact ⟨_, rfl, _, rfl, a1, n1, d, rfl, hA9.same s10, b1, log_big (by omega), hd2, _, rfl, ifF rfl ⟨_, rfl, s10, hl10⟩⟩
      rintro σ H10 ⟨v10, rfl, s10, -⟩
      obtain ⟨da, ta, ha1, ha2, ha3⟩ := hA9.same s10
      refine ⟨_, rfl, a1, nC K, da, _, _, rfl, ha1, c_Numbering T, n_Numbering_places T, numF_places ta, _, rfl, l1, _, rfl, .inl ⟨SqL.of' (s10 _ _ e9), fun p np => ?_⟩⟩
      exact ⟨_, _, rfl, eqS_tupI (Same.tup (Same.new np) ha2) (SqT.of' upd_same) (by omega), q _⟩
end
theorem end_ {P : Program} [POk P] {w : World} {K : KF} {mg : Str → Option Value} {f : Addr} (T : Tx fa fn K mg) (hmg : mg "law" = some (.ref f)) : ∃ fd, (∀ (s : Shared) (u : Value), BindsTo s fd ⟨[u], []⟩ [("_law_script", u)]) ∧ ∀ base : Heap, FnOk P w K mg base CX0 7 f fd ["_law_script"] (spLaw K) := by
  have e := (g_law T).symm.trans hmg
  cases e
  exact ok_law T

end K08
set_option Elab.async false
set_option linter.all false

open PySem PySem.W PySem.Calls PyProof.Rows
set_option maxRecDepth 100000 in
set_option maxHeartbeats 0 in
theorem PySem.Challenge.cw_ownlabels_k08_rings_of_numberings_holds : PySem.Challenge.rw_ownlabels_k08_rings_of_numberings.Holds := by
  w_on; o_law
  refine HandSHeadRun.head_any (r := OpenLaw.row PySem.Challenge.rw_ownlabels_k08_rings_of_numberings) (q := view (OpenLaw.row PySem.Challenge.rw_ownlabels_k08_rings_of_numberings).prog [18]) (H := K08.hk) (ob := K08.ob) (M := 3000) (loose := K08.loose) (d := HandSHeadRun.topDef (OpenLaw.row PySem.Challenge.rw_ownlabels_k08_rings_of_numberings).prog 18) (kwd := []) K08.ob_eq
    (by kernel_rfl) (fun s => by kernel_rfl) K08.run (by kernel_rfl) (by kernel_rfl) (by kernel_rfl) (by rfl) (by first | assumption | decide +kernel) (by decide +kernel) ⟨rfl, rfl, rfl, rfl, rfl, by decide +kernel⟩ ?hw ?hc
  case hw => w_witness2
  case hc =>
    refine Ux.walk_ofU (l := PySem.Challenge.rw_ownlabels_k08_rings_of_numberings) (n := 63) (m := 6) (x := "_law_script") (k := 7) (CX := fun _ => L2.CX0) (fa := K08.fa) (fn := K08.fn) (sp := K08.spLaw) rfl (by decide) (by kernel_rfl) ⟨rfl, by decide, by decide⟩ ?F (fun K H a ns hl hS => ⟨a, ns, rfl, hS, hl, fun _ => rfl⟩) (fun _ _ _ _ _ z => z)
    intro w K mg af T hmg0
    have hmg : mg ("law" : PySem.Str) = some (.ref af) := by
      have e : (HandSHeadRun.topDef (OpenLaw.row PySem.Challenge.rw_ownlabels_k08_rings_of_numberings).prog 18).name = ("law" : PySem.Str) := by kernel_rfl
      rw [← e]
      exact hmg0
    haveI : Ux.POk (PySem.Challenge.rw_ownlabels_k08_rings_of_numberings).prog := ⟨by decide +kernel, by first | rfl | kernel_rfl⟩
    exact K08.end_ T hmg
